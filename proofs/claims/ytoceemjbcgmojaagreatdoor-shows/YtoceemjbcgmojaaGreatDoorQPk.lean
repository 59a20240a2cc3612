import Derived.Test.YtoceemjbcgmojaaGreatDoorQSh0
import Derived.Test.YtoceemjbcgmojaaGreatDoorQPh
set_option linter.all false
set_option maxRecDepth 100000
set_option maxHeartbeats 2000000
namespace Go.Proofs.YtoceemjbcgmojaaGreatDoor
section
open Go Go.RowKit Go.ChangeMaps
def StepPost(rb sb:Nat)(m:MV)(s:BA)(t:Pu.Tok)(v:Value)(w:World)(e:Ending)(w':World):Prop:=
 Ke rb w w'/\(((qar s t.to).kind≠6/\e=.returned v/\RD w' rb sb m s (qar s t.to) t.to)\/((qar s t.to).kind=6/\e=qd3 (flOf (qar s t.to))))
theorem StepPost.ok{rb sb:Nat}{m:MV}{s:BA}{t:Pu.Tok}{v:Value}{w:World}{e:Ending}{w':World}(h:StepPost rb sb m s t v w e w')(hk:(qar s t.to).kind≠6):e=.returned v/\Ke rb w w'/\RD w' rb sb m s (qar s t.to) t.to:=by
 obtain⟨hb,⟨_,he,hr⟩|⟨hn,_⟩⟩:=h
 .exact⟨he,hb,hr⟩
 .exact absurd hn hk
theorem StepPost.bad{rb sb:Nat}{m:MV}{s:BA}{t:Pu.Tok}{v:Value}{w:World}{e:Ending}{w':World}(h:StepPost rb sb m s t v w e w')(hk:(qar s t.to).kind=6):e=qd3 (flOf (qar s t.to))/\Ke rb w w':=by
 obtain⟨hb,⟨hn,_⟩|⟨_,he⟩⟩:=h
 .exact absurd hk hn
 .exact⟨he,hb⟩
inductive PT(w:World)(P:Nat->Prop):Nd->Value->Prop where
 |var(s:BA)(n f t a:Nat)(x y:Int)(hq:∃r,s.toList=39::r):PT w P (.mk 16 s n [] f t a) (.iface 265 (.agg #[.int .i64 x,.int .i64 y,.string (s.extract 1 s.size)]))
 |fn(s:BA)(n:Nat)(a b:Nd)(f t at_:Nat)(x y:Int)(va vb:Value)(ha:PT w P a va)(hb:PT w P b vb):PT w P (.mk 17 s n [a,b] f t at_) (.iface 267 (.agg #[.int .i64 x,.int .i64 y,va,vb]))
 |pr(s:BA)(n:Nat)(a b:Nd)(f t at_:Nat)(x y:Int)(va vb:Value)(ha:PT w P a va)(hb:PT w P b vb):PT w P (.mk 6 s n [a,b] f t at_) (.iface 269 (.agg #[.int .i64 x,.int .i64 y,va,vb]))
 |up(s:BA)(n:Nat)(L:List Nd)(f t at_:Nat)(x y x' y':Int)(sa:Option Addr)(sc:Nat)(vs:Nat->Value)(hu:UpN s)(hrow:L=[]\/∃g,sa=some ⟨g,0,none⟩/\P g/\g<w.heap.size/\∀i,i<L.length->w.cell? ⟨g,i,none⟩=some (vs i))(hr:∀i(h:i<L.length),PT w P L[i] (vs i)):
  PT w P (.mk 2 s n L f t at_) (.iface 272 (.agg #[.int .i64 x,.int .i64 y,.int .i64 x',.int .i64 y',.string s,.slice sa L.length sc]))
theorem PT.move{w w':World}{P Q:Nat->Prop}{nd:Nd}{v:Value}(h:PT w P nd v)(hs:w.heap.size<=w'.heap.size)(hb:∀b,P b->b<w.heap.size->w'.heap[b]? =w.heap[b]?)(hq:∀b,P b->b<w.heap.size->Q b):PT w' Q nd v:=by
 induction h with
 |var s n f t a x y hq=>exact .var s n f t a x y hq|fn s n a b f t at_ x y va vb _ _ iha ihb=>exact .fn s n a b f t at_ x y va vb iha ihb|pr s n a b f t at_ x y va vb _ _ iha ihb=>exact .pr s n a b f t at_ x y va vb iha ihb|up s n L f t at_ x y x' y' sa sc vs hu hrow hr ih=>
  refine .up s n L f t at_ x y x' y' sa sc vs hu ?_ ih
  rcases hrow with h0|⟨g,h1,hP,hz,hc⟩
  .exact Or.inl h0
  .refine Or.inr ⟨g,h1,hq g hP hz,Nat.lt_of_lt_of_le hz hs,fun i hi=>?_⟩
   rw[World.cell?_of_block (a:=⟨g,i,none⟩) (w:=w) (hb g hP hz)]
   exact hc i hi
theorem PT.bel{w w':World}{P:Nat->Prop}{nd:Nd}{v:Value}(h:PT w P nd v)(hb:Below w.heap.size w w'):PT w' P nd v:=h.move hb.size (fun b _ hz=>hb.block b hz) (fun _ p _=>p)
theorem PT.ke{rb:Nat}{w w':World}{P:Nat->Prop}{nd:Nd}{v:Value}(h:PT w P nd v)(hb:Ke rb w w')(hn:∀b,P b->b≠rb):PT w' P nd v:=h.move hb.size (fun b p hz=>hb.block b hz (hn b p)) (fun _ p _=>p)
theorem PT.wide{w:World}{P Q:Nat->Prop}{nd:Nd}{v:Value}(h:PT w P nd v)(hq:∀b,P b->Q b):PT w Q nd v:=h.move (br _) (fun _ _ _=>rfl) (fun b p _=>hq b p)
def fin{α:Type}(T:List Pu.Tok):Except Fl (α×Nat)->Except Fl (α×Nat)
 |.error f=>.error f|.ok (a,k)=>if(tk T k).kind=6 then .error (flOf (tk T k))else .ok (a,k)
def RulePost(rb sb:Nat)(m:MV)(s:BA)(r:Except Fl (Nd×Nat))(w:World)(e:Ending)(w':World):Prop:=
 Ke rb w w'/\match fin (Pu.toks s 0) r with
  |.error f=>e=qd3 f|.ok (a,k)=>∃v,e=.returned v/\RD w' rb sb m s (tk (Pu.toks s 0) k) (qan (Pu.toks s 0) k)/\k<(Pu.toks s 0).length/\PT w' (fun b=>w.heap.size<=b) a v
theorem RulePost.ok{rb sb:Nat}{m:MV}{s:BA}{r:Except Fl (Nd×Nat)}{w:World}{e:Ending}{w':World}(h:RulePost rb sb m s r w e w'){a:Nd}{k:Nat}(hr:fin (Pu.toks s 0) r=.ok (a,k)):
 ∃v,e=.returned v/\Ke rb w w'/\RD w' rb sb m s (tk (Pu.toks s 0) k) (qan (Pu.toks s 0) k)/\k<(Pu.toks s 0).length/\PT w' (fun b=>w.heap.size<=b) a v:=by
 obtain⟨h1,h2⟩:=h
 rw[hr]at h2
 obtain⟨v,e1,e2,e3,e4⟩:=h2
 exact⟨v,e1,h1,e2,e3,e4⟩
theorem RulePost.bad{rb sb:Nat}{m:MV}{s:BA}{r:Except Fl (Nd×Nat)}{w:World}{e:Ending}{w':World}(h:RulePost rb sb m s r w e w'){f:Fl}(hr:fin (Pu.toks s 0) r=.error f):e=qd3 f/\Ke rb w w':=by
 obtain⟨h1,h2⟩:=h
 rw[hr]at h2
 exact⟨h2,h1⟩
theorem Bx.set3'{w:World}{b:Nat}{C:Array Value}(h:Bx w b C)(hC:C.size=3)(v0 v1 v2:Value):Bx (((w.setCell ⟨b,0,none⟩ v0).setCell ⟨b,1,none⟩ v1).setCell ⟨b,2,none⟩ v2) b #[v0,v1,v2]:=by
 obtain⟨a0,a1,a2,rfl⟩:∃a0 a1 a2,C=#[a0,a1,a2]:=by
  obtain⟨l⟩:=C
  match l,hC with
  |[a,b,c],_=>exact⟨a,b,c,rfl⟩
 exact((h.setS' 0 v0 #[v0,a1,a2] rfl (by simp)).setS' 1 v1 #[v0,v1,a2] rfl (by simp)).setS' 2 v2 #[v0,v1,v2] rfl (by simp)
theorem StepPost.rule{rb sb:Nat}{m:MV}{s:BA}{k:Nat}{v:Value}{w:World}{e:Ending}{w':World}(h:StepPost rb sb m s (tk (Pu.toks s 0) k) v w e w')(hk:k<(Pu.toks s 0).length)(h7:(tk (Pu.toks s 0) k).kind≠7){nd:Nd}(hp:PT w' (fun b=>w.heap.size<=b) nd v):RulePost rb sb m s (.ok (nd,k+1)) w e w':=by
 obtain⟨h1,h2,h3⟩:=qf3 s k hk h7
 unfold StepPost at h
 rw[h2,<-h3]at h
 refine⟨h.1,?_⟩
 unfold fin
 rcases h.2 with⟨g1,g2,g3⟩|⟨g1,g2⟩
 .simp only[if_neg g1]
  exact⟨v,g2,g3,h1,hp⟩
 .simp only[if_pos g1]
  exact g2
section
variable {w:World} {rb sb:Nat} {m:MV} {s:BA} {t:Pu.Tok} {k:Nat}
abbrev zNm:Array Value:=#[.int .i64 0,.int .i64 0,.string ⟨#[]⟩]
theorem name_C(h:RD w rb sb m s t k)(hs:s.size<=1000)(ht:t.to<=s.size)(kd:BA)(hkd:((qaj t).toList==kd.toList)=true):Calls Tryz.prog 309 #[.pointer (some ⟨rb,0,none⟩),.string kd] w (StepPost rb sb m s t (.agg #[.int .i64 (t.frm:Int),.int .i64 (t.to:Int),.string t.text]) w):=by
 obtain⟨n1,n2,n3⟩:=h.new_ne
 have HA:=ai (h.bel (bw (.cells zNm 214)))
 have G0:=ai (Bx.new w zNm 214)
 have K0:=ai (Ke.of (rb:=rb) ((Below.refl _ w).alloc (br _) (.cells zNm 214)))
 by_cases hk:(qar s t.to).kind=6
 .go_enter Tryz.func309,Tryz.ntmps309
  go_wp2_with(go_at_call 108;refine(qdx (uh HA) hs ht kd hkd).mono ?_;intro e w1 hp;obtain⟨rfl,hb⟩:=hp.bad hk;have K1:=ai ((uh K0).trans hb);clear hb)
  exact⟨rfl,uh K1,Or.inr ⟨hk,rfl⟩⟩
 .go_enter Tryz.func309,Tryz.ntmps309
  go_wp2_with(go_at_call 108;refine(qdx (uh HA) hs ht kd hkd).mono ?_;intro e w1 hp;obtain⟨rfl,hb,hr⟩:=hp.ok hk;have K1:=ai (((uh K0).trans hb).below' (bw (.cells (tokC' t) 236)));have G1:=ai (((uh G0).ke' hb n1).alloc (.cells (tokC' t) 236));have R1:=ai (hr.bel (bw (.cells (tokC' t) 236)));obtain⟨g,gf,gz⟩:=uh G1;clear hb hr)
  have BF:=(uh G1).set3' rfl (.int .i64 (t.frm:Int)) (.int .i64 (t.to:Int)) (.string t.text)
  obtain⟨cF,fF,zF⟩:=BF
  exact bodyPost_ret (v:=.agg #[.int .i64 (t.frm:Int),.int .i64 (t.to:Int),.string t.text]) (by simp[results,Tryz.results309,go_sem,cF]) rfl ⟨(uh K1).setNew3 (br _) _ _ _,Or.inl ⟨hk,rfl,(uh R1).set3 n1 n2 n3 _ _ _⟩⟩
theorem name_no(h:RD w rb sb m s t k)(kd:BA)(hkd:((qaj t).toList==kd.toList)=false)(ht:t.kind≠6):Calls Tryz.prog 309 #[.pointer (some ⟨rb,0,none⟩),.string kd] w fun e w'=>e=qd3 (flOf t)/\Ke rb w w':=by
 have HA:=ai (h.bel (bw (.cells zNm 214)))
 have K0:=ai (Ke.of (rb:=rb) ((Below.refl _ w).alloc (br _) (.cells zNm 214)))
 go_enter Tryz.func309,Tryz.ntmps309
 go_wp2_with(go_at_call 108;refine(take_no (uh HA) kd hkd ht).mono ?_;rintro e w1⟨rfl,hb⟩;have K1:=ai ((uh K0).trans hb);clear hb)
 exact⟨rfl,rfl,uh K1⟩
theorem qfb(h:RD w rb sb m s t k)(hs:s.size<=1000)(ht:t.to<=s.size)(hk3:t.kind=3)(ho:qd5 t):Calls Tryz.prog 336 #[.pointer (some ⟨rb,0,none⟩)] w (StepPost rb sb m s t (.agg #[.int .i64 (t.frm:Int),.int .i64 (t.to:Int),.string (t.text.extract 1 t.text.size)]) w):=by
 obtain⟨n1,n2,n3⟩:=h.new_ne
 have HA:=ai (h.bel (bw (.cells zNm 214)))
 have G0:=ai (Bx.new w zNm 214)
 have K0:=ai (Ke.of (rb:=rb) ((Below.refl _ w).alloc (br _) (.cells zNm 214)))
 have hkd:((qaj t).toList==kVar.toList)=true:=by rw[qc1 hk3];simp[ByteArray.toList_eq]
 have hsz:(1:Int)<=(t.text.size:Int):=by
  obtain⟨r,hr⟩:=ho.v3 hk3
  have:=congrArg List.length hr
  rw[ByteArray.toList_eq]at this
  simp at this
  have e:t.text.size=t.text.data.size:=rfl
  omega
 by_cases hk:(qar s t.to).kind=6
 .go_enter Tryz.func336,Tryz.ntmps336
  go_wp2_with(go_at_call 108;refine(qdx (uh HA) hs ht kVar hkd).mono ?_;intro e w1 hp;obtain⟨rfl,hb⟩:=hp.bad hk;have K1:=ai ((uh K0).trans hb);clear hb)
  exact⟨rfl,uh K1,Or.inr ⟨hk,rfl⟩⟩
 .go_enter Tryz.func336,Tryz.ntmps336
  go_wp2_with(go_at_call 108;refine(qdx (uh HA) hs ht kVar hkd).mono ?_;intro e w1 hp;obtain⟨rfl,hb,hr⟩:=hp.ok hk;have K1:=ai (((uh K0).trans hb).below' (bw (.cells (tokC' t) 236)));have G1:=ai (((uh G0).ke' hb n1).alloc (.cells (tokC' t) 236));have R1:=ai (hr.bel (bw (.cells (tokC' t) 236)));obtain⟨g,gf,gz⟩:=uh G1;clear hb hr)
  go_region
  go_wp2_with fail
  have BF:=((uh G1).set3' rfl (.int .i64 (t.frm:Int)) (.int .i64 (t.to:Int)) (.string (t.text.extract 1 t.text.size))).drew'
  obtain⟨cF,fF,zF⟩:=BF
  exact bodyPost_ret (v:=.agg #[.int .i64 (t.frm:Int),.int .i64 (t.to:Int),.string (t.text.extract 1 t.text.size)]) (by simp[results,Tryz.results336,go_sem,cF]) rfl ⟨((uh K1).setNew3 (br _) _ _ _).below' (Below.refl _ _).drew,Or.inl ⟨hk,rfl,((uh R1).set3 n1 n2 n3 _ _ _).bel (Below.refl _ _).drew⟩⟩
theorem typeVar_C(h:RD w rb sb m s t k)(hs:s.size<=1000)(ht:t.to<=s.size)(hk3:t.kind=3)(ho:qd5 t):Calls Tryz.prog 278 #[.pointer (some ⟨rb,0,none⟩)] w (StepPost rb sb m s t (.iface 265 (.agg #[.int .i64 (t.frm:Int),.int .i64 (t.to:Int),.string (t.text.extract 1 t.text.size)])) w):=by
 have HA:=ai h
 by_cases hk:(qar s t.to).kind=6
 .go_enter Tryz.func278,Tryz.ntmps278
  go_wp2_with(go_at_call 336;refine(qfb (uh HA) hs ht hk3 ho).mono ?_;intro e w1 hp;obtain⟨rfl,hb⟩:=hp.bad hk;have K1:=ai hb;clear hb)
  exact⟨rfl,uh K1,Or.inr ⟨hk,rfl⟩⟩
 .go_enter Tryz.func278,Tryz.ntmps278
  go_wp2_with(go_at_call 336;refine(qfb (uh HA) hs ht hk3 ho).mono ?_;intro e w1 hp;obtain⟨rfl,hb,hr⟩:=hp.ok hk;have K1:=ai hb;have R1:=ai hr;clear hb hr)
  go_ret
  exact⟨(uh K1).below' (bw _),Or.inl ⟨hk,rfl,(uh R1).bel (bw _)⟩⟩
theorem bareName_C(h:RD w rb sb m s t k)(hs:s.size<=1000)(ht:t.to<=s.size)(hk2:t.kind=2):Calls Tryz.prog 279 #[.pointer (some ⟨rb,0,none⟩)] w (StepPost rb sb m s t (.iface 272 (.agg #[.int .i64 (t.frm:Int),.int .i64 (t.to:Int),.int .i64 (t.frm:Int),.int .i64 (t.to:Int),.string t.text,.slice none 0 0])) w):=by
 have HA:=ai h
 have hkd:((qaj t).toList==kUp.toList)=true:=by rw[qc0 hk2];simp[ByteArray.toList_eq]
 by_cases hk:(qar s t.to).kind=6
 .go_enter Tryz.func279,Tryz.ntmps279
  go_wp2_with(go_at_call 309;refine(name_C (uh HA) hs ht kUp hkd).mono ?_;intro e w1 hp;obtain⟨rfl,hb⟩:=hp.bad hk;have K1:=ai hb;clear hb)
  exact⟨rfl,uh K1,Or.inr ⟨hk,rfl⟩⟩
 .go_enter Tryz.func279,Tryz.ntmps279
  go_wp2_with(go_at_call 309;refine(name_C (uh HA) hs ht kUp hkd).mono ?_;intro e w1 hp;obtain⟨rfl,hb,hr⟩:=hp.ok hk;have K1:=ai hb;have R1:=ai hr;clear hb hr)
  go_ret
  exact⟨(uh K1).below' (bw _),Or.inl ⟨hk,rfl,(uh R1).bel (bw _)⟩⟩
end
end
section
open Go Go.RowKit Go.ChangeMaps
theorem qal{α:Type}{T:List Pu.Tok}{r:Except Fl (α×Nat)}{a:α}{k:Nat}(h:fin T r=.ok (a,k)):r=.ok (a,k)/\(tk T k).kind≠6:=by
 unfold fin at h
 split at h
 .cases h
 .split at h
  .cases h
  .cases h;exact⟨rfl,by assumption⟩
theorem qa0{α:Type}{T:List Pu.Tok}(a:α){k:Nat}(h:(tk T k).kind=6):fin T (.ok (a,k))=.error (flOf (tk T k)):=by unfold fin;simp[h]
theorem fin_ok'{α:Type}{T:List Pu.Tok}(a:α){k:Nat}(h:(tk T k).kind≠6):fin T (.ok (a,k))=.ok (a,k):=by unfold fin;simp[h]
def qbm{α:Type}(T:List Pu.Tok)(g:M α):Prop:=∀k,(tk T k).kind=6->fin T (g k)=.error (flOf (tk T k))
theorem qae{α β:Type}{T:List Pu.Tok}{m:M α}{g:α->M β}{k k':Nat}{a:α}(h:fin T (m k)=.ok (a,k')):bnd m g k=g a k':=by
 unfold bnd;rw[(qal h).1]
theorem qax{α β:Type}{T:List Pu.Tok}{m:M α}{g:α->M β}{k:Nat}{f:Fl}(h:fin T (m k)=.error f)(hs:∀a,qbm T (g a)):fin T (bnd m g k)=.error f:=by
 unfold bnd
 unfold fin at h
 split at h
 .rename_i f' e;cases h;rw[e];rfl
 .rename_i a k' e
  split at h
  .rename_i h6
   cases h
   rw[e]
   exact hs a k' h6
  .cases h
theorem qd9{t:Pu.Tok}(h:t.kind=6)(s:BA):isT t s=false:=by unfold isT;simp[h]
theorem begins_6{t:Pu.Tok}(h:t.kind=6):qai t 1=false:=by unfold qai qa6;simp[qd9 h,h]
theorem qap(T:List Pu.Tok)(c:BA):qbm T (qag T c):=fun k h=>by unfold qag;rw[qd9 h];rfl
theorem qaf{α β:Type}{T:List Pu.Tok}{m:M α}{g:α->M β}(h:qbm T m)(hg:∀a,qbm T (g a)):qbm T (bnd m g):=fun k hk=>qax (h k hk) hg
theorem qf0(T:List Pu.Tok)(mk:Nat->Nd):qbm T (qc3 T mk):=qaf (qap T _) fun _ k h=>qa0 _ h
theorem stall_rest(T:List Pu.Tok)(p q:M Nd)(f:Nat)(a:Nd):qbm T (qee T p q 1 f a):=fun k h=>by
 unfold qee
 rw[qd9 h]
 rw[if_neg (by simp),if_neg (by simp)]
 exact qf0 T _ k h
theorem stall_small(T:List Pu.Tok)(p q:M Nd):qbm T (qam T p q 1):=fun k h=>by
 unfold qam;rw[begins_6 h];rfl
theorem stall_head(T:List Pu.Tok)(sm:M Nd):∀f x,qbm T (qbv T sm 1 f x)
 |0,x=>fun k h=>qa0 _ h|f+1,x=>fun k h=>by unfold qbv;rw[begins_6 h];exact qa0 _ h
theorem stall_arrow(T:List Pu.Tok)(p:M Nd)(f:Nat)(a:Nd):qbm T (qfc T p f a):=fun k h=>by
 unfold qfc;rw[qd9 h];exact qa0 _ h
theorem stall_typ(T:List Pu.Tok):∀n,qbm T (typM T n)
 |0=>fun k h=>rfl|n+1=>fun k h=>by
  unfold typM
  refine qax ?_ (fun a=>stall_arrow T _ _ a)
  unfold qdn
  rw[if_neg (by simp[h])]
  exact stall_small T _ _ k h
theorem close_eq{T:List Pu.Tok}{mk:Nat->Nd}{k:Nat}(h:isT (tk T k) kClose=true):qc3 T mk k=.ok (mk (k+1),k+1):=by unfold qc3 bnd qag;rw[h];rfl
theorem close_no{T:List Pu.Tok}{mk:Nat->Nd}{k:Nat}(h:isT (tk T k) kClose=false):qc3 T mk k=.error (flOf (tk T k)):=by unfold qc3 bnd qag;rw[h];rfl
theorem small_open{T:List Pu.Tok}{p:M Nd}{k:Nat}(h:isT (tk T k) kOpn=true):qam T p p 1 k=bnd p (qee T p p 1 (tk T k).frm) (k+1):=by
 have h':isT (tk T k) qes=true:=h
 unfold qam
 rw[if_pos (by unfold qai;simp[h']),if_pos h']
 unfold qew
 rw[if_neg (by simp)]
theorem rest_comma{T:List Pu.Tok}{p q:M Nd}{f:Nat}{a:Nd}{k:Nat}(h:isT (tk T k) kComma=true):qee T p q 1 f a k=bnd p (fun b=>qc3 T fun k'=>.mk 6 kNo 0 [a,b] f (qan T k') f) (k+1):=by unfold qee;rw[if_pos h]
theorem rest_no{T:List Pu.Tok}{p q:M Nd}{f:Nat}{a:Nd}{k:Nat}(h:isT (tk T k) kComma=false):qee T p q 1 f a k=qc3 T (fun _=>a) k:=by
 unfold qee;rw[if_neg (by simp[h]),if_neg (by simp)]
theorem PT.iface{w:World}{P:Nat->Prop}{a:Nd}{v:Value}(h:PT w P a v):∃t x,v=.iface t (.agg x):=by
 cases h<;>exact⟨_,_,rfl⟩
def ArrowC(s:BA)(n:Nat):Prop:=∀(w:World)(rb sb:Nat)(m:MV)(k:Nat),RD w rb sb m s (tk (Pu.toks s 0) k) (qan (Pu.toks s 0) k)->k<(Pu.toks s 0).length->(tk (Pu.toks s 0) k).kind≠6->(Pu.toks s 0).length<=k+n->
 Calls Tryz.prog 126 #[.pointer (some ⟨rb,0,none⟩)] w (RulePost rb sb m s (typM (Pu.toks s 0) n k) w)
theorem qe6(a b c d:Value)(w:World):(Instr.field 236 (.agg #[a,b,c,d]) 0).run Tryz.prog w=.ok (.agg #[a,b]) w:=by kernel_rfl
theorem spn175(a b:Value)(w:World):(Instr.field 212 (.agg #[a,b]) 0).run Tryz.prog w=.ok a w:=by kernel_rfl
section
variable {w:World} {rb sb:Nat} {m:MV} {s:BA} {k n:Nat}
theorem typeGroup_C(hs:s.size<=1000)(IH:ArrowC s n)(h:RD w rb sb m s (tk (Pu.toks s 0) k) (qan (Pu.toks s 0) k))(hk:k<(Pu.toks s 0).length)(hn:(Pu.toks s 0).length<=k+1+n)(ho:isT (tk (Pu.toks s 0) k) kOpn=true):
 Calls Tryz.prog 280 #[.pointer (some ⟨rb,0,none⟩)] w (RulePost rb sb m s (qam (Pu.toks s 0) (typM (Pu.toks s 0) n) (typM (Pu.toks s 0) n) 1 k) w):=by
 have hz:=h.bx.z
 have hf1:=qe6
 have hf2:=spn175
 have hnot:∀(x:Bool)(w:World),(Op.unary .not (.bool x)).run Tryz.prog w=.ok (.bool (!x)) w:=fun _ _=>rfl
 have hk5:=qbe ho
 have HP:=ai (small_open (p:=typM (Pu.toks s 0) n) ho)
 obtain⟨k1,e1,e2⟩:=qf3 s k hk (by omega)
 have t1:((qaj (tk (Pu.toks s 0) k)).toList==kOpn.toList)=true:=by rw[qdv (qdb s k hk) (by omega) (by decide)];exact ho
 go_enter Tryz.func280,Tryz.ntmps280
 go_wp2_with fail
 refine(qdx h hs (tk_to s k hk) kOpn t1).mono ?_
 intro e w1 hp
 by_cases h6:(qar s (tk (Pu.toks s 0) k).to).kind=6
 .obtain⟨rfl,hb⟩:=hp.bad h6
  refine⟨rfl,hb,?_⟩
  rw[uh HP,qax (stall_typ (Pu.toks s 0) n (k+1) (by rw[<-e1];exact h6)) (fun a=>stall_rest _ _ _ _ a),<-e1]
 obtain⟨rfl,K1,R1⟩:=hp.ok h6
 rw[e1,<-e2]at R1
 rw[e1]at h6
 clear hp
 go_wp2_with fail
 refine(IH w1 rb sb m (k+1) R1 k1 h6 hn).mono ?_
 intro e w2 hp
 cases hA:fin (Pu.toks s 0) (typM (Pu.toks s 0) n (k+1))with
 |error f=>
  obtain⟨rfl,hb⟩:=hp.bad hA
  refine⟨rfl,K1.trans hb,?_⟩
  rw[uh HP,qax hA (fun a=>stall_rest _ _ _ _ a)]
 |ok r=>
 obtain⟨a,k2⟩:=r
 obtain⟨v,rfl,hb,R2,hk2,P2⟩:=hp.ok hA
 obtain⟨tv,xv,rfl⟩:=P2.iface
 have h62:=(qal hA).2
 have hlt:=qa2 (T:=Pu.toks s 0) n _ _ _ (qal hA).1
 have K2:=K1.trans hb
 have HP2:=ai ((uh HP).trans (qae hA))
 have z1:=K1.size
 have o2:=qdb s k2 hk2
 clear hp hA HP
 by_cases hc:isT (tk (Pu.toks s 0) k2) kComma=true
 .have t2:((qaj (tk (Pu.toks s 0) k2)).toList==kComma.toList)=true:=by rw[qdv o2 h62 (by decide)];exact hc
  obtain⟨k3,e3,e4⟩:=qf3 s k2 hk2 (by have:=qbe hc;omega)
  have HP3:=ai ((uh HP2).trans (rest_comma hc))
  clear HP2
  go_wp2_with fail
  refine(took_yes R2 hs (tk_to s k2 hk2) kComma t2).mono ?_
  intro e w3 hp
  have hp:StepPost rb sb m s (tk (Pu.toks s 0) k2) (.bool true) w2 e w3:=hp
  by_cases h63:(qar s (tk (Pu.toks s 0) k2).to).kind=6
  .obtain⟨rfl,hb⟩:=hp.bad h63
   refine⟨rfl,K2.trans hb,?_⟩
   rw[uh HP3,qax (stall_typ (Pu.toks s 0) n (k2+1) (by rw[<-e3];exact h63)) (fun b=>qf0 _ _),<-e3]
  obtain⟨rfl,hb,R3⟩:=hp.ok h63
  rw[e3,<-e4]at R3
  rw[e3]at h63
  have P3:=P2.ke hb (fun b p=>by show b≠rb;have:w1.heap.size<=b:=p;omega)
  have K3:=K2.trans hb
  clear hp hb
  go_wp2_with fail
  refine(IH w3 rb sb m (k2+1) R3 k3 h63 (by omega)).mono ?_
  intro e w4 hp
  cases hA:fin (Pu.toks s 0) (typM (Pu.toks s 0) n (k2+1))with
  |error f=>
   obtain⟨rfl,hb⟩:=hp.bad hA
   refine⟨rfl,K3.trans hb,?_⟩
   rw[uh HP3,qax hA (fun b=>qf0 _ _)]
  |ok r=>
  obtain⟨b,k4⟩:=r
  obtain⟨u,rfl,hb,R4,hk4,P4⟩:=hp.ok hA
  obtain⟨tu,xu,rfl⟩:=P4.iface
  have h64:=(qal hA).2
  have K4:=K3.trans hb
  have HP4:=ai ((uh HP3).trans (qae hA))
  have z3:=K3.size
  have o4:=qdb s k4 hk4
  have P5:=P3.ke hb (fun b p=>by show b≠rb;have:w1.heap.size<=b:=p;omega)
  clear hp hA HP3 hb
  by_cases hc4:isT (tk (Pu.toks s 0) k4) kClose=true
  .have t4:((qaj (tk (Pu.toks s 0) k4)).toList==kClose.toList)=true:=by rw[qdv o4 h64 (by decide)];exact hc4
   obtain⟨k5,e5,e6⟩:=qf3 s k4 hk4 (by have:=qbe hc4;omega)
   have HP5:=ai ((uh HP4).trans (close_eq hc4))
   go_wp2_with fail
   refine(qdx R4 hs (tk_to s k4 hk4) kClose t4).mono ?_
   intro e w5 hp
   by_cases h65:(qar s (tk (Pu.toks s 0) k4).to).kind=6
   .obtain⟨rfl,hb⟩:=hp.bad h65
    refine⟨rfl,K4.trans hb,?_⟩
    rw[uh HP5,qa0 _ (by rw[<-e5];exact h65),<-e5]
   obtain⟨rfl,hb,R5⟩:=hp.ok h65
   rw[e5,<-e6]at R5
   rw[e5]at h65
   have P6:=P5.ke hb (fun b p=>by show b≠rb;have:w1.heap.size<=b:=p;omega)
   have P7:=P4.ke hb (fun b p=>by show b≠rb;have:w3.heap.size<=b:=p;omega)
   have K5:=K4.trans hb
   clear hp hb
   go_wp2_with(go_at_call 214;refine(since_C R5 _).mono ?_;rintro e w6⟨rfl,hb⟩;have R6:=ai (R5.bel hb);have K6:=ai (K5.below' hb);have P8:=ai (P6.bel hb);have P9:=ai (P7.bel hb);clear hb)
   go_ret
   refine⟨uh K6,?_⟩
   rw[uh HP5,fin_ok' _ h65]
   exact⟨_,rfl,uh R6,k5,.pr _ _ _ _ _ _ _ _ _ _ _ ((uh P8).wide fun b p=>Nat.le_trans z1 p) ((uh P9).wide fun b p=>Nat.le_trans z3 p)⟩
  .have hc4':isT (tk (Pu.toks s 0) k4) kClose=false:=by simpa using hc4
   have t4:((qaj (tk (Pu.toks s 0) k4)).toList==kClose.toList)=false:=by rw[qdv o4 h64 (by decide)];exact hc4'
   go_wp2_with fail
   refine(take_no R4 kClose t4 h64).mono ?_
   rintro e w5⟨rfl,hb⟩
   refine⟨rfl,K4.trans hb,?_⟩
   rw[uh HP4,close_no hc4']
   rfl
 .have hc':isT (tk (Pu.toks s 0) k2) kComma=false:=by simpa using hc
  have t2:((qaj (tk (Pu.toks s 0) k2)).toList==kComma.toList)=false:=by rw[qdv o2 h62 (by decide)];exact hc'
  have HP3:=ai ((uh HP2).trans (rest_no hc'))
  clear HP2
  by_cases hc4:isT (tk (Pu.toks s 0) k2) kClose=true
  .have t4:((qaj (tk (Pu.toks s 0) k2)).toList==kClose.toList)=true:=by rw[qdv o2 h62 (by decide)];exact hc4
   obtain⟨k5,e5,e6⟩:=qf3 s k2 hk2 (by have:=qbe hc4;omega)
   have HP5:=ai ((uh HP3).trans (close_eq hc4))
   go_wp2_with(go_at_call 213;refine(took_no R2 kComma t2).mono ?_;rintro e w'⟨rfl,rfl⟩)
   refine(qdx R2 hs (tk_to s k2 hk2) kClose t4).mono ?_
   intro e w5 hp
   by_cases h65:(qar s (tk (Pu.toks s 0) k2).to).kind=6
   .obtain⟨rfl,hb⟩:=hp.bad h65
    refine⟨rfl,K2.trans hb,?_⟩
    rw[uh HP5,qa0 _ (by rw[<-e5];exact h65),<-e5]
   obtain⟨rfl,hb,R5⟩:=hp.ok h65
   rw[e5,<-e6]at R5
   rw[e5]at h65
   have P6:=P2.ke hb (fun b p=>by show b≠rb;have:w1.heap.size<=b:=p;omega)
   have K5:=K2.trans hb
   clear hp hb
   go_wp2_with fail
   go_ret
   refine⟨K5,?_⟩
   rw[uh HP5,fin_ok' _ h65]
   exact⟨_,rfl,R5,k5,P6.wide fun b p=>Nat.le_trans z1 p⟩
  .have hc4':isT (tk (Pu.toks s 0) k2) kClose=false:=by simpa using hc4
   have t4:((qaj (tk (Pu.toks s 0) k2)).toList==kClose.toList)=false:=by rw[qdv o2 h62 (by decide)];exact hc4'
   go_wp2_with(go_at_call 213;refine(took_no R2 kComma t2).mono ?_;rintro e w'⟨rfl,rfl⟩)
   refine(take_no R2 kClose t4 h62).mono ?_
   rintro e w5⟨rfl,hb⟩
   refine⟨rfl,K2.trans hb,?_⟩
   rw[uh HP3,close_no hc4']
   rfl
end
end
section
open Go Go.RowKit Go.ChangeMaps
theorem zeroFn(w:World):(zeroValue 263).run Tryz.prog w=.ok .nilFunc w:=by kernel_rfl
section
variable {w:World} {rb sb:Nat} {m:MV} {s:BA} {k n:Nat}
theorem small_leaf'{T:List Pu.Tok}{p:M Nd}{k:Nat}(h:(tk T k).kind=3\/(tk T k).kind=2):qam T p p 1 k=.ok (qb3 (tk T k),k+1):=by
 have h5:isT (tk T k) qes=false:=by unfold isT;rcases h with h|h<;>simp[h]
 unfold qam
 rw[if_pos (by unfold qai qa6;rcases h with h|h<;>simp[h]),if_neg (by simp[h5])]
theorem begins_eq{t:Pu.Tok}(h:qd5 t):qai t 1=(t.kind==3||t.kind==2||isT t kOpn):=by
 show(isT t kOpn||_)=_
 rw[if_pos rfl]
 unfold qa6
 obtain h|h|h|h|h|h|h:=h.kd<;>simp[h,isT]
 repeat' split
 all_goals simp
theorem small_no'{T:List Pu.Tok}{p:M Nd}{k:Nat}(h:qai (tk T k) 1=false):qam T p p 1 k=.error (flOf (tk T k)):=by unfold qam;rw[h];rfl
def qc2(o:Option Value)(z:Value):Value:=match o with|some v=>.tuple #[v,.bool true]|none=>.tuple #[z,.bool false]
theorem look_small(h:RD w rb sb m s (tk (Pu.toks s 0) k) (qan (Pu.toks s 0) k))(ho:qd5 (tk (Pu.toks s 0) k))(h6:(tk (Pu.toks s 0) k).kind≠6):
 (Instr.lookup 242 (.map (some sb)) (.string (qaj (tk (Pu.toks s 0) k))) true).run Tryz.prog w=.ok (qc2 (got (qaj (tk (Pu.toks s 0) k)) (smL rb)) .nilFunc) w:=by
 have:=h.sm.look (KL.str Tryz.underlying234) Tryz.underlying242 (zeroFn w) (qaj (tk (Pu.toks s 0) k)) trivial (fun _ _=>trivial) true
 rw[this]
 cases got (qaj (tk (Pu.toks s 0) k)) (smL rb)<;>rfl
def fid(t:Pu.Tok):Nat:=if t.kind=3 then 278 else if t.kind=2 then 279 else 280
theorem call_fid(t:Pu.Tok)(args:Array Value)(w:World):(callFunc (fid t) args).run Tryz.prog w=.ok (.enter (fid t) args) w:=by
 unfold fid
 split
 .kernel_rfl
 .split<;>kernel_rfl
theorem rule_C(hs:s.size<=1000)(IH:ArrowC s n)(h:RD w rb sb m s (tk (Pu.toks s 0) k) (qan (Pu.toks s 0) k))(hk:k<(Pu.toks s 0).length)(hn:(Pu.toks s 0).length<=k+1+n)(hb:qai (tk (Pu.toks s 0) k) 1=true):
 Calls Tryz.prog (fid (tk (Pu.toks s 0) k)) #[.pointer (some ⟨rb,0,none⟩)] w (RulePost rb sb m s (qam (Pu.toks s 0) (typM (Pu.toks s 0) n) (typM (Pu.toks s 0) n) 1 k) w):=by
 have ho:=qdb s k hk
 have ht:=tk_to s k hk
 unfold fid
 by_cases h3:(tk (Pu.toks s 0) k).kind=3
 .rw[if_pos h3,small_leaf' (Or.inl h3)]
  refine(typeVar_C h hs ht h3 ho).mono fun e w' q=>q.rule hk (by omega) ?_
  have:qb3 (tk (Pu.toks s 0) k)=.mk 16 (tk (Pu.toks s 0) k).text 0 [] (tk (Pu.toks s 0) k).frm (tk (Pu.toks s 0) k).to (tk (Pu.toks s 0) k).frm:=by unfold qb3 qa6 qa9;simp[h3]
  rw[this]
  exact .var _ _ _ _ _ _ _ (ho.v3 h3)
 rw[if_neg h3]
 by_cases h2:(tk (Pu.toks s 0) k).kind=2
 .rw[if_pos h2,small_leaf' (Or.inr h2)]
  refine(bareName_C h hs ht h2).mono fun e w' q=>q.rule hk (by omega) ?_
  have:qb3 (tk (Pu.toks s 0) k)=.mk 2 (tk (Pu.toks s 0) k).text 0 [] (tk (Pu.toks s 0) k).frm (tk (Pu.toks s 0) k).to (tk (Pu.toks s 0) k).frm:=by unfold qb3 qa6 qa9;simp[h2]
  rw[this]
  exact .up _ _ [] _ _ _ _ _ _ _ none 0 (fun _=>.nilIface) (ho.v2 h2) (Or.inl rfl) (fun i hi=>by simp at hi)
 rw[if_neg h2]
 rw[begins_eq ho]at hb
 exact typeGroup_C hs IH h hk hn (by simpa[h2,h3]using hb)
theorem got_fid{t:Pu.Tok}(ho:qd5 t)(h6:t.kind≠6)(hb:qai t 1=true):got (qaj t) (smL rb)=some (.func (.func (fid t)) #[.pointer (some ⟨rb,0,none⟩)] #[]):=by
 rw[got_small ho h6]
 rw[begins_eq ho]at hb
 unfold fid
 by_cases h3:t.kind=3
 .simp[h3]
 by_cases h2:t.kind=2
 .simp[h2]
 have:isT t kOpn=true:=by simpa[h2,h3]using hb
 simp[h2,h3,this]
theorem got_none{t:Pu.Tok}(ho:qd5 t)(h6:t.kind≠6)(hb:qai t 1=false):got (qaj t) (smL rb)=none:=by
 rw[got_small ho h6]
 rw[begins_eq ho]at hb
 simp at hb
 simp[hb]
theorem one_C(hs:s.size<=1000)(IH:ArrowC s n)(h:RD w rb sb m s (tk (Pu.toks s 0) k) (qan (Pu.toks s 0) k))(hk:k<(Pu.toks s 0).length)(h6:(tk (Pu.toks s 0) k).kind≠6)(hn:(Pu.toks s 0).length<=k+1+n):
 Calls Tryz.prog 308 #[.pointer (some ⟨rb,0,none⟩),.map (some sb)] w (RulePost rb sb m s (qam (Pu.toks s 0) (typM (Pu.toks s 0) n) (typM (Pu.toks s 0) n) 1 k) w):=by
 have ho:=qdb s k hk
 have hl:=look_small h ho h6
 have hnot:∀(x:Bool)(w:World),(Op.unary .not (.bool x)).run Tryz.prog w=.ok (.bool (!x)) w:=fun _ _=>rfl
 obtain⟨c,f,z⟩:=h.bx
 by_cases hb:qai (tk (Pu.toks s 0) k) 1=true
 .have HC:=rule_C hs IH h hk hn hb
  rw[got_fid ho h6 hb]at hl
  have hcf:=fun w=>call_fid (tk (Pu.toks s 0) k) #[.pointer (some ⟨rb,0,none⟩)] w
  simp only[qc2]at hl
  generalize fid (tk (Pu.toks s 0) k)=F at hl HC hcf
  go_enter Tryz.func308,Tryz.ntmps308
  go_wp2_with fail
  refine HC.mono ?_
  intro e w1 hp
  cases hA:fin (Pu.toks s 0) (qam (Pu.toks s 0) (typM (Pu.toks s 0) n) (typM (Pu.toks s 0) n) 1 k)with
  |error f'=>
   obtain⟨rfl,hb'⟩:=hp.bad hA
   exact⟨rfl,hp⟩
  |ok r=>
  obtain⟨a,k2⟩:=r
  obtain⟨v,rfl,_⟩:=hp.ok hA
  go_wp2_with fail
  go_ret
  exact hp
 .have hb':qai (tk (Pu.toks s 0) k) 1=false:=by simpa using hb
  rw[got_none ho h6 hb']at hl
  simp only[qc2]at hl
  go_enter Tryz.func308,Tryz.ntmps308
  go_wp2_with(go_at_call 190;refine(qfv h).mono ?_;rintro e w1⟨rfl,hb⟩)
  refine⟨rfl,Ke.of hb,?_⟩
  rw[small_no' hb',flOf,if_neg h6]
  rfl
end
end
section
open Go Go.RowKit Go.ChangeMaps
theorem treeInfo:(Tryz.prog.info? 151).map (fun i=>(i.zero,i.size,i.bytes))=some (some .nilIface,1,16):=by kernel_rfl
theorem treesUnder:Tryz.prog.underlying 270=some (.slice 151):=by kernel_rfl
theorem RD.grown{W w3:World}{row:Option Nat}(hg:W.grownBy w3 row){rb sb:Nat}{m:MV}{s:BA}{t:Pu.Tok}{k:Nat}(h:RD W rb sb m s t k)(hr:∀j,row=some j->j≠rb/\j≠sb/\2<=j):RD w3 rb sb m s t k:=by
 have hl:∀b o,b<2->w3.cell? ⟨b,o,none⟩=W.cell? ⟨b,o,none⟩:=fun b o hb=>World.cell?_of_block (a:=⟨b,o,none⟩) (hg.block b (by have:=h.la.hz;omega) (fun e=>by have:=(hr b e.symm).2.2;omega))
 exact⟨h.bx.same hg.size (hg.block rb h.bx.z (fun e=>(hr rb e.symm).1 rfl)),h.sm.same (hg.block sb h.sm.lt (fun e=>(hr sb e.symm).2.1 rfl)),h.ne,
  ⟨fun j hj=>(hl 1 j (by omega)).trans (h.la.words j hj),fun j hj=>(hl 0 j (by omega)).trans (h.la.signs j hj),Nat.le_trans h.la.hz hg.size⟩,h.h2⟩
def Rows(w:World)(base:Nat)(va:Option Addr)(vc:Nat)(L:List Nd):Prop:=
 ∃vs:List Value,vs.length=L.length/\w.ownsRow base 151 1 (.slice va L.length vc) L.length vs/\∀i(h:i<L.length)(h2:i<vs.length),PT w (fun b=>base<=b/\b<w.heap.size/\(Value.slice va L.length vc).ownBlock≠some b) L[i] vs[i]
theorem Rows.pt{w:World}{base:Nat}{va:Option Addr}{vc:Nat}{L:List Nd}(h:Rows w base va vc L)(s:BA)(hu:UpN s)(n f t a:Nat)(x y x' y':Int):PT w (fun b=>base<=b) (.mk 2 s n L f t a) (.iface 272 (.agg #[.int .i64 x,.int .i64 y,.int .i64 x',.int .i64 y',.string s,.slice va L.length vc])):=by
 obtain⟨vs,hl,ho,hP⟩:=h
 have hx:∀i(h:i<L.length),vs.getD i .nilIface=vs[i]'(by omega):=fun i h=>by rw[List.getD_eq_getElem?_getD,List.getElem?_eq_getElem (by omega)];rfl
 refine .up s n L f t a x y x' y' va vc (fun i=>vs.getD i .nilIface) hu ?_ (fun i hi=>by rw[hx i hi];exact(hP i hi (by omega)).wide fun b p=>p.1)
 obtain⟨h1,h2⟩:=ho
 rcases h2 with⟨_,hz⟩|⟨q,cap,cur,hv,hg,hh,_,_,_,ht⟩
 .exact Or.inl (List.eq_nil_of_length_eq_zero hz)
 .injection hv with e1 e2 e3
  subst e1
  refine Or.inr ⟨q,rfl,hg,(Array.getElem?_eq_some_iff.1 hh).1,fun i hi=>?_⟩
  rw[hx i hi,<-List.getElem?_eq_getElem (by omega),<-ht]
  simp only[World.cell?,hh]
  rw[List.getElem?_take_of_lt (by omega)]
  simp
theorem Rows.bel{w w':World}{base:Nat}{va:Option Addr}{vc:Nat}{L:List Nd}(h:Rows w base va vc L)(hb:Below w.heap.size w w'):Rows w' base va vc L:=by
 obtain⟨vs,hl,ho,hP⟩:=h
 exact⟨vs,hl,qcj ho hb,fun i h1 h2=>(hP i h1 h2).move hb.size (fun b _ z=>hb.block b z) fun b p _=>⟨p.1,Nat.lt_of_lt_of_le p.2.1 hb.size,p.2.2⟩⟩
theorem Rows.ke{rb:Nat}{w w':World}{base:Nat}{va:Option Addr}{vc:Nat}{L:List Nd}(h:Rows w base va vc L)(hb:Ke rb w w')(hr:rb<base):Rows w' base va vc L:=by
 obtain⟨vs,hl,ho,hP⟩:=h
 exact⟨vs,hl,own_ke ho hb hr,fun i h1 h2=>(hP i h1 h2).move hb.size (fun b p z=>hb.block b z (by have:=p.1;omega)) fun b p _=>⟨p.1,Nat.lt_of_lt_of_le p.2.1 hb.size,p.2.2⟩⟩
def ManyPost(rb sb:Nat)(m:MV)(s:BA)(r:Except Fl (Nd×Nat))(nm:BA)(w:World)(e:Ending)(w':World):Prop:=
 Ke rb w w'/\match fin (Pu.toks s 0) r with
  |.error f=>e=qd3 f|.ok (a,k)=>∃va vc L fr to at_,a=.mk 2 nm 0 L fr to at_/\e=.returned (.slice va L.length vc)/\RD w' rb sb m s (tk (Pu.toks s 0) k) (qan (Pu.toks s 0) k)/\k<(Pu.toks s 0).length/\Rows w' w.heap.size va vc L
abbrev smM(s:BA)(n:Nat):M Nd:=qam (Pu.toks s 0) (typM (Pu.toks s 0) n) (typM (Pu.toks s 0) n) 1
def ManyRel(rb sb:Nat)(m:MV)(s:BA)(n k:Nat)(nm:BA)(fr at_:Nat)(w:World)(r:Except Fl (Nd×Nat))(gk:Nat)(v:Value)(wr:World):Prop:=
 ∃(kr:Nat)(L:List Nd)(to f:Nat)(va:Option Addr)(vc:Nat),
  v=.slice va L.length vc/\RD wr rb sb m s (tk (Pu.toks s 0) kr) (qan (Pu.toks s 0) kr)/\kr<(Pu.toks s 0).length/\(tk (Pu.toks s 0) kr).kind≠6/\Ke rb w wr/\Hid (gk=(Pu.toks s 0).length-kr)/\k<=kr/\L.length<=kr/\
  Rows wr w.heap.size va vc L/\Hid (r=qbv (Pu.toks s 0) (smM s n) 1 f (.mk 2 nm 0 L fr to at_) kr)/\(Pu.toks s 0).length<=kr+f
section
variable {w:World} {rb sb:Nat} {m:MV} {s:BA} {k n:Nat}
theorem headF_stop{T:List Pu.Tok}{sm:M Nd}{f:Nat}{x:Nd}{k:Nat}(h:qai (tk T k) 1=false):qbv T sm 1 f x k=.ok (x,k):=by
 cases f with
 |zero=>rfl|succ f=>unfold qbv;rw[h];rfl
theorem headF_go{T:List Pu.Tok}{sm:M Nd}{f:Nat}{x:Nd}{k:Nat}(h:qai (tk T k) 1=true):qbv T sm 1 (f+1) x k=bnd sm (fun y k'=>qbv T sm 1 f (x.add y (qan T k')) k') k:=by
 show(if qai (tk T k) 1=true then _ else _)=_
 rw[if_pos h]
theorem many_C(hs:s.size<=1000)(hT:(Pu.toks s 0).length<=1001)(IH:ArrowC s n)(h:RD w rb sb m s (tk (Pu.toks s 0) k) (qan (Pu.toks s 0) k))(hk:k<(Pu.toks s 0).length)(h6:(tk (Pu.toks s 0) k).kind≠6)(hn:(Pu.toks s 0).length<=k+1+n)(nm:BA)(fr to at_:Nat):
 Calls Tryz.prog 310 #[.pointer (some ⟨rb,0,none⟩),.map (some sb)] w (ManyPost rb sb m s (qbv (Pu.toks s 0) (smM s n) 1 (Pu.toks s 0).length (.mk 2 nm 0 [] fr to at_) k) nm w):=by
 obtain⟨i0,hi0,hz0,hz1,hz2⟩:=info_parts treeInfo
 have hnot:∀(x:Bool)(w:World),(Op.unary .not (.bool x)).run Tryz.prog w=.ok (.bool (!x)) w:=fun _ _=>rfl
 have hzr:=h.bx.z
 have hzs:=h.sm.lt
 have hz2':=h.la.hz
 obtain⟨r,hr⟩:∃r,r=qbv (Pu.toks s 0) (smM s n) 1 (Pu.toks s 0).length (.mk 2 nm 0 [] fr to at_) k:=⟨_,rfl⟩
 rw[<-hr]
 have HR:=ai h
 have Hr:=ai hr
 clear h hr
 go_enter Tryz.func310,Tryz.ntmps310
 go_wp2_with fail
 go_loopg[5] ((Pu.toks s 0).length-k) (fun gk v wr=>ManyRel rb sb m s n k nm fr at_ w r gk v wr)
 case atStart=>exact⟨k,[],to,(Pu.toks s 0).length,none,0,rfl,uh HR,hk,h6,Ke.refl _ _,ai rfl,br _,by simp,⟨[],rfl,⟨rfl,Or.inl ⟨rfl,rfl⟩⟩,fun i hi=>by simp at hi⟩,Hr,by omega⟩
 case round=>
  clear HR Hr
  obtain⟨kr,L,to',f,va,vc,rfl,R,hkr,h6r,K,hgk,hle,hLl,RW,hE,hfu⟩:=hrel
  have ho:=qdb s kr hkr
  have hl:=look_small R ho h6r
  obtain⟨c,ff,z⟩:=R.bx
  by_cases hb:qai (tk (Pu.toks s 0) kr) 1=true
  .have HC:=rule_C hs IH R hkr (by omega) hb
   rw[got_fid ho h6r hb]at hl
   have hcf:=fun w=>call_fid (tk (Pu.toks s 0) kr) #[.pointer (some ⟨rb,0,none⟩)] w
   simp only[qc2]at hl
   generalize fid (tk (Pu.toks s 0) kr)=F at hl HC hcf
   obtain⟨f,rfl⟩:∃f',f=f'+1:=⟨f-1,by omega⟩
   have hE2:=ai ((uh hE).trans (headF_go hb))
   clear hE
   go_wp2_with fail
   refine HC.mono ?_
   intro e w1 hp
   cases hA:fin (Pu.toks s 0) (smM s n kr)with
   |error f'=>
    obtain⟨rfl,hb'⟩:=hp.bad hA
    refine⟨rfl,K.trans hb',?_⟩
    rw[uh hE2,qax hA (fun a q h=>stall_head (Pu.toks s 0) (smM s n) f _ q h)]
   |ok rr=>
   obtain⟨a,k2⟩:=rr
   obtain⟨v,rfl,hb1,R1,hk2,P1⟩:=hp.ok hA
   obtain⟨tv,xv,rfl⟩:=P1.iface
   have h62:=(qal hA).2
   have hlt:=qaw (qa2 (T:=Pu.toks s 0) n) (qa2 n) 1 _ _ _ (qal hA).1
   have hE3:=ai ((uh hE2).trans (qae hA))
   have z1:=hb1.size
   have zw:=K.size
   have hrw:∀b,(Value.slice va L.length vc).ownBlock=some b->b<wr.heap.size:=by
    obtain⟨_,_,ho',_⟩:=RW
    exact fun b e=>(qa3 ho' b e).2
   obtain⟨vs,hvl,hown,hPT⟩:=RW.ke hb1 hzr
   have HO:=ai hown
   have HPT:=ai hPT
   have HP1:=ai P1
   have HR1:=ai R1
   have HK1:=ai (K.trans hb1)
   have HE3:=hE3
   clear hp hA HC hE2 hcf hown hPT P1 R1 hb1 RW R K c ff z hl hE3
   go_wp2_with(at_builtin;go_must(refine wpList_append_own_at _ rfl (.tmp 21) (.tmp 24) 270 rfl w.heap.size 151 i0 _ 1 16 treesUnder hi0 hz0 hz1 hz2 rfl (by decide) (.slice va L.length vc) L.length _ rfl ((uh HO).alloc _) ⟨w1.heap.size,0,none⟩ 1 1 [.iface tv (.agg xv)] rfl rfl (qbw _ _ _ _ (by simp)) (by intro u hu;simp at hu;subst hu;rfl) (by unfold maxLen;omega) (by omega) (by simp;omega) ?_;intro v3 w3 hown3 hg3 hnil3 hloc3;have Hown3:=ai hown3;have Hg3:=ai hg3;have Hloc3:=ai hloc3;clear hown3 hg3 hnil3 hloc3))
   obtain⟨q3,c3,rfl⟩:=qb6 (uh Hown3) (by omega)
   go_roundg((Pu.toks s 0).length-k2)
   case measure=>rw[uh hgk];omega
   case rel=>
    have hob:=qa3 (uh HO)
    have hrow:∀j,(Value.slice va L.length vc).ownBlock=some j->w.heap.size<=j/\j<w1.heap.size:=fun j e=>hob j e
    have hsz3:=(uh Hg3).size
    simp at hsz3
    have hbk:∀b,b<w1.heap.size->(Value.slice va L.length vc).ownBlock≠some b->w3.heap[b]? =w1.heap[b]? :=fun b hb hn=>((uh Hg3).block b (by simp;omega) (fun e=>hn e.symm)).trans (Below.heap_alloc _ _ _ hb)
    have hnew:∀b,b<w1.heap.size->(Value.slice va L.length vc).ownBlock≠some b->(Value.slice (some ⟨q3,0,none⟩) (L.length+1) c3).ownBlock≠some b:=fun b hb hn e=>by
     rcases uh Hloc3 with g|g
     .exact hn (g▸e)
     .have:some b=some (w1.alloc (.cells #[.iface tv (.agg xv)] 151)).heap.size:=e.symm.trans g
      simp at this
      omega
    have hlen:(L++[a]).length=L.length+1:=by simp
    refine⟨k2,L++[a],qan (Pu.toks s 0) k2,f,some ⟨q3,0,none⟩,c3,by rw[hlen],((uh HR1).bel (bw _)).grown (uh Hg3) (fun j e=>by have:=hrow j e;omega),hk2,h62,?_,ai rfl,by omega,by rw[hlen];omega,?_,HE3,by omega⟩
    .have hb2:=(uh HK1).below' (bw (.cells #[.iface tv (.agg xv)] 151))
     exact Ke.grown (uh Hg3) hb2 (fun j e=>(hrow j e).1)
    .refine⟨vs++[.iface tv (.agg xv)],by simp[hvl],by rw[hlen];exact uh Hown3,fun i hi h2=>?_⟩
     rw[hlen]
     by_cases hlt2:i<L.length
     .rw[List.getElem_append_left hlt2,List.getElem_append_left (by omega)]
      exact(uh HPT i hlt2 (by omega)).move (by omega) (fun b p z=>hbk b p.2.1 p.2.2) (fun b p z=>⟨p.1,by omega,hnew b p.2.1 p.2.2⟩)
     .have hi':i=L.length:=by simp at hi;omega
      subst hi'
      have e1:(L++[a])[L.length]'hi=a:=by simp
      have e2:(vs++[Value.iface tv (.agg xv)])[L.length]'h2=.iface tv (.agg xv):=by simp[<-hvl]
      rw[e1,e2]
      have hne:∀b,wr.heap.size<=b->b<w1.heap.size->(Value.slice va L.length vc).ownBlock≠some b:=fun b h1 h3 e=>by
       have:=hrw b e
       omega
      exact(uh HP1).move (by omega) (fun b p z=>hbk b z (hne b p z)) (fun b p z=>⟨by have:wr.heap.size<=b:=p;omega,by omega,hnew b z (hne b p z)⟩)
  .have hb':qai (tk (Pu.toks s 0) kr) 1=false:=by simpa using hb
   rw[got_none ho h6r hb']at hl
   simp only[qc2]at hl
   have hE2:=ai ((uh hE).trans (headF_stop hb'))
   go_wp2_with fail
   go_ret
   refine⟨K,?_⟩
   rw[uh hE2,fin_ok' _ h6r]
   exact⟨va,vc,L,_,_,_,rfl,rfl,R,hkr,RW⟩
end
end
section
open Go Go.RowKit Go.ChangeMaps
section
variable {w:World} {rb sb:Nat} {m:MV} {s:BA} {k n:Nat}
theorem ManyPost.ok{rb sb:Nat}{m:MV}{s:BA}{r:Except Fl (Nd×Nat)}{nm:BA}{w:World}{e:Ending}{w':World}(h:ManyPost rb sb m s r nm w e w'){a:Nd}{k:Nat}(hr:fin (Pu.toks s 0) r=.ok (a,k)):
 ∃va vc L fr to at_,a=.mk 2 nm 0 L fr to at_/\e=.returned (.slice va L.length vc)/\Ke rb w w'/\RD w' rb sb m s (tk (Pu.toks s 0) k) (qan (Pu.toks s 0) k)/\k<(Pu.toks s 0).length/\Rows w' w.heap.size va vc L:=by
 obtain⟨h1,h2⟩:=h
 rw[hr]at h2
 obtain⟨va,vc,L,fr,to,at_,e1,e2,e3,e4,e5⟩:=h2
 exact⟨va,vc,L,fr,to,at_,e1,e2,h1,e3,e4,e5⟩
theorem ManyPost.bad{rb sb:Nat}{m:MV}{s:BA}{r:Except Fl (Nd×Nat)}{nm:BA}{w:World}{e:Ending}{w':World}(h:ManyPost rb sb m s r nm w e w'){f:Fl}(hr:fin (Pu.toks s 0) r=.error f):e=qd3 f/\Ke rb w w':=by
 obtain⟨h1,h2⟩:=h
 rw[hr]at h2
 exact⟨h2,h1⟩
theorem big_C(hs:s.size<=1000)(hT:(Pu.toks s 0).length<=1001)(IH:ArrowC s n)(h:RD w rb sb m s (tk (Pu.toks s 0) k) (qan (Pu.toks s 0) k))(hk:k<(Pu.toks s 0).length)(h6:(tk (Pu.toks s 0) k).kind≠6)(hn:(Pu.toks s 0).length<=k+1+n):
 Calls Tryz.prog 212 #[.pointer (some ⟨rb,0,none⟩)] w (RulePost rb sb m s (qdn (Pu.toks s 0) (smM s n) 1 k) w):=by
 have ho:=qdb s k hk
 have hku:=kind_up ho h6
 obtain⟨c,f,z⟩:=h.bx
 by_cases h2:(tk (Pu.toks s 0) k).kind=2
 .have hkd:((qaj (tk (Pu.toks s 0) k)).toList==kUp.toList)=true:=by rw[hku];simp[h2]
  have hkd':((qaj (tk (Pu.toks s 0) k)).toList==[117,112,32,110,97,109,101])=true:=by rw[show kUp.toList=[117,112,32,110,97,109,101]from qab _]at hkd;exact hkd
  obtain⟨k1,e1,e2⟩:=qf3 s k hk (by omega)
  have HP:Hid (qdn (Pu.toks s 0) (smM s n) 1 k=qbv (Pu.toks s 0) (smM s n) 1 (Pu.toks s 0).length (.mk 2 (tk (Pu.toks s 0) k).text 0 [] (tk (Pu.toks s 0) k).frm (tk (Pu.toks s 0) k).to (tk (Pu.toks s 0) k).frm) (k+1)):=by
   show _=_
   unfold qdn
   rw[if_pos (by simp[h2])]
   unfold bnd
   rw[show smM s n k=_ from small_leaf' (Or.inr h2)]
   unfold qb3 qa6 qa9
   simp[h2]
  clear hku
  go_enter Tryz.func212,Tryz.ntmps212
  go_wp2_with fail
  refine(name_C h hs (tk_to s k hk) kUp hkd).mono ?_
  intro e w1 hp
  by_cases h61:(qar s (tk (Pu.toks s 0) k).to).kind=6
  .obtain⟨rfl,hb⟩:=hp.bad h61
   refine⟨rfl,hb,?_⟩
   rw[uh HP,stall_head (Pu.toks s 0) (smM s n) _ _ (k+1) (by rw[<-e1];exact h61),<-e1]
  obtain⟨rfl,K1,R1⟩:=hp.ok h61
  rw[e1,<-e2]at R1
  rw[e1]at h61
  have hb1:Below w1.heap.size w1 (w1.alloc (.cells #[.int .i64 ((tk (Pu.toks s 0) k).frm:Int),.int .i64 ((tk (Pu.toks s 0) k).to:Int),.string (tk (Pu.toks s 0) k).text] 214)):=bw _
  have R2:=ai (R1.bel hb1)
  have K2:=ai (K1.below' hb1)
  have B2:=ai (Bx.new w1 #[.int .i64 ((tk (Pu.toks s 0) k).frm:Int),.int .i64 ((tk (Pu.toks s 0) k).to:Int),.string (tk (Pu.toks s 0) k).text] 214)
  obtain⟨c2,f2,z2⟩:=(uh R2).bx
  have zr:=R1.bx.z
  have z1:=K1.size
  clear hp hb1 R1 K1 c f z h
  go_wp2_with fail
  refine(many_C hs hT IH (uh R2) k1 h61 (by omega) (tk (Pu.toks s 0) k).text (tk (Pu.toks s 0) k).frm (tk (Pu.toks s 0) k).to (tk (Pu.toks s 0) k).frm).mono ?_
  intro e w3 hp
  rw[<-uh HP]at hp
  cases hA:fin (Pu.toks s 0) (qdn (Pu.toks s 0) (smM s n) 1 k)with
  |error f'=>
   obtain⟨rfl,hb'⟩:=hp.bad hA
   refine⟨rfl,(uh K2).trans hb',?_⟩
   rw[hA]
  |ok rr=>
  obtain⟨a,k2⟩:=rr
  obtain⟨va,vc,L,fr,to,at_,rfl,rfl,hb3,R3,hk3,RW⟩:=hp.ok hA
  have B3:=ai ((uh B2).ke' hb3 (by omega))
  have R3':=ai R3
  have K3:=ai ((uh K2).trans hb3)
  have RW3:=ai RW
  have HA:=ai hA
  obtain⟨c3,f3,z3⟩:=uh B3
  clear hp hA R3 RW hb3 c2 f2 z2 hkd hkd'
  go_wp2_with fail
  go_region_with(go_at_call 214;refine(since_C ((uh R3').bel (Below.refl _ _).drew) _).mono ?_;rintro e w4⟨rfl,hb4⟩;have R4:=ai (((uh R3').bel (Below.refl _ _).drew).bel hb4);have K4:=ai (((uh K3).below' (Below.refl _ _).drew).below' hb4);have B4:=ai ((uh B3).drew'.below hb4);have RW4:=ai (((uh RW3).bel (Below.refl _ _).drew).bel hb4);obtain⟨c4,f4,z4⟩:=uh B4;clear hb4)
  all_goals(
   go_wp2_with fail
   go_ret
   refine⟨uh K4,?_⟩
   rw[uh HA]
   exact⟨_,rfl,uh R4,hk3,((uh RW4).pt _ (ho.v2 h2) _ _ _ _ _ _ _ _).wide fun b p=>Nat.le_trans (by simp;omega) p⟩)
 .have hkd':((qaj (tk (Pu.toks s 0) k)).toList==[117,112,32,110,97,109,101])=false:=by rw[show kUp.toList=[117,112,32,110,97,109,101]from qab _]at hku;rw[hku];simp[h2]
  have HP:qdn (Pu.toks s 0) (smM s n) 1 k=smM s n k:=by unfold qdn;rw[if_neg (by simp[h2])]
  rw[HP]
  have HC:=one_C hs IH h hk h6 hn
  clear hku HP
  go_enter Tryz.func212,Tryz.ntmps212
  go_wp2_with fail
  refine HC.mono ?_
  intro e w1 hp
  cases hA:fin (Pu.toks s 0) (smM s n k)with
  |error f'=>
   obtain⟨rfl,hb'⟩:=hp.bad hA
   exact⟨rfl,hp⟩
  |ok r=>
  obtain⟨a,k2⟩:=r
  obtain⟨v,rfl,_⟩:=hp.ok hA
  go_wp2_with fail
  go_ret
  exact hp
theorem arrow_step(hs:s.size<=1000)(hT:(Pu.toks s 0).length<=1001)(IH:ArrowC s n):ArrowC s (n+1):=by
 intro w rb sb m k h hk h6 hn
 have ho:=qdb s k hk
 have hz:=h.bx.z
 have hnot:∀(x:Bool)(w:World),(Op.unary .not (.bool x)).run Tryz.prog w=.ok (.bool (!x)) w:=fun _ _=>rfl
 have HP:Hid (typM (Pu.toks s 0) (n+1) k=bnd (qdn (Pu.toks s 0) (smM s n) 1) (qfc (Pu.toks s 0) (typM (Pu.toks s 0) n) (tk (Pu.toks s 0) k).frm) k):=ai rfl
 have HC:=big_C hs hT IH h hk h6 (by omega)
 obtain⟨c,f,z⟩:=h.bx
 go_enter Tryz.func126,Tryz.ntmps126
 go_wp2_with fail
 refine HC.mono ?_
 intro e w1 hp
 cases hA:fin (Pu.toks s 0) (qdn (Pu.toks s 0) (smM s n) 1 k)with
 |error f'=>
  obtain⟨rfl,hb⟩:=hp.bad hA
  refine⟨rfl,hb,?_⟩
  rw[uh HP,qax hA (fun a=>stall_arrow _ _ _ a)]
 |ok r=>
 obtain⟨a,k2⟩:=r
 obtain⟨v,rfl,K1,R1,hk2,P1⟩:=hp.ok hA
 obtain⟨tv,xv,rfl⟩:=P1.iface
 have h62:=(qal hA).2
 have hlt:=qfe (qaw (qa2 (T:=Pu.toks s 0) n) (qa2 n) 1) 1 _ _ _ (qal hA).1
 have HP2:=ai ((uh HP).trans (qae hA))
 have o2:=qdb s k2 hk2
 have z1:=K1.size
 clear hp hA HP HC c f z h
 by_cases hc:isT (tk (Pu.toks s 0) k2) kArrow=true
 .have t2:((qaj (tk (Pu.toks s 0) k2)).toList==kArrow.toList)=true:=by rw[qdv o2 h62 (by decide)];exact hc
  obtain⟨k3,e3,e4⟩:=qf3 s k2 hk2 (by have:=qbe hc;omega)
  have HP3:Hid (typM (Pu.toks s 0) (n+1) k=bnd (typM (Pu.toks s 0) n) (fun b k'=>.ok (.mk 17 kNo 0 [a,b] (tk (Pu.toks s 0) k).frm (qan (Pu.toks s 0) k') (tk (Pu.toks s 0) k).frm,k')) (k2+1)):=ai ((uh HP2).trans (by unfold qfc;rw[if_pos hc]))
  have hst:∀b,qbm (Pu.toks s 0) (fun k'=>Except.ok (Nd.mk 17 kNo 0 [a,b] (tk (Pu.toks s 0) k).frm (qan (Pu.toks s 0) k') (tk (Pu.toks s 0) k).frm,k')):=fun b q h=>qa0 _ h
  clear HP2
  go_wp2_with fail
  refine(took_yes R1 hs (tk_to s k2 hk2) kArrow t2).mono ?_
  intro e w3 hp
  have hp:StepPost rb sb m s (tk (Pu.toks s 0) k2) (.bool true) w1 e w3:=hp
  by_cases h63:(qar s (tk (Pu.toks s 0) k2).to).kind=6
  .obtain⟨rfl,hb⟩:=hp.bad h63
   refine⟨rfl,K1.trans hb,?_⟩
   rw[uh HP3,qax (stall_typ (Pu.toks s 0) n (k2+1) (by rw[<-e3];exact h63)) hst,<-e3]
  obtain⟨rfl,hb,R3⟩:=hp.ok h63
  rw[e3,<-e4]at R3
  rw[e3]at h63
  have P3:=P1.ke hb (fun b p=>by show b≠rb;have:w.heap.size<=b:=p;omega)
  have K3:=K1.trans hb
  clear hp hb
  go_wp2_with fail
  refine(IH w3 rb sb m (k2+1) R3 k3 h63 (by omega)).mono ?_
  intro e w4 hp
  cases hA:fin (Pu.toks s 0) (typM (Pu.toks s 0) n (k2+1))with
  |error f=>
   obtain⟨rfl,hb⟩:=hp.bad hA
   refine⟨rfl,K3.trans hb,?_⟩
   rw[uh HP3,qax hA hst]
  |ok r=>
  obtain⟨b,k4⟩:=r
  obtain⟨u,rfl,hb,R4,hk4,P4⟩:=hp.ok hA
  obtain⟨tu,xu,rfl⟩:=P4.iface
  have h64:=(qal hA).2
  have K4:=K3.trans hb
  have HP4:=ai ((uh HP3).trans (qae hA))
  have z3:=K3.size
  have P5:=P3.ke hb (fun b p=>by show b≠rb;have:w.heap.size<=b:=p;omega)
  clear hp hA HP3 hb
  go_wp2_with(go_at_call 214;refine(since_C R4 _).mono ?_;rintro e w6⟨rfl,hb⟩;have R6:=ai (R4.bel hb);have K6:=ai (K4.below' hb);have P8:=ai (P5.bel hb);have P9:=ai (P4.bel hb);clear hb)
  go_ret
  refine⟨uh K6,?_⟩
  rw[uh HP4,fin_ok' _ h64]
  exact⟨_,rfl,uh R6,hk4,.fn _ _ _ _ _ _ _ _ _ _ _ (uh P8) ((uh P9).wide fun b p=>Nat.le_trans z3 p)⟩
 .have hc':isT (tk (Pu.toks s 0) k2) kArrow=false:=by simpa using hc
  have t2:((qaj (tk (Pu.toks s 0) k2)).toList==kArrow.toList)=false:=by rw[qdv o2 h62 (by decide)];exact hc'
  have HP3:Hid (typM (Pu.toks s 0) (n+1) k=.ok (a,k2)):=ai ((uh HP2).trans (by unfold qfc;rw[if_neg hc]))
  clear HP2
  go_wp2_with(go_at_call 213;refine(took_no R1 kArrow t2).mono ?_;rintro e w'⟨rfl,rfl⟩)
  go_ret
  refine⟨K1,?_⟩
  rw[uh HP3,fin_ok' _ h62]
  exact⟨_,rfl,R1,hk2,P1⟩
theorem arrow_C(hs:s.size<=1000)(hT:(Pu.toks s 0).length<=1001):∀n,ArrowC s n
 |0=>fun w rb sb m k _ hk _ hn=>by omega|n+1=>arrow_step hs hT (arrow_C hs hT n)
end
end
section
open Go Go.RowKit Go.ChangeMaps
abbrev kLow:BA:=⟨#[108,111,119,32,110,97,109,101]⟩
abbrev kNum:BA:=⟨#[97,32,110,117,109,98,101,114]⟩
abbrev rp(rb:Nat):Value:=.pointer (some ⟨rb,0,none⟩)
abbrev mth(f rb:Nat):Value:=.func (.func f) #[rp rb] #[]
abbrev clo(f b:Nat):Value:=.func (.func f) #[] #[.pointer (some ⟨b,0,none⟩)]
abbrev opR(b c:Nat):Value:=.func (.func 345) #[] #[.pointer (some ⟨b,0,none⟩),.pointer (some ⟨c,0,none⟩)]
abbrev declL(rb:Nat):List (BA×Value):=[(qce,mth 256 rb),(kLet,mth 257 rb)]
abbrev wordL(rb:Nat):List (BA×Value):=[(kFun,mth 258 rb),(kLet,mth 259 rb),(kIf,mth 260 rb),(qbc,mth 261 rb)]
abbrev atomL(rb b:Nat):List (BA×Value):=[(kLow,clo 262 b),(kUp,mth 264 rb),(kNum,clo 265 b),(kTrue,clo 267 b),(kFalse,clo 269 b),(kOpn,mth 270 rb)]
abbrev plainL(rb b:Nat):List (BA×Value):=[(kAny,mth 271 rb),(kLow,clo 272 b),(kUp,mth 273 rb),(kNum,clo 274 b),(kTrue,clo 275 b),(kFalse,clo 276 b),(kOpn,mth 277 rb)]
def MapAt(w:World)(N rb:Nat)(v:Value)(L:List (BA×Value)):Prop:=∃b,v=.map (some b)/\b<N/\b≠rb/\MS Value.string w b L
def BoxAt(w:World)(N rb b:Nat)(C:Array Value):Prop:=b<N/\b≠rb/\Bx w b C
structure Maps(w:World)(N rb:Nat)(m:MV):Prop where
 d:MapAt w N rb m.a (declL rb)
 wd:MapAt w N rb m.b (wordL rb)
 at_:∃x,BoxAt w N rb x #[rp rb]/\MapAt w N rb m.c (atomL rb x)
 pl:∃x,BoxAt w N rb x #[rp rb]/\MapAt w N rb m.d (plainL rb x)
 cm:∃x y,BoxAt w N rb x #[rp rb]/\BoxAt w N rb y #[mth 282 rb]/\MapAt w N rb m.f [(kLess,opR x y)]
 sm:∃x y x' y',BoxAt w N rb x #[rp rb]/\BoxAt w N rb y #[mth 283 rb]/\BoxAt w N rb x' #[rp rb]/\BoxAt w N rb y' #[mth 283 rb]/\MapAt w N rb m.g [(kPlus,opR x y),(kMinus,opR x' y')]
 pr:∃x y,BoxAt w N rb x #[rp rb]/\BoxAt w N rb y #[mth 284 rb]/\MapAt w N rb m.h [(kStar,opR x y)]
section
variable {w w':World} {N rb sb:Nat} {m:MV}
theorem MapAt.move{v:Value}{L:List (BA×Value)}(h:MapAt w N rb v L)(hb:∀b,b<N->b≠rb->w'.heap[b]? =w.heap[b]?):MapAt w' N rb v L:=by
 obtain⟨b,h1,h2,h3,h4⟩:=h
 exact⟨b,h1,h2,h3,h4.same (hb b h2 h3)⟩
theorem BoxAt.move{b:Nat}{C:Array Value}(h:BoxAt w N rb b C)(hs:w.heap.size<=w'.heap.size)(hb:∀b,b<N->b≠rb->w'.heap[b]? =w.heap[b]?):BoxAt w' N rb b C:=
 ⟨h.1,h.2.1,h.2.2.same hs (hb b h.1 h.2.1)⟩
theorem Maps.move(h:Maps w N rb m)(hs:w.heap.size<=w'.heap.size)(hb:∀b,b<N->b≠rb->w'.heap[b]? =w.heap[b]?):Maps w' N rb m:=by
 obtain⟨d,wd,⟨x1,a1,a2⟩,⟨x2,b1,b2⟩,⟨x3,y3,c1,c2,c3⟩,⟨x4,y4,x5,y5,d1,d2,d3,d4,d5⟩,⟨x6,y6,e1,e2,e3⟩⟩:=h
 exact⟨d.move hb,wd.move hb,⟨x1,a1.move hs hb,a2.move hb⟩,⟨x2,b1.move hs hb,b2.move hb⟩,⟨x3,y3,c1.move hs hb,c2.move hs hb,c3.move hb⟩,⟨x4,y4,x5,y5,d1.move hs hb,d2.move hs hb,d3.move hs hb,d4.move hs hb,d5.move hb⟩,⟨x6,y6,e1.move hs hb,e2.move hs hb,e3.move hb⟩⟩
structure Env(w:World)(N rb sb:Nat)(m:MV):Prop where
 sm:MS Value.string w sb (smL rb)
 la:Laid w
 h2:2<=rb
 hr:rb<N
 hs:sb<N
 ne:sb≠rb
 hN:N<=w.heap.size
 mp:Maps w N rb m
theorem Env.move(h:Env w N rb sb m)(hs:w.heap.size<=w'.heap.size)(hb:∀b,b<N->b≠rb->w'.heap[b]? =w.heap[b]?):Env w' N rb sb m:=by
 have c:∀b o,b<2->w'.cell? ⟨b,o,none⟩=w.cell? ⟨b,o,none⟩:=fun b o q=>World.cell?_of_block (a:=⟨b,o,none⟩) (hb b (by have:=h.hr;have:=h.h2;omega) (by have:=h.h2;omega))
 exact⟨h.sm.same (hb sb h.hs h.ne),⟨fun j hj=>(c 1 j (by omega)).trans (h.la.words j hj),fun j hj=>(c 0 j (by omega)).trans (h.la.signs j hj),Nat.le_trans h.la.hz hs⟩,h.h2,h.hr,h.hs,h.ne,Nat.le_trans h.hN hs,h.mp.move hs hb⟩
theorem Env.ke(h:Env w N rb sb m)(hk:Ke rb w w'):Env w' N rb sb m:=h.move hk.size fun b hb hn=>hk.block b (Nat.lt_of_lt_of_le hb h.hN) hn
end
structure SX(w:World)(N rb sb:Nat)(m:MV)(s:BA)(k:Nat):Prop where
 bx:Bx w rb (rdC s (tk (Pu.toks s 0) k) (qan (Pu.toks s 0) k) m sb)
 ev:Env w N rb sb m
 lt:k<(Pu.toks s 0).length
 ok:(tk (Pu.toks s 0) k).kind≠6
def RuleX{α:Type}(R:World->(Nat->Prop)->α->Value->Prop)(N rb sb:Nat)(m:MV)(s:BA)(r:Except Fl (α×Nat))(w:World)(e:Ending)(w':World):Prop:=
 Ke rb w w'/\match fin (Pu.toks s 0) r with
  |.error f=>e=qd3 f|.ok (a,k)=>∃v,e=.returned v/\SX w' N rb sb m s k/\R w' (fun b=>w.heap.size<=b) a v
section
variable {α β:Type} {R:World->(Nat->Prop)->α->Value->Prop} {w w':World} {N rb sb:Nat} {m:MV} {s:BA} {k:Nat} {e:Ending}
theorem SX.rd(h:SX w N rb sb m s k):RD w rb sb m s (tk (Pu.toks s 0) k) (qan (Pu.toks s 0) k):=⟨h.bx,h.ev.sm,h.ev.ne,h.ev.la,h.ev.h2⟩
theorem SX.move(h:SX w N rb sb m s k)(hs:w.heap.size<=w'.heap.size)(hb:∀b,b<N->w'.heap[b]? =w.heap[b]?):SX w' N rb sb m s k:=
 ⟨h.bx.same hs (hb rb h.ev.hr),h.ev.move hs (fun b q _=>hb b q),h.lt,h.ok⟩
theorem SX.bel(h:SX w N rb sb m s k)(hb:Below w.heap.size w w'):SX w' N rb sb m s k:=h.move hb.size fun b q=>hb.block b (Nat.lt_of_lt_of_le q h.ev.hN)
theorem SX.z(h:SX w N rb sb m s k):rb<w.heap.size:=h.bx.z
theorem SX.of(h:RD w rb sb m s (tk (Pu.toks s 0) k) (qan (Pu.toks s 0) k))(hE:Env w N rb sb m)(h1:k<(Pu.toks s 0).length)(h2:(tk (Pu.toks s 0) k).kind≠6):SX w N rb sb m s k:=⟨h.bx,hE,h1,h2⟩
theorem RuleX.ok{r:Except Fl (α×Nat)}(h:RuleX R N rb sb m s r w e w'){a:α}(hr:fin (Pu.toks s 0) r=.ok (a,k)):∃v,e=.returned v/\Ke rb w w'/\SX w' N rb sb m s k/\R w' (fun b=>w.heap.size<=b) a v:=by
 obtain⟨h1,h2⟩:=h
 rw[hr]at h2
 obtain⟨v,e1,e2,e3⟩:=h2
 exact⟨v,e1,h1,e2,e3⟩
theorem RuleX.bad{r:Except Fl (α×Nat)}(h:RuleX R N rb sb m s r w e w'){f:Fl}(hr:fin (Pu.toks s 0) r=.error f):e=qd3 f/\Ke rb w w':=by
 obtain⟨h1,h2⟩:=h
 rw[hr]at h2
 exact⟨h2,h1⟩
theorem RuleX.fail{r:Except Fl (α×Nat)}{f:Fl}(hK:Ke rb w w')(h:fin (Pu.toks s 0) r=.error f):RuleX R N rb sb m s r w (qd3 f) w':=⟨hK,by rw[h]⟩
theorem RuleX.stop{r:Except Fl (α×Nat)}{mm:M β}{g:β->M α}{j:Nat}{f:Fl}(hE:r=bnd mm g j)(hA:fin (Pu.toks s 0) (mm j)=.error f)(hst:∀a,qbm (Pu.toks s 0) (g a))(hK:Ke rb w w'):RuleX R N rb sb m s r w (qd3 f) w':=
 RuleX.fail hK (by rw[hE,qax hA hst])
theorem RuleX.done{r:Except Fl (α×Nat)}{a:α}{v:Value}(hE:r=.ok (a,k))(hK:Ke rb w w')(hS:SX w' N rb sb m s k)(hR:R w' (fun b=>w.heap.size<=b) a v):RuleX R N rb sb m s r w (.returned v) w':=by
 refine⟨hK,?_⟩
 rw[hE,fin_ok' _ hS.ok]
 exact⟨v,rfl,hS,hR⟩
theorem RulePost.x{r:Except Fl (Nd×Nat)}(h:RulePost rb sb m s r w e w')(hX:SX w N rb sb m s k):RuleX PT N rb sb m s r w e w':=by
 obtain⟨h1,h2⟩:=h
 refine⟨h1,?_⟩
 cases hr:fin (Pu.toks s 0) r with
 |error f=>rw[hr]at h2;exact h2|ok p=>
  obtain⟨a,j⟩:=p
  rw[hr]at h2
  obtain⟨v,e1,e2,e3,e4⟩:=h2
  exact⟨v,e1,SX.of e2 (hX.ev.ke h1) e3 (qal hr).2,e4⟩
theorem StepPost.x{v:Value}(h:StepPost rb sb m s (tk (Pu.toks s 0) k) v w e w')(hX:SX w N rb sb m s k)(h7:(tk (Pu.toks s 0) k).kind≠7){a:α}(hR:R w' (fun b=>w.heap.size<=b) a v):RuleX R N rb sb m s (.ok (a,k+1)) w e w':=by
 obtain⟨h1,h2,h3⟩:=qf3 s k hX.lt h7
 unfold StepPost at h
 rw[h2,<-h3]at h
 refine⟨h.1,?_⟩
 unfold fin
 rcases h.2 with⟨g1,g2,g3⟩|⟨g1,g2⟩
 .simp only[if_neg g1]
  exact⟨v,g2,SX.of g3 (hX.ev.ke h.1) h1 g1,hR⟩
 .simp only[if_pos g1]
  exact g2
theorem kind_isW{t:Pu.Tok}(h:qd5 t)(hk:t.kind≠6){kd:BA}(hs:kd.size<=5):((qaj t).toList==kd.toList)=isT t kd:=by
 have hl:kd.toList.length<=5:=by rw[ByteArray.toList_eq];simpa using hs
 have no:∀x:List UInt8,5<x.length->(x==kd.toList)=false:=fun x hx=>by
  rw[beq_eq_false_iff_ne]
  intro e
  rw[e]at hx
  omega
 unfold isT
 obtain h'|h'|h'|h'|h'|h'|h':=h.kd
 .rw[qc7 h',no _ (by rw[ByteArray.toList_eq];decide)];simp[h']
 .rw[qc0 h',no _ (by rw[ByteArray.toList_eq];decide)];simp[h']
 .rw[qc1 h',no _ (by rw[ByteArray.toList_eq];decide)];simp[h']
 .rw[qc8 h',no _ (by rw[ByteArray.toList_eq];decide)];simp[h']
 .rw[qdi h'];simp[h']
 .exact absurd h' hk
 .rw[qc9 h',no _ (by rw[ByteArray.toList_eq];decide)];simp[h']
theorem kind_low{t:Pu.Tok}(h:qd5 t)(hk:t.kind≠6):((qaj t).toList==kLow.toList)=(t.kind==1):=by
 obtain h'|h'|h'|h'|h'|h'|h':=h.kd
 .rw[qc7 h'];simp[h',ByteArray.toList_eq]
 .rw[qc0 h'];simp[h',ByteArray.toList_eq]
 .rw[qc1 h'];simp[h',ByteArray.toList_eq]
 .rw[qc8 h'];simp[h',ByteArray.toList_eq]
 .rw[qfg h hk (by decide) h'];simp[h']
 .exact absurd h' hk
 .rw[qc9 h'];simp[h',ByteArray.toList_eq]
theorem kind_num{t:Pu.Tok}(h:qd5 t)(hk:t.kind≠6):((qaj t).toList==kNum.toList)=(t.kind==4):=by
 obtain h'|h'|h'|h'|h'|h'|h':=h.kd
 .rw[qc7 h'];simp[h',ByteArray.toList_eq]
 .rw[qc0 h'];simp[h',ByteArray.toList_eq]
 .rw[qc1 h'];simp[h',ByteArray.toList_eq]
 .rw[qc8 h'];simp[h',ByteArray.toList_eq]
 .rw[qfg h hk (by decide) h'];simp[h']
 .exact absurd h' hk
 .rw[qc9 h'];simp[h',ByteArray.toList_eq]
abbrev tkA(t:Pu.Tok):Value:=.agg #[.int .i64 (t.frm:Int),.int .i64 (t.to:Int),.string (qaj t),.string t.text]
abbrev nmA(t:Pu.Tok):Value:=.agg #[.int .i64 (t.frm:Int),.int .i64 (t.to:Int),.string t.text]
def Is{α:Type}(u:Value)(_:World)(_:Nat->Prop)(_:α)(v:Value):Prop:=v=u
def IsName(_:World)(_:Nat->Prop)(t:Pu.Tok)(v:Value):Prop:=v=nmA t
theorem isT_7{t:Pu.Tok}{c:BA}(h:isT t c=true):t.kind≠7:=by have:=qbe h;omega
theorem qcg(h:SX w N rb sb m s k)(hs:s.size<=1000)(c:BA)(hc:c.size<=5):Calls Tryz.prog 108 #[rp rb,.string c] w (RuleX (Is (tkA (tk (Pu.toks s 0) k))) N rb sb m s (qag (Pu.toks s 0) c k) w):=by
 have ho:=qdb s k h.lt
 have hk:=kind_isW ho h.ok hc
 cases hi:isT (tk (Pu.toks s 0) k) c with
 |true=>
  rw[hi]at hk
  refine(qdx h.rd hs (tk_to s k h.lt) c hk).mono fun e w' hp=>?_
  have hp':StepPost rb sb m s (tk (Pu.toks s 0) k) (qbo (tk (Pu.toks s 0) k)) w e w':=hp
  have:=hp'.x (R:=Is (tkA (tk (Pu.toks s 0) k))) h (isT_7 hi) (a:=()) rfl
  unfold qag
  rw[if_pos hi]
  exact this
 |false=>
  rw[hi]at hk
  refine(take_no h.rd c hk h.ok).mono ?_
  rintro e w'⟨rfl,hK⟩
  exact RuleX.fail hK (by unfold qag;rw[hi];rfl)
theorem took_Y(h:SX w N rb sb m s k)(hs:s.size<=1000)(c:BA)(hc:c.size<=5)(hi:isT (tk (Pu.toks s 0) k) c=true):Calls Tryz.prog 213 #[rp rb,.string c] w (RuleX (Is (.bool true)) N rb sb m s (.ok ((),k+1)) w):=by
 have ho:=qdb s k h.lt
 have hk:=kind_isW ho h.ok hc
 rw[hi]at hk
 refine(took_yes h.rd hs (tk_to s k h.lt) c hk).mono fun e w' hp=>?_
 have hp':StepPost rb sb m s (tk (Pu.toks s 0) k) (.bool true) w e w':=hp
 exact hp'.x (R:=Is (.bool true)) h (isT_7 hi) rfl
theorem took_N(h:SX w N rb sb m s k)(c:BA)(hc:c.size<=5)(hi:isT (tk (Pu.toks s 0) k) c=false):Calls Tryz.prog 213 #[rp rb,.string c] w fun e w'=>e=.returned (.bool false)/\w=w':=
 (took_no h.rd c (by rw[kind_isW (qdb s k h.lt) h.ok hc];exact hi)).mono fun e w' q=>⟨q.1,q.2.symm⟩
theorem name_X(h:SX w N rb sb m s k)(hs:s.size<=1000)(n:Nat)(c:BA)(hc:n=1/\c=kLow\/n=2/\c=kUp):Calls Tryz.prog 309 #[rp rb,.string c] w (RuleX IsName N rb sb m s (qa7 (Pu.toks s 0) n k) w):=by
 have ho:=qdb s k h.lt
 have hk:((qaj (tk (Pu.toks s 0) k)).toList==c.toList)=((tk (Pu.toks s 0) k).kind==n):=by
  rcases hc with⟨rfl,rfl⟩|⟨rfl,rfl⟩
  .exact kind_low ho h.ok
  .exact kind_up ho h.ok
 cases hi:((tk (Pu.toks s 0) k).kind==n)with
 |true=>
  rw[hi]at hk
  have hn:(tk (Pu.toks s 0) k).kind=n:=by simpa using hi
  refine(name_C h.rd hs (tk_to s k h.lt) c hk).mono fun e w' hp=>?_
  have:=hp.x (R:=IsName) h (by rcases hc with⟨rfl,_⟩|⟨rfl,_⟩<;>omega) (a:=tk (Pu.toks s 0) k) rfl
  unfold qa7
  rw[if_pos hi]
  exact this
 |false=>
  rw[hi]at hk
  refine(name_no h.rd c hk h.ok).mono ?_
  rintro e w'⟨rfl,hK⟩
  exact RuleX.fail hK (by unfold qa7;rw[hi];rfl)
theorem qcr(h:SX w N rb sb m s k)(i:Int):Calls Tryz.prog 214 #[rp rb,.int .i64 i] w fun e w'=>e=.returned (.agg #[.int .i64 i,.int .i64 ((qan (Pu.toks s 0) k:Nat):Int)])/\Below w.heap.size w w':=since_C h.rd i
theorem qao{T:List Pu.Tok}(g:Nat->α):qbm T fun k=>.ok (g k,k):=fun _ h=>qa0 _ h
theorem qfj(T:List Pu.Tok)(n:Nat)(hn:n≠6):qbm T (qa7 T n):=fun k h=>by unfold qa7;rw[if_neg (by simp[h];omega)];rfl
end
end
end Go.Proofs.YtoceemjbcgmojaaGreatDoor

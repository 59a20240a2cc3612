import Derived.Test.YtoceemjbcgmojaaGreatDoorQSj
import Derived.Test.YtoceemjbcgmojaaGreatDoorQTj
set_option linter.all false
set_option maxRecDepth 100000
set_option maxHeartbeats 8000000
namespace Go.Proofs.YtoceemjbcgmojaaGreatDoor
section
open Go Go.RowKit Un
theorem toksF_last(s:BA):∀f i,∃l,Pu.toksF s f i=l++[Pu.endTok s]/\l.length<=f
 |0,i=>⟨[],rfl,br _⟩|f+1,i=>by
   unfold Pu.toksF
   split
   .split
    .obtain⟨l,h,k⟩:=toksF_last s f (i+1)
     exact⟨l,h,by omega⟩
    .obtain⟨l,h,k⟩:=toksF_last s f (Pu.tokAt s i).to
     exact⟨Pu.tokAt s i::l,by rw[h];rfl,by simp;omega⟩
   .exact⟨[],rfl,by simp⟩
theorem toks_last(s:BA)(i:Nat):∃l,Pu.toks s i=l++[Pu.endTok s]/\l.length<=s.size-i:=toksF_last s _ i
theorem toks_en(s:BA):∀i(h:i<(Pu.toks s 0).length),(Pu.toks s 0)[i].kind≠7->i+1<(Pu.toks s 0).length:=by
 obtain⟨l,e,_⟩:=toks_last s 0
 rw[e]
 intro i h hk
 simp at h⊢
 by_cases k:i=l.length
 .subst k
  rw[List.getElem_append_right (by omega)]at hk
  exact absurd (by simp[Pu.endTok]) hk
 .omega
def flV(f:Fl):Value:=.agg #[.int .i64 (f.kind:Int),.int .i64 (f.frm:Int),.int .i64 (f.to:Int)]
theorem tokCells_at(l:List Pu.Tok)(i:Nat)(h:i<l.length):(qbu l)[i*4]? =some (.int .i64 (l[i].kind:Int))/\(qbu l)[i*4+1]? =some (.string l[i].text)/\(qbu l)[i*4+2]? =some (.int .i64 (l[i].frm:Int))/\(qbu l)[i*4+3]? =some (.int .i64 (l[i].to:Int)):=by
 induction l generalizing i with
 |nil=>simp at h|cons x xs ih=>
  cases i with
  |zero=>simp[qbu]|succ i=>
   have:=ih i (by simpa using h)
   have e:∀j,(qbu (x::xs))[(i+1)*4+j]? =(qbu xs)[i*4+j]? :=fun j=>by
    have:qbu (x::xs)=.int .i64 (x.kind:Int)::.string x.text::.int .i64 (x.frm:Int)::.int .i64 (x.to:Int)::qbu xs:=by simp[qbu]
    rw[this,show(i+1)*4+j=i*4+j+4 by omega]
    simp
   have e0:=e 0
   simp only[Nat.add_zero]at e0
   rw[e0,e 1,e 2,e 3]
   simpa using this
section
variable {w:World}
theorem _root_.Go.RowKit.Below.ke'{B rb:Nat}{a b c:World}(h:Below B a b)(k:Ke rb b c)(hr:B<=rb)(hB:B<=b.heap.size):Below B a c:=
 ⟨k.os.trans h.os,k.tape.trans h.tape,k.output.trans h.output,Nat.le_trans h.size k.size,fun i hi=>(k.block i (by omega) (by omega)).trans (h.block i hi)⟩
theorem SS.made{w1:World}{base g cap:Nat}{T:List Pu.Tok}(ho:w1.ownsRow base 58 4 (.slice (some ⟨g,0,none⟩) T.length cap) T.length (qbu T))(hp:0<T.length)(hT:T.length<=1001)(en:∀i(h:i<T.length),T[i].kind≠7->i+1<T.length)(tt:TypeId):
 SS (w1.alloc (.cells #[.slice (some ⟨g,0,none⟩) T.length cap,.int .i64 0,.int .i64 0,.int .i64 0,.int .i64 0] tt)) w1.heap.size g cap T (.ok 0):=by
 have zg:=(qa3 ho g rfl).2
 have B:=Bx.new w1 #[.slice (some ⟨g,0,none⟩) T.length cap,.int .i64 0,.int .i64 0,.int .i64 0,.int .i64 0] tt
 have bb:=(Below.refl w1.heap.size w1).alloc (br _) (.cells #[.slice (some ⟨g,0,none⟩) T.length cap,.int .i64 0,.int .i64 0,.int .i64 0,.int .i64 0] tt)
 refine(show RS _ _ _ _ _ 0 noFl from⟨B.c 0,B.c 1,B.c 2,B.c 3,B.c 4,B.f,fun i hi=>?_,B.z,by have:=bb.size;omega,by omega,hp,hT,en⟩)
 obtain⟨t0,t1,t2,t3⟩:=tokCells_at T i hi
 rw[oldCell bb g _ zg,oldCell bb g _ zg,oldCell bb g _ zg,oldCell bb g _ zg,qfw ho _ (by omega),qfw ho _ (by omega),qfw ho _ (by omega),qfw ho _ (by omega)]
 exact⟨t0,t1,t2,t3⟩
end
end
section
open Go Go.RowKit Un
section
variable {w:World} {kb nb:Nat} {hv iv lv nv:Value} {ns:List BA} {K:Nat->Option Ty} {R:Nat->Ty} {rk:Nat->Nat} {P:Nat->Prop}
end
end
section
open Go Go.RowKit
section
variable {rb g cap:Nat} {T:List Pu.Tok} {σ:St} {w:World}
theorem expr_function{n:Nat}{m:M Nd}(HF:NodeC rb g cap T 119 #[.pointer (some ⟨rb,0,none⟩)] m n)(h:SS w rb g cap T σ)(hf:∀k,σ=.ok k->T.length<=k+n)(hy:isS T σ kFun=true):
 Calls Tryz.prog 120 #[.pointer (some ⟨rb,0,none⟩)] w fun e w'=>∃x:NV,e=.returned x.v/\Ke rb w w'/\SS w' rb g cap T (nx σ m)/\∀k a k',σ=.ok k->m k=.ok (a,k')->NR w' (fun b=>w.heap.size<=b) a x:=by
 have HF':=ai HF
 have hf':=ai hf
 have ff:=qd4
 clear HF hf
 have hr:=h.hr
 have hg:=h.hg
 have H1:=ai h
 have K2:=ai (Ke.refl rb w)
 clear h
 go_enter Tryz.func120,Tryz.ntmps120
 go_wp2_with fail
 have H3:=ai ((uh H1).alloc (.cells qat 62))
 have K4:=ai ((uh K2).alloc (.cells qat 62))
 have B5:=ai (Bx.at w qat 62 (w.heap.size) (by simp[World.setCell]))
 clear H1 K2
 refine(qb5 (uh H3)).mono ?_
 rintro e w1⟨t,rfl,hb,ht⟩
 have H6:=ai ((uh H3).below hb)
 have K7:=ai ((uh K4).below hb)
 have z8:=hb.size
 try simp[World.setCell]at z8
 have B9:=ai ((uh B5).below hb)
 clear H3 K4 B5 hb
 obtain⟨c10,f11,y12⟩:=uh B9
 have Ht:=ai ht
 clear ht
 unfold tokV
 go_wp2_with fail
 clear c10 f11 y12
 refine(is_S (uh H6) kFun).mono ?_
 rintro e w2⟨rfl,hb⟩
 have H16:=ai ((uh H6).below hb)
 have K17:=ai ((uh K7).below hb)
 have z18:=hb.size
 try simp[World.setCell]at z18
 have B19:=ai ((uh B9).below hb)
 clear H6 K7 B9 hb
 obtain⟨c20,f21,y22⟩:=uh B19
 go_wp2_with fail
 clear c20 f21 y22
 refine(uh HF' _ _ (uh H16) (uh hf')).mono ?_
 rintro e w8⟨x,rfl,hb,hS,hN⟩
 have H26:=ai hS
 have K27:=ai ((uh K17).trans hb)
 have z28:=hb.size
 try simp[World.setCell]at z28
 have B29:=ai ((uh B19).ke hb (by omega))
 clear H16 K17 B19 hb hS
 obtain⟨c30,f31,y32⟩:=uh B29
 have hN1:=ai (fun k a k' (h1:σ=.ok k) (hq:m k=.ok (a,k'))=>(hN k a k' h1 hq).rng w2.heap.size (fun b hb=>by simpa using hb))
 clear hN
 unfold NV.v
 go_wp2_with fail
 have H33:=ai ((uh H26).st7 (b:=w.heap.size) (by omega) (by omega) x)
 have K34:=ai ((uh K27).st7 (b:=w.heap.size) (by omega) x)
 have B35:=ai ((uh B29).st7 rfl x)
 have R36:=ai (fun k a k' h1 hq=>(NRst7 (uh hN1 k a k' h1 hq) (b2:=w.heap.size) (fun b hb _=>by omega) x))
 clear H26 K27 B29 hN1 c30 f31 y32
 obtain⟨cF,fF,zF⟩:=uh B35
 refine bodyPost_ret (v:=NV.v x) (by simp[results,Tryz.results120,go_sem,cF,NV.v];try rfl) rfl ⟨_,rfl,uh K34,uh H33,fun k a k' h1 hq=>?_⟩
 exact(uh R36 k a k' h1 hq).wide _ (fun b hb=>by omega)
theorem expr_choice{n:Nat}{m:M Nd}(HF:NodeC rb g cap T 207 #[.pointer (some ⟨rb,0,none⟩)] m n)(h:SS w rb g cap T σ)(hf:∀k,σ=.ok k->T.length<=k+n)(h0:isS T σ kFun=false)(hy:isS T σ kIf=true):
 Calls Tryz.prog 120 #[.pointer (some ⟨rb,0,none⟩)] w fun e w'=>∃x:NV,e=.returned x.v/\Ke rb w w'/\SS w' rb g cap T (nx σ m)/\∀k a k',σ=.ok k->m k=.ok (a,k')->NR w' (fun b=>w.heap.size<=b) a x:=by
 have HF':=ai HF
 have hf':=ai hf
 have ff:=qd4
 clear HF hf
 have hr:=h.hr
 have hg:=h.hg
 have H1:=ai h
 have K2:=ai (Ke.refl rb w)
 clear h
 go_enter Tryz.func120,Tryz.ntmps120
 go_wp2_with fail
 have H3:=ai ((uh H1).alloc (.cells qat 62))
 have K4:=ai ((uh K2).alloc (.cells qat 62))
 have B5:=ai (Bx.at w qat 62 (w.heap.size) (by simp[World.setCell]))
 clear H1 K2
 refine(qb5 (uh H3)).mono ?_
 rintro e w1⟨t,rfl,hb,ht⟩
 have H6:=ai ((uh H3).below hb)
 have K7:=ai ((uh K4).below hb)
 have z8:=hb.size
 try simp[World.setCell]at z8
 have B9:=ai ((uh B5).below hb)
 clear H3 K4 B5 hb
 obtain⟨c10,f11,y12⟩:=uh B9
 have Ht:=ai ht
 clear ht
 unfold tokV
 go_wp2_with fail
 clear c10 f11 y12
 refine(is_S (uh H6) kFun).mono ?_
 rintro e w2⟨rfl,hb⟩
 have H16:=ai ((uh H6).below hb)
 have K17:=ai ((uh K7).below hb)
 have z18:=hb.size
 try simp[World.setCell]at z18
 have B19:=ai ((uh B9).below hb)
 clear H6 K7 B9 hb
 obtain⟨c20,f21,y22⟩:=uh B19
 go_wp2_with fail
 clear c20 f21 y22
 refine(is_S (uh H16) kIf).mono ?_
 rintro e w3⟨rfl,hb⟩
 have H26:=ai ((uh H16).below hb)
 have K27:=ai ((uh K17).below hb)
 have z28:=hb.size
 try simp[World.setCell]at z28
 have B29:=ai ((uh B19).below hb)
 clear H16 K17 B19 hb
 obtain⟨c30,f31,y32⟩:=uh B29
 go_wp2_with fail
 clear c30 f31 y32
 refine(uh HF' _ _ (uh H26) (uh hf')).mono ?_
 rintro e w8⟨x,rfl,hb,hS,hN⟩
 have H36:=ai hS
 have K37:=ai ((uh K27).trans hb)
 have z38:=hb.size
 try simp[World.setCell]at z38
 have B39:=ai ((uh B29).ke hb (by omega))
 clear H26 K27 B29 hb hS
 obtain⟨c40,f41,y42⟩:=uh B39
 have hN1:=ai (fun k a k' (h1:σ=.ok k) (hq:m k=.ok (a,k'))=>(hN k a k' h1 hq).rng w3.heap.size (fun b hb=>by simpa using hb))
 clear hN
 unfold NV.v
 go_wp2_with fail
 have H43:=ai ((uh H36).st7 (b:=w.heap.size) (by omega) (by omega) x)
 have K44:=ai ((uh K37).st7 (b:=w.heap.size) (by omega) x)
 have B45:=ai ((uh B39).st7 rfl x)
 have R46:=ai (fun k a k' h1 hq=>(NRst7 (uh hN1 k a k' h1 hq) (b2:=w.heap.size) (fun b hb _=>by omega) x))
 clear H36 K37 B39 hN1 c40 f41 y42
 obtain⟨cF,fF,zF⟩:=uh B45
 refine bodyPost_ret (v:=NV.v x) (by simp[results,Tryz.results120,go_sem,cF,NV.v];try rfl) rfl ⟨_,rfl,uh K44,uh H43,fun k a k' h1 hq=>?_⟩
 exact(uh R46 k a k' h1 hq).wide _ (fun b hb=>by omega)
theorem expr_match{n:Nat}{m:M Nd}(HF:NodeC rb g cap T 208 #[.pointer (some ⟨rb,0,none⟩)] m n)(h:SS w rb g cap T σ)(hf:∀k,σ=.ok k->T.length<=k+n)(h0:isS T σ kFun=false)(h1:isS T σ kIf=false)(hy:isS T σ qbc=true):
 Calls Tryz.prog 120 #[.pointer (some ⟨rb,0,none⟩)] w fun e w'=>∃x:NV,e=.returned x.v/\Ke rb w w'/\SS w' rb g cap T (nx σ m)/\∀k a k',σ=.ok k->m k=.ok (a,k')->NR w' (fun b=>w.heap.size<=b) a x:=by
 have HF':=ai HF
 have hf':=ai hf
 have ff:=qd4
 clear HF hf
 have hr:=h.hr
 have hg:=h.hg
 have H1:=ai h
 have K2:=ai (Ke.refl rb w)
 clear h
 go_enter Tryz.func120,Tryz.ntmps120
 go_wp2_with fail
 have H3:=ai ((uh H1).alloc (.cells qat 62))
 have K4:=ai ((uh K2).alloc (.cells qat 62))
 have B5:=ai (Bx.at w qat 62 (w.heap.size) (by simp[World.setCell]))
 clear H1 K2
 refine(qb5 (uh H3)).mono ?_
 rintro e w1⟨t,rfl,hb,ht⟩
 have H6:=ai ((uh H3).below hb)
 have K7:=ai ((uh K4).below hb)
 have z8:=hb.size
 try simp[World.setCell]at z8
 have B9:=ai ((uh B5).below hb)
 clear H3 K4 B5 hb
 obtain⟨c10,f11,y12⟩:=uh B9
 have Ht:=ai ht
 clear ht
 unfold tokV
 go_wp2_with fail
 clear c10 f11 y12
 refine(is_S (uh H6) kFun).mono ?_
 rintro e w2⟨rfl,hb⟩
 have H16:=ai ((uh H6).below hb)
 have K17:=ai ((uh K7).below hb)
 have z18:=hb.size
 try simp[World.setCell]at z18
 have B19:=ai ((uh B9).below hb)
 clear H6 K7 B9 hb
 obtain⟨c20,f21,y22⟩:=uh B19
 go_wp2_with fail
 clear c20 f21 y22
 refine(is_S (uh H16) kIf).mono ?_
 rintro e w3⟨rfl,hb⟩
 have H26:=ai ((uh H16).below hb)
 have K27:=ai ((uh K17).below hb)
 have z28:=hb.size
 try simp[World.setCell]at z28
 have B29:=ai ((uh B19).below hb)
 clear H16 K17 B19 hb
 obtain⟨c30,f31,y32⟩:=uh B29
 go_wp2_with fail
 clear c30 f31 y32
 refine(is_S (uh H26) qbc).mono ?_
 rintro e w4⟨rfl,hb⟩
 have H36:=ai ((uh H26).below hb)
 have K37:=ai ((uh K27).below hb)
 have z38:=hb.size
 try simp[World.setCell]at z38
 have B39:=ai ((uh B29).below hb)
 clear H26 K27 B29 hb
 obtain⟨c40,f41,y42⟩:=uh B39
 go_wp2_with fail
 clear c40 f41 y42
 refine(uh HF' _ _ (uh H36) (uh hf')).mono ?_
 rintro e w8⟨x,rfl,hb,hS,hN⟩
 have H46:=ai hS
 have K47:=ai ((uh K37).trans hb)
 have z48:=hb.size
 try simp[World.setCell]at z48
 have B49:=ai ((uh B39).ke hb (by omega))
 clear H36 K37 B39 hb hS
 obtain⟨c50,f51,y52⟩:=uh B49
 have hN1:=ai (fun k a k' (h1:σ=.ok k) (hq:m k=.ok (a,k'))=>(hN k a k' h1 hq).rng w4.heap.size (fun b hb=>by simpa using hb))
 clear hN
 unfold NV.v
 go_wp2_with fail
 have H53:=ai ((uh H46).st7 (b:=w.heap.size) (by omega) (by omega) x)
 have K54:=ai ((uh K47).st7 (b:=w.heap.size) (by omega) x)
 have B55:=ai ((uh B49).st7 rfl x)
 have R56:=ai (fun k a k' h1 hq=>(NRst7 (uh hN1 k a k' h1 hq) (b2:=w.heap.size) (fun b hb _=>by omega) x))
 clear H46 K47 B49 hN1 c50 f51 y52
 obtain⟨cF,fF,zF⟩:=uh B55
 refine bodyPost_ret (v:=NV.v x) (by simp[results,Tryz.results120,go_sem,cF,NV.v];try rfl) rfl ⟨_,rfl,uh K54,uh H53,fun k a k' h1 hq=>?_⟩
 exact(uh R56 k a k' h1 hq).wide _ (fun b hb=>by omega)
theorem less_no{n:Nat}{sum:M Nd}(HS:NodeC rb g cap T 209 #[.pointer (some ⟨rb,0,none⟩)] sum n)(h:SS w rb g cap T σ)(hf:∀k,σ=.ok k->T.length<=k+n)(h0:isS T σ kFun=false)(h1:isS T σ kIf=false)(h2:isS T σ qbc=false)(h3:isS T σ kLet=false)(hl:isS T (nx σ sum) kLess=false):
 Calls Tryz.prog 120 #[.pointer (some ⟨rb,0,none⟩)] w fun e w'=>∃x:NV,e=.returned x.v/\Ke rb w w'/\SS w' rb g cap T (nx σ sum)/\∀k a k',σ=.ok k->sum k=.ok (a,k')->NR w' (fun b=>w.heap.size<=b) a x:=by
 have HS':=ai HS
 have hf':=ai hf
 have ff:=qd4
 clear HS hf
 have hr:=h.hr
 have hg:=h.hg
 have H1:=ai h
 have K2:=ai (Ke.refl rb w)
 clear h
 go_enter Tryz.func120,Tryz.ntmps120
 go_wp2_with fail
 have H3:=ai ((uh H1).alloc (.cells qat 62))
 have K4:=ai ((uh K2).alloc (.cells qat 62))
 have B5:=ai (Bx.at w qat 62 (w.heap.size) (by simp[World.setCell]))
 clear H1 K2
 refine(qb5 (uh H3)).mono ?_
 rintro e w1⟨t,rfl,hb,ht⟩
 have H6:=ai ((uh H3).below hb)
 have K7:=ai ((uh K4).below hb)
 have z8:=hb.size
 try simp[World.setCell]at z8
 have B9:=ai ((uh B5).below hb)
 clear H3 K4 B5 hb
 obtain⟨c10,f11,y12⟩:=uh B9
 have Ht:=ai ht
 clear ht
 unfold tokV
 go_wp2_with fail
 clear c10 f11 y12
 refine(is_S (uh H6) kFun).mono ?_
 rintro e w2⟨rfl,hb⟩
 have H16:=ai ((uh H6).below hb)
 have K17:=ai ((uh K7).below hb)
 have z18:=hb.size
 try simp[World.setCell]at z18
 have B19:=ai ((uh B9).below hb)
 clear H6 K7 B9 hb
 obtain⟨c20,f21,y22⟩:=uh B19
 go_wp2_with fail
 clear c20 f21 y22
 refine(is_S (uh H16) kIf).mono ?_
 rintro e w3⟨rfl,hb⟩
 have H26:=ai ((uh H16).below hb)
 have K27:=ai ((uh K17).below hb)
 have z28:=hb.size
 try simp[World.setCell]at z28
 have B29:=ai ((uh B19).below hb)
 clear H16 K17 B19 hb
 obtain⟨c30,f31,y32⟩:=uh B29
 go_wp2_with fail
 clear c30 f31 y32
 refine(is_S (uh H26) qbc).mono ?_
 rintro e w4⟨rfl,hb⟩
 have H36:=ai ((uh H26).below hb)
 have K37:=ai ((uh K27).below hb)
 have z38:=hb.size
 try simp[World.setCell]at z38
 have B39:=ai ((uh B29).below hb)
 clear H26 K27 B29 hb
 obtain⟨c40,f41,y42⟩:=uh B39
 go_wp2_with fail
 clear c40 f41 y42
 refine(is_S (uh H36) kLet).mono ?_
 rintro e w5⟨rfl,hb⟩
 have H46:=ai ((uh H36).below hb)
 have K47:=ai ((uh K37).below hb)
 have z48:=hb.size
 try simp[World.setCell]at z48
 have B49:=ai ((uh B39).below hb)
 clear H36 K37 B39 hb
 obtain⟨c50,f51,y52⟩:=uh B49
 go_wp2_with fail
 clear c50 f51 y52
 refine(uh HS' _ _ (uh H46) (uh hf')).mono ?_
 rintro e w6⟨x,rfl,hb,hS,hN⟩
 have H56:=ai hS
 have K57:=ai ((uh K47).trans hb)
 have z58:=hb.size
 try simp[World.setCell]at z58
 have B59:=ai ((uh B49).ke hb (by omega))
 clear H46 K47 B49 hb hS
 obtain⟨c60,f61,y62⟩:=uh B59
 have hN1:=ai (fun k a k' (h1:σ=.ok k) (hq:sum k=.ok (a,k'))=>(hN k a k' h1 hq).rng w5.heap.size (fun b hb=>by simpa using hb))
 clear hN
 unfold NV.v
 go_wp2_with fail
 have H63:=ai ((uh H56).alloc (.cells (nvA x) 62))
 have K64:=ai ((uh K57).alloc (.cells (nvA x) 62))
 have B65:=ai ((uh B59).alloc (.cells (nvA x) 62))
 have B66:=ai (Bx.at w6 (nvA x) 62 (w6.heap.size) (by simp[World.setCell]))
 have R67:=ai (fun k a k' h1 hq=>(NR.bel (uh hN1 k a k' h1 hq) (bw (.cells (nvA x) 62))))
 clear H56 K57 B59 hN1 c60 f61 y62
 refine(is_S (uh H63) kLess).mono ?_
 rintro e w7⟨rfl,hb⟩
 have H68:=ai ((uh H63).below hb)
 have K69:=ai ((uh K64).below hb)
 have z70:=hb.size
 try simp[World.setCell]at z70
 have B71:=ai ((uh B65).below hb)
 have B72:=ai ((uh B66).below hb)
 have R73:=ai (fun k a k' h1 hq=>NR.bel (uh R67 k a k' h1 hq) hb)
 clear H63 K64 B65 B66 R67 hb
 obtain⟨c74,f75,y76⟩:=uh B71
 obtain⟨c77,f78,y79⟩:=uh B72
 go_wp2_with fail
 have H80:=ai ((uh H68).st7 (b:=w.heap.size) (by omega) (by omega) x)
 have K81:=ai ((uh K69).st7 (b:=w.heap.size) (by omega) x)
 have B82:=ai ((uh B71).st7 rfl x)
 have B83:=ai ((uh B72).stO7 (b:=w.heap.size) (by omega) x)
 have R84:=ai (fun k a k' h1 hq=>(NRst7 (uh R73 k a k' h1 hq) (b2:=w.heap.size) (fun b hb _=>by omega) x))
 clear H68 K69 B71 B72 R73 c74 f75 y76 c77 f78 y79
 obtain⟨cF,fF,zF⟩:=uh B82
 refine bodyPost_ret (v:=NV.v x) (by simp[results,Tryz.results120,go_sem,cF,NV.v];try rfl) rfl ⟨_,rfl,uh K81,uh H80,fun k a k' h1 hq=>?_⟩
 exact(uh R84 k a k' h1 hq).wide _ (fun b hb=>by omega)
end
end
section
open Go Go.RowKit
section
variable {rb g cap:Nat} {T:List Pu.Tok} {σ:St} {w:World}
theorem let_nx(σ:St)(expr:M Nd):nx σ (letM T expr)=nx (nx (nx σ (qbg T expr)) (qag T kIn)) expr:=by
 cases σ with
 |error f=>rfl|ok k=>
  simp only[nx,letM,bnd]
  cases e0:qbg T expr k with
  |error f=>rfl|ok p0=>
   simp only
   cases e1:qag T kIn p0.2 with
   |error f=>rfl|ok p1=>
    simp only
    cases e2:expr p1.2 with
    |error f=>rfl|ok p2=>rfl
theorem bound_mono{expr:M Nd}(hm:Mono expr):∀k b k',qbg T expr k=.ok (b,k')->k<=k':=by
 intro k b k' h
 unfold qbg at h
 obtain⟨_,k1,q1,r1⟩:=qad h
 have:=qah _ _ _ _ q1
 split at r1
 .obtain⟨_,k2,q2,r2⟩:=qad r1
  obtain⟨_,k3,q3,r3⟩:=qad r2
  obtain⟨_,k4,q4,r4⟩:=qad r3
  cases r4
  have:=qbk _ _ _ _ q2
  have:=qah _ _ _ _ q3
  unfold funM at q4
  obtain⟨_,j1,p1,s1⟩:=qad q4
  obtain⟨_,j2,p2,s2⟩:=qad s1
  obtain⟨_,j3,p3,s3⟩:=qad s2
  obtain⟨_,j4,p4,s4⟩:=qad s3
  cases s4
  have:=qah _ _ _ _ p1
  have:=qbk _ _ _ _ p2
  have:=qah _ _ _ _ p3
  have:=hm _ _ _ p4
  omega
 .obtain⟨_,k2,q2,r2⟩:=qad r1
  obtain⟨_,k3,q3,r3⟩:=qad r2
  obtain⟨_,k4,q4,r4⟩:=qad r3
  cases r4
  have:=qbk _ _ _ _ q2
  have:=qah _ _ _ _ q3
  have:=hm _ _ _ q4
  omega
theorem expr_let{n:Nat}{expr:M Nd}(HB:BoundC rb g cap T (qbg T expr) (n+1))(HE:NodeC rb g cap T 120 #[.pointer (some ⟨rb,0,none⟩)] expr n)(hm:Mono expr)(h:SS w rb g cap T σ)(hf:∀k,σ=.ok k->T.length<=k+(n+1))(h0:isS T σ kFun=false)(h1:isS T σ kIf=false)(h2:isS T σ qbc=false)(hy:isS T σ kLet=true):
 Calls Tryz.prog 120 #[.pointer (some ⟨rb,0,none⟩)] w fun e w'=>∃x:NV,e=.returned x.v/\Ke rb w w'/\SS w' rb g cap T (nx σ (letM T expr))/\∀k a k',σ=.ok k->letM T expr k=.ok (a,k')->NR w' (fun b=>w.heap.size<=b) a x:=by
 have HB':=ai HB
 have HE':=ai HE
 have hf':=ai hf
 have hmo:=ai hm
 have ff:=qd4
 rw[let_nx]
 clear HB HE hf hm
 have hr:=h.hr
 have hg:=h.hg
 have H1:=ai h
 have K2:=ai (Ke.refl rb w)
 clear h
 go_enter Tryz.func120,Tryz.ntmps120
 go_wp2_with fail
 have H3:=ai ((uh H1).alloc (.cells qat 62))
 have K4:=ai ((uh K2).alloc (.cells qat 62))
 have B5:=ai (Bx.at w qat 62 (w.heap.size) (by simp[World.setCell]))
 clear H1 K2
 refine(qb5 (uh H3)).mono ?_
 rintro e w1⟨t,rfl,hb,ht⟩
 have H6:=ai ((uh H3).below hb)
 have K7:=ai ((uh K4).below hb)
 have z8:=hb.size
 try simp[World.setCell]at z8
 have B9:=ai ((uh B5).below hb)
 clear H3 K4 B5 hb
 obtain⟨c10,f11,y12⟩:=uh B9
 have Ht:=ai ht
 clear ht
 unfold tokV
 go_wp2_with fail
 clear c10 f11 y12
 refine(is_S (uh H6) kFun).mono ?_
 rintro e w2⟨rfl,hb⟩
 have H16:=ai ((uh H6).below hb)
 have K17:=ai ((uh K7).below hb)
 have z18:=hb.size
 try simp[World.setCell]at z18
 have B19:=ai ((uh B9).below hb)
 clear H6 K7 B9 hb
 obtain⟨c20,f21,y22⟩:=uh B19
 go_wp2_with fail
 clear c20 f21 y22
 refine(is_S (uh H16) kIf).mono ?_
 rintro e w3⟨rfl,hb⟩
 have H26:=ai ((uh H16).below hb)
 have K27:=ai ((uh K17).below hb)
 have z28:=hb.size
 try simp[World.setCell]at z28
 have B29:=ai ((uh B19).below hb)
 clear H16 K17 B19 hb
 obtain⟨c30,f31,y32⟩:=uh B29
 go_wp2_with fail
 clear c30 f31 y32
 refine(is_S (uh H26) qbc).mono ?_
 rintro e w4⟨rfl,hb⟩
 have H36:=ai ((uh H26).below hb)
 have K37:=ai ((uh K27).below hb)
 have z38:=hb.size
 try simp[World.setCell]at z38
 have B39:=ai ((uh B29).below hb)
 clear H26 K27 B29 hb
 obtain⟨c40,f41,y42⟩:=uh B39
 go_wp2_with fail
 clear c40 f41 y42
 refine(is_S (uh H36) kLet).mono ?_
 rintro e w5⟨rfl,hb⟩
 have H46:=ai ((uh H36).below hb)
 have K47:=ai ((uh K37).below hb)
 have z48:=hb.size
 try simp[World.setCell]at z48
 have B49:=ai ((uh B39).below hb)
 clear H36 K37 B39 hb
 obtain⟨c50,f51,y52⟩:=uh B49
 go_wp2_with fail
 clear c50 f51 y52
 refine(uh HB' _ _ (uh H46) (uh hf')).mono ?_
 rintro e w66⟨kd,tb,x,rfl,hb,hS,hN⟩
 have H56:=ai hS
 have K57:=ai ((uh K47).trans hb)
 have z58:=hb.size
 try simp[World.setCell]at z58
 have B59:=ai ((uh B49).ke hb (by omega))
 clear H46 K47 B49 hb hS
 obtain⟨c60,f61,y62⟩:=uh B59
 have Hkt:=ai (fun k b k' (h1:σ=.ok k) (hq:qbg T expr k=.ok (b,k'))=>And.intro (hN k b k' h1 hq).1 (hN k b k' h1 hq).2.1)
 have hN1:=ai (fun k a k' (h1:σ=.ok k) (hq:qbg T expr k=.ok (a,k'))=>(hN k a k' h1 hq).2.2.rng w5.heap.size (fun b hb=>by simpa using hb))
 clear hN
 unfold NV.v tokV
 go_wp2_with fail
 have H63:=ai (((uh H56).alloc (.cells #[.int .i64 (tb.kind:Int),.string tb.text,.int .i64 (tb.frm:Int),.int .i64 (tb.to:Int)] 58)).alloc (.cells (nvA x) 62))
 have K64:=ai (((uh K57).alloc (.cells #[.int .i64 (tb.kind:Int),.string tb.text,.int .i64 (tb.frm:Int),.int .i64 (tb.to:Int)] 58)).alloc (.cells (nvA x) 62))
 have B65:=ai (((uh B59).alloc (.cells #[.int .i64 (tb.kind:Int),.string tb.text,.int .i64 (tb.frm:Int),.int .i64 (tb.to:Int)] 58)).alloc (.cells (nvA x) 62))
 have B66:=ai ((Bx.at w66 #[.int .i64 (tb.kind:Int),.string tb.text,.int .i64 (tb.frm:Int),.int .i64 (tb.to:Int)] 58 (w66.heap.size) (by simp[World.setCell])).alloc (.cells (nvA x) 62))
 have B67:=ai (Bx.at (w66.alloc (.cells #[.int .i64 (tb.kind:Int),.string tb.text,.int .i64 (tb.frm:Int),.int .i64 (tb.to:Int)] 58)) #[.int .i64 x.k,.string x.s,.int .i64 x.n,.slice x.la x.ll x.lc,.int .i64 x.f,.int .i64 x.t,.int .i64 x.a] 62 (w66.heap.size+1) (by simp[World.setCell]))
 have R68:=ai (fun k a k' h1 hq=>(NR.bel (NR.bel (uh hN1 k a k' h1 hq) (bw (.cells #[.int .i64 (tb.kind:Int),.string tb.text,.int .i64 (tb.frm:Int),.int .i64 (tb.to:Int)] 58))) (bw (.cells (nvA x) 62))))
 clear H56 K57 B59 hN1 c60 f61 y62
 refine(qch (uh H63) kIn).mono ?_
 rintro e w7⟨rfl,hb,hS⟩
 have H69:=ai hS
 have K70:=ai ((uh K64).trans hb)
 have z71:=hb.size
 try simp[World.setCell]at z71
 have B72:=ai ((uh B65).ke hb (by omega))
 have B73:=ai ((uh B66).ke hb (by omega))
 have B74:=ai ((uh B67).ke hb (by omega))
 have R75:=ai (fun k a k' h1 hq=>NR.ke (uh R68 k a k' h1 hq) hb (fun b hb=>by omega))
 clear H63 K64 B65 B66 B67 R68 hb hS
 obtain⟨c76,f77,y78⟩:=uh B72
 obtain⟨c79,f80,y81⟩:=uh B73
 obtain⟨c82,f83,y84⟩:=uh B74
 go_wp2_with fail
 clear c76 f77 y78 c79 f80 y81 c82 f83 y84
 refine(uh HE' _ _ (uh H69) (by intro j hj;obtain⟨k2,_,e2,m2⟩:=qbf hj;obtain⟨k1,_,e1,m1⟩:=qbf e2;have:=uh hf' k1 e1;have:=qah _ _ _ _ m2;have:=bound_mono (uh hmo) _ _ _ m1;omega)).mono ?_
 rintro e w8⟨y,rfl,hb,hS,hN⟩
 have H90:=ai hS
 have K91:=ai ((uh K70).trans hb)
 have z92:=hb.size
 try simp[World.setCell]at z92
 have B93:=ai ((uh B72).ke hb (by omega))
 have B94:=ai ((uh B73).ke hb (by omega))
 have B95:=ai ((uh B74).ke hb (by omega))
 have R96:=ai (fun k a k' h1 hq=>NR.ke (uh R75 k a k' h1 hq) hb (fun b hb=>by omega))
 clear H69 K70 B72 B73 B74 R75 hb hS
 obtain⟨c97,f98,y99⟩:=uh B93
 obtain⟨c100,f101,y102⟩:=uh B94
 obtain⟨c103,f104,y105⟩:=uh B95
 have hN2:=ai (fun k a k' (h1:(nx (nx σ (qbg T expr)) (qag T kIn))=.ok k) (hq:expr k=.ok (a,k'))=>(hN k a k' h1 hq).rng w7.heap.size (fun b hb=>by simpa using hb))
 clear hN
 unfold NV.v
 go_wp2_with fail
 have H106:=ai ((uh H90).alloc (.cells (nvA y) 62))
 have K107:=ai ((uh K91).alloc (.cells (nvA y) 62))
 have B108:=ai ((uh B93).alloc (.cells (nvA y) 62))
 have B109:=ai ((uh B94).alloc (.cells (nvA y) 62))
 have B110:=ai ((uh B95).alloc (.cells (nvA y) 62))
 have B111:=ai (Bx.at w8 (nvA y) 62 (w8.heap.size) (by simp[World.setCell]))
 have R112:=ai (fun k a k' h1 hq=>(NR.bel (uh R96 k a k' h1 hq) (bw (.cells (nvA y) 62))))
 have R113:=ai (fun k a k' h1 hq=>(NR.bel (uh hN2 k a k' h1 hq) (bw (.cells (nvA y) 62))))
 clear H90 K91 B93 B94 B95 R96 hN2
 have HX:∀W,(W=(w8.alloc (.cells (nvA y) 62)).drew\/W=((w8.alloc (.cells (nvA y) 62)).alloc (.cells (nvB x y) 62)).drew)->SS W rb g cap T (nx (nx (nx σ (qbg T expr)) (qag T kIn)) expr)/\∀w6,Below W.heap.size W w6->SS w6 rb g cap T (nx (nx (nx σ (qbg T expr)) (qag T kIn)) expr)/\Ke rb w w6/\Bx w6 (w.heap.size) #[.int .i64 0,.string ⟨#[]⟩,.int .i64 0,.slice none 0 0,.int .i64 0,.int .i64 0,.int .i64 0]/\Bx w6 (w66.heap.size) #[.int .i64 (tb.kind:Int),.string tb.text,.int .i64 (tb.frm:Int),.int .i64 (tb.to:Int)]/\Bx w6 (w66.heap.size+1) #[.int .i64 x.k,.string x.s,.int .i64 x.n,.slice x.la x.ll x.lc,.int .i64 x.f,.int .i64 x.t,.int .i64 x.a]/\Bx w6 (w8.heap.size) #[.int .i64 y.k,.string y.s,.int .i64 y.n,.slice y.la y.ll y.lc,.int .i64 y.f,.int .i64 y.t,.int .i64 y.a]/\(∀k a k',σ=.ok k->qbg T expr k=.ok (a,k')->NR w6 (fun b=>w.heap.size<b/\b<w8.heap.size) a.2.2 x)/\(∀k a k',(nx (nx σ (qbg T expr)) (qag T kIn))=.ok k->expr k=.ok (a,k')->NR w6 (fun b=>w.heap.size<b/\b<w8.heap.size) a y)/\(W=((w8.alloc (.cells (nvA y) 62)).alloc (.cells (nvB x y) 62)).drew->Bx w6 (w8.heap.size+1) (nvB x y)):=by
  rintro W(rfl|rfl)
  .exact⟨(uh H106).drew,fun w6 hb=>⟨((uh H106).drew).below hb,((uh K107).drew).below hb,((uh B108).drew).below hb,((uh B109).drew).below hb,((uh B110).drew).below hb,((uh B111).drew).below hb,fun k a k' h1 hq=>((((uh R112 k a k' h1 hq)).move (br _) (fun _ _ _=>rfl) (fun b hb _=>by omega)).bel ((Below.refl _ _).drew)).bel hb,fun k a k' h1 hq=>((((uh R113 k a k' h1 hq)).move (br _) (fun _ _ _=>rfl) (fun b hb _=>by omega)).bel ((Below.refl _ _).drew)).bel hb,fun e=>absurd (congrArg (fun w=>w.heap.size) e) (by simp)⟩⟩
  .exact⟨((uh H106).alloc (.cells (nvB x y) 62)).drew,fun w6 hb=>⟨(((uh H106).alloc (.cells (nvB x y) 62)).drew).below hb,(((uh K107).alloc (.cells (nvB x y) 62)).drew).below hb,(((uh B108).alloc (.cells (nvB x y) 62)).drew).below hb,(((uh B109).alloc (.cells (nvB x y) 62)).drew).below hb,(((uh B110).alloc (.cells (nvB x y) 62)).drew).below hb,(((uh B111).alloc (.cells (nvB x y) 62)).drew).below hb,fun k a k' h1 hq=>((((uh R112 k a k' h1 hq)).move (br _) (fun _ _ _=>rfl) (fun b hb _=>by omega)).bel ((bw (.cells (nvB x y) 62)).drew)).bel hb,fun k a k' h1 hq=>((((uh R113 k a k' h1 hq)).move (br _) (fun _ _ _=>rfl) (fun b hb _=>by omega)).bel ((bw (.cells (nvB x y) 62)).drew)).bel hb,fun _=>((Bx.at _ (nvB x y) 62 (w8.heap.size+1) (by simp)).drew).below hb⟩⟩
 have HX1:=ai HX
 clear HX
 have ne0:¬w.heap.size=w66.heap.size:=by omega
 have ne1:¬w.heap.size=w66.heap.size+1:=by omega
 have ne2:¬w.heap.size=w8.heap.size:=by omega
 go_region_held3(fun w'=>w'.cell? ⟨w66.heap.size,0,none⟩=some (.int .i64 (tb.kind:Int))/\w'.cell? ⟨w66.heap.size,1,none⟩=some (.string tb.text)/\w'.cell? ⟨w66.heap.size,2,none⟩=some (.int .i64 (tb.frm:Int))/\w'.cell? ⟨w66.heap.size,3,none⟩=some (.int .i64 (tb.to:Int))/\w'.cell? ⟨w66.heap.size+1,0,none⟩=some (.int .i64 x.k)/\w'.cell? ⟨w66.heap.size+1,1,none⟩=some (.string x.s)/\w'.cell? ⟨w66.heap.size+1,2,none⟩=some (.int .i64 x.n)/\w'.cell? ⟨w66.heap.size+1,3,none⟩=some (.slice x.la x.ll x.lc)/\w'.cell? ⟨w66.heap.size+1,4,none⟩=some (.int .i64 x.f)/\w'.cell? ⟨w66.heap.size+1,5,none⟩=some (.int .i64 x.t)/\w'.cell? ⟨w66.heap.size+1,6,none⟩=some (.int .i64 x.a)/\w'.cell? ⟨w8.heap.size,0,none⟩=some (.int .i64 y.k)/\w'.cell? ⟨w8.heap.size,1,none⟩=some (.string y.s)/\w'.cell? ⟨w8.heap.size,2,none⟩=some (.int .i64 y.n)/\w'.cell? ⟨w8.heap.size,3,none⟩=some (.slice y.la y.ll y.lc)/\w'.cell? ⟨w8.heap.size,4,none⟩=some (.int .i64 y.f)/\w'.cell? ⟨w8.heap.size,5,none⟩=some (.int .i64 y.t)/\w'.cell? ⟨w8.heap.size,6,none⟩=some (.int .i64 y.a)) (first|go_keep|(simp[World.cell?_setCell_other,ne0,ne1,ne2,q1c,q2c,q3c])) (first|(go_at_call 206;refine(qd1 (uh HX1 _ (by first|exact Or.inl rfl|exact Or.inr rfl)).1).mono ?_;rintro e w6⟨m,rfl,hb,hn⟩;obtain⟨S6,K6,b60,b61,b62,b63,n60,n61,R6⟩:=(uh HX1 _ (by first|exact Or.inl rfl|exact Or.inr rfl)).2 _ hb;have zz:=hb.size;obtain⟨q0c,q0f,q0z⟩:=b60;obtain⟨q1c,q1f,q1z⟩:=b61;obtain⟨q2c,q2f,q2z⟩:=b62;obtain⟨q3c,q3f,q3z⟩:=b63;have HS6:=ai S6;have HK6:=ai K6;have HN0:=ai n60;have HN1:=ai n61;have HR6:=ai R6;have Hlast:=ai hn;clear S6 K6 n60 n61 R6 hb hn))
 .go_wp2_with fail
  refine bodyPost_ret (v:=NV.v ⟨(kd:Int),tb.text,0,some ⟨w8.heap.size+1,0,none⟩,2,2,(t.frm:Int),(m:Int),(tb.frm:Int)⟩) (by simp[results,Tryz.results120,go_sem,q0c,q0z,NV.v];try rfl) rfl ⟨_,rfl,?_,?_,?_⟩
  .exact(uh HK6).set7 (br _) _ _ _ _ _ _ _
  .exact(uh HS6).set7 (by omega) (by omega) _ _ _ _ _ _ _
  .intro k a k' hk hq
   unfold letM at hq
   obtain⟨b,k1,q1,r1⟩:=qad hq
   obtain⟨_,k2,q2,r2⟩:=qad r1
   obtain⟨f,k3,q3,r3⟩:=qad r2
   cases r3
   obtain rfl:=uh Ht k hk
   obtain⟨ek,et⟩:=uh Hkt k b k1 hk q1
   have g1:nx σ (qbg T expr)=.ok k1:=by rw[hk];exact qas q1
   have g2:(nx (nx σ (qbg T expr)) (qag T kIn))=.ok k2:=by rw[g1];exact qas q2
   rw[<-uh Hlast k' (by rw[g2];exact qas q3),<-ek,<-et]
   exact NR.two (P:=fun b=>w.heap.size<=b) kd tb.text 0 (tk T k).frm m tb.frm ((uh HR6 (by first|trivial|rfl)).setO7 (b:=w.heap.size) (by omega) _ _ _ _ _ _ _) rfl ((((((((((uh HN0 k b k1 hk q1).set (b2:=w.heap.size) (fun b hb _=>by omega) 0 _).set (b2:=w.heap.size) (fun b hb _=>by omega) 1 _).set (b2:=w.heap.size) (fun b hb _=>by omega) 2 _).set (b2:=w.heap.size) (fun b hb _=>by omega) 3 _).set (b2:=w.heap.size) (fun b hb _=>by omega) 4 _).set (b2:=w.heap.size) (fun b hb _=>by omega) 5 _).set (b2:=w.heap.size) (fun b hb _=>by omega) 6 _)).wide _ (fun b hb=>by omega)) ((((((((((uh HN1 k2 f k' g2 q3).set (b2:=w.heap.size) (fun b hb _=>by omega) 0 _).set (b2:=w.heap.size) (fun b hb _=>by omega) 1 _).set (b2:=w.heap.size) (fun b hb _=>by omega) 2 _).set (b2:=w.heap.size) (fun b hb _=>by omega) 3 _).set (b2:=w.heap.size) (fun b hb _=>by omega) 4 _).set (b2:=w.heap.size) (fun b hb _=>by omega) 5 _).set (b2:=w.heap.size) (fun b hb _=>by omega) 6 _)).wide _ (fun b hb=>by omega)) (by omega) 2
 .go_wp2_with fail
  refine bodyPost_ret (v:=NV.v ⟨(kd:Int),tb.text,0,some ⟨w6.heap.size,0,none⟩,2,2,(t.frm:Int),(m:Int),(tb.frm:Int)⟩) (by simp[results,Tryz.results120,go_sem,q0c,q0z,NV.v];try rfl) rfl ⟨_,rfl,?_,?_,?_⟩
  .exact((uh HK6).set7 (br _) _ _ _ _ _ _ _).alloc _
  .exact((uh HS6).set7 (by omega) (by omega) _ _ _ _ _ _ _).alloc _
  .intro k a k' hk hq
   unfold letM at hq
   obtain⟨b,k1,q1,r1⟩:=qad hq
   obtain⟨_,k2,q2,r2⟩:=qad r1
   obtain⟨f,k3,q3,r3⟩:=qad r2
   cases r3
   obtain rfl:=uh Ht k hk
   obtain⟨ek,et⟩:=uh Hkt k b k1 hk q1
   have g1:nx σ (qbg T expr)=.ok k1:=by rw[hk];exact qas q1
   have g2:(nx (nx σ (qbg T expr)) (qag T kIn))=.ok k2:=by rw[g1];exact qas q2
   rw[<-uh Hlast k' (by rw[g2];exact qas q3),<-ek,<-et]
   exact NR.two (P:=fun b=>w.heap.size<=b) kd tb.text 0 (tk T k).frm m tb.frm (Bx.at _ _ _ _ (by simp[World.setCell])) rfl (NR.bel ((((((((((uh HN0 k b k1 hk q1).set (b2:=w.heap.size) (fun b hb _=>by omega) 0 _).set (b2:=w.heap.size) (fun b hb _=>by omega) 1 _).set (b2:=w.heap.size) (fun b hb _=>by omega) 2 _).set (b2:=w.heap.size) (fun b hb _=>by omega) 3 _).set (b2:=w.heap.size) (fun b hb _=>by omega) 4 _).set (b2:=w.heap.size) (fun b hb _=>by omega) 5 _).set (b2:=w.heap.size) (fun b hb _=>by omega) 6 _)).wide _ (fun b hb=>by omega)) (bw _)) (NR.bel ((((((((((uh HN1 k2 f k' g2 q3).set (b2:=w.heap.size) (fun b hb _=>by omega) 0 _).set (b2:=w.heap.size) (fun b hb _=>by omega) 1 _).set (b2:=w.heap.size) (fun b hb _=>by omega) 2 _).set (b2:=w.heap.size) (fun b hb _=>by omega) 3 _).set (b2:=w.heap.size) (fun b hb _=>by omega) 4 _).set (b2:=w.heap.size) (fun b hb _=>by omega) 5 _).set (b2:=w.heap.size) (fun b hb _=>by omega) 6 _)).wide _ (fun b hb=>by omega)) (bw _)) (by omega) 2
end
end
section
open Go Go.RowKit
section
variable {rb g cap:Nat} {T:List Pu.Tok} {pat expr:M Nd}
def AR(rb g cap:Nat)(T:List Pu.Tok)(pat expr:M Nd)(w0:World)(bx:Nat)(S3:St)(x0:Nd)(gk:Nat)(lv mv:Value)(wr:World):Prop:=
 ∃(σr:St)(xs:List NV)(L:List Nd)(P:Nat->Prop)(mo:Bool)(va:Option Addr)(vc:Nat),mv=.bool mo/\lv=.slice va xs.length vc/\MX rb g cap T w0 bx σr lv xs L P wr/\1<=xs.length/\xs.length<=4000/\
  ((∃k3 k' f,S3=.ok k3/\k3<=k'/\σr=.ok k'/\mo=true/\Hid (gk=T.length-k'+1)/\T.length<=k'+f/\L.length=xs.length/\xs.length<=2*k'+1/\Hid (qcz T pat expr T.length [x0] k3=qcz T pat expr f L k'))\/
   (Hid (σr=nx S3 (qcz T pat expr T.length []))/\(mo=false\/∃fl,σr=.error fl)/\∀k',σr=.ok k'->∃k3,S3=.ok k3/\L.length=xs.length/\qcz T pat expr T.length [x0] k3=.ok (L,k')))
def valOf(σ:St)(m:M Nd):Nd:=match σ with
 |.error _=>.mk 0 ⟨#[]⟩ 0 [] 0 0 0
 |.ok k=>match m k with
  |.ok (a,_)=>a|.error _=>.mk 0 ⟨#[]⟩ 0 [] 0 0 0
theorem valOf_ok{σ:St}{m:M Nd}{k k':Nat}{a:Nd}(h:σ=.ok k)(hm:m k=.ok (a,k')):valOf σ m=a:=by subst h;simp[valOf,hm]
theorem mlen{w:World}{σ:St}(h:SS w rb g cap T σ):T.length<=1001:=by
 obtain⟨k,f,h',_⟩:=h.any
 exact h'.hT
theorem mlt{w:World}{k:Nat}(h:SS w rb g cap T (.ok k)):k<T.length:=by
 have h':RS w rb g cap T k noFl:=h
 exact h'.hk
theorem match_C{n:Nat}(HP:NodeC rb g cap T 306 #[.pointer (some ⟨rb,0,none⟩)] pat n)(HE:NodeC rb g cap T 120 #[.pointer (some ⟨rb,0,none⟩)] expr n)(hmp:Mono pat)(hme:Mono expr):NodeC rb g cap T 208 #[.pointer (some ⟨rb,0,none⟩)] (qel T pat expr) (n+1):=by
 intro w σ h hf
 have hr:=h.hr
 have hg:=h.hg
 have hT:=mlen h
 have HP':=ai HP
 have HE':=ai HE
 have hf':=ai hf
 have hmP:=ai hmp
 have hmE:=ai hme
 have ff:=qd4
 obtain⟨i0,hi0,hz0,hz1,hz2⟩:=info_parts nodeInfo
 rw[match_nx]
 have H0:=ai (h.alloc (.cells qat 62))
 have K0:=ai ((Ke.refl rb w).alloc (.cells qat 62))
 have B0:=ai (Bx.new w qat 62)
 clear h HP HE hf hmp hme
 go_enter Tryz.func208,Tryz.ntmps208
 go_wp2_with fail
 refine(qb5 (uh H0)).mono ?_
 rintro e w1⟨t,rfl,hb,ht⟩
 have Ht:=ai ht
 have H1:=ai ((uh H0).below hb)
 have K1:=ai ((uh K0).trans (Ke.of hb))
 have B1:=ai ((uh B0).below hb)
 have z1:=hb.size
 simp at z1
 clear ht hb H0 K0 B0
 unfold tokV
 go_wp2_with fail
 refine(qch (uh H1) qbc).mono ?_
 rintro e w2⟨rfl,hb,hS⟩
 have H2:=ai hS
 have K2:=ai ((uh K1).trans hb)
 have B2:=ai ((uh B1).ke hb (by omega))
 have z2:=hb.size
 clear hS hb H1 K1 B1
 go_wp2_with fail
 refine(uh HE' _ _ (uh H2) (by intro j hj;obtain⟨k1,_,e1,m1⟩:=qbf hj;have:=uh hf' k1 e1;have:=qah _ _ _ _ m1;omega)).mono ?_
 rintro e w3⟨x,rfl,hb,hS,hN⟩
 have z3:=hb.size
 have hb2:Below w3.heap.size w3 ((w3.alloc (.cells x.l.toArray 62)).alloc (.cells x.l.toArray 62)):=(bw _).alloc (by simp) _
 obtain⟨L0,HL0,MX3⟩:∃L0,Hid (∀k2,nx (nx σ (qag T qbc)) expr=.ok k2->L0=[valOf (nx σ (qag T qbc)) expr])/\Hid (MX rb g cap T w (w3.heap.size+1) (nx (nx σ (qag T qbc)) expr) (.slice (some ⟨w3.heap.size+1,0,none⟩) 1 1) [x] L0 (fun b=>w2.heap.size<=b/\b<w3.heap.size) ((w3.alloc (.cells x.l.toArray 62)).alloc (.cells x.l.toArray 62))):=by
  have core:∀L0,(∀i(h:i<L0.length)(h2:i<[x].length),NR ((w3.alloc (.cells x.l.toArray 62)).alloc (.cells x.l.toArray 62)) (fun b=>w2.heap.size<=b/\b<w3.heap.size) L0[i] [x][i])->MX rb g cap T w (w3.heap.size+1) (nx (nx σ (qag T qbc)) expr) (.slice (some ⟨w3.heap.size+1,0,none⟩) 1 1) [x] L0 (fun b=>w2.heap.size<=b/\b<w3.heap.size) ((w3.alloc (.cells x.l.toArray 62)).alloc (.cells x.l.toArray 62)):=fun L0 nr=>by
   refine⟨hS.below hb2,((uh K2).trans hb).trans (Ke.of hb2),by simp,((uh B2).ke hb (by omega)).below hb2,?_,?_,?_,nr⟩
   .refine⟨by simp[flat,NV.l],Or.inr ⟨w3.heap.size+1,1,x.l.toArray,rfl,br _,?_,by simp,by unfold maxLen;omega,by simp[NV.l],by simp[flat,NV.l]⟩⟩
    have:=heap_alloc_new (w3.alloc (.cells x.l.toArray 62)) (.cells x.l.toArray 62)
    simpa using this
   .intro b p
    refine⟨by omega,?_⟩
    have:=hb2.size
    omega
   .intro b q p hq
    simp[Value.ownBlock]at hq
    omega
  cases hs2:nx (nx σ (qag T qbc)) expr with
  |error fl=>
   rw[hs2]at core
   exact⟨[],ai (fun k2 h=>by cases h),ai (core [] (fun i hi=>absurd hi (Nat.not_lt_zero _)))⟩
  |ok k2=>
   obtain⟨k1,a,e1,m1⟩:=qbf hs2
   have hn:=hN k1 a k2 e1 m1
   rw[hs2]at core
   refine⟨[valOf (nx σ (qag T qbc)) expr],ai (fun _ _=>rfl),ai (core _ (fun i hi h2=>?_))⟩
   have hi0:i=0:=by simpa using hi
   subst hi0
   simp only[List.getElem_cons_zero,valOf_ok e1 m1]
   exact(hn.rng w2.heap.size (fun b hb=>hb)).bel hb2
 clear hS hb hN H2 K2 B2 hb2
 unfold NV.v
 go_wp2_with fail
 refine(qch (uh MX3).ss kWith).mono ?_
 rintro e w4⟨rfl,hb,hS⟩
 have MX4:=ai ((uh MX3).kee hr (by omega) hb hS)
 clear hS hb MX3
 go_wp2_with fail
 obtain⟨S3,HS3⟩:∃S,Hid (S=nx (nx (nx σ (qag T qbc)) expr) (qag T kWith)):=⟨_,ai rfl⟩
 rw[<-uh HS3]at MX4
 obtain⟨x0,HX0⟩:∃x,Hid (x=valOf (nx σ (qag T qbc)) expr):=⟨_,ai rfl⟩
 obtain⟨gk0,HG0⟩:∃n,Hid (∀k3,S3=.ok k3->n=T.length-k3+1):=by
  cases S3 with
  |error fl=>exact⟨0,ai (fun _ h=>by cases h)⟩|ok k3=>exact⟨T.length-k3+1,ai (fun _ h=>by cases h;rfl)⟩
 go_loopg[5,6] gk0 (fun gk lv mv wr=>AR rb g cap T pat expr w (w3.heap.size+1) S3 x0 gk lv mv wr)
 case atStart=>
  refine⟨S3,[x],L0,_,true,some ⟨w3.heap.size+1,0,none⟩,1,rfl,rfl,uh MX4,by simp,by simp,?_⟩
  cases S3 with
  |error fl=>exact Or.inr ⟨ai rfl,Or.inr ⟨fl,rfl⟩,fun k' q=>by cases q⟩|ok k3=>
   refine Or.inl ⟨k3,k3,T.length,rfl,br _,rfl,rfl,ai (uh HG0 k3 rfl),by omega,?_,by simp,?_⟩
   .obtain⟨k2,a,e2,_⟩:=qbf (uh HS3).symm
    rw[uh HL0 k2 e2]
    rfl
   .obtain⟨k2,a,e2,_⟩:=qbf (uh HS3).symm
    rw[uh HL0 k2 e2,uh HX0]
    exact ai rfl
 case round=>
  clear MX4 HL0 HG0
  obtain⟨σr,xs,L,P,mo,va,vc,rfl,rfl,hMX,hx1,hx2,hk⟩:=hrel
  have MXr:=ai hMX
  clear hMX
  rcases hk with⟨k3,k',f,hS3,hk3,rfl,rfl,hgk,hfu,hLl,hxk,hA⟩|⟨HSr,hmo,HLr⟩
  .have HA:=ai (uh hA)
   have hkT:=mlt (uh MXr).ss
   have hf3:T.length<=k3+n:=by
    have e3:=uh HS3
    rw[hS3]at e3
    obtain⟨k2,_,e2,m2⟩:=qbf e3.symm
    obtain⟨k1,_,e1,m1⟩:=qbf e2
    obtain⟨k0,_,e0,m0⟩:=qbf e1
    have:=uh hf' k0 e0
    have:=qah _ _ _ _ m2
    have:=qah _ _ _ _ m0
    have:=uh hmE _ _ _ m1
    omega
   have HS3':=ai hS3
   clear hS3 hA
   go_wp2_with fail
   refine(ok_S (uh MXr).ss).mono ?_
   rintro e w9⟨rfl,rfl⟩
   go_wp2_with fail
   refine(uh HP' _ _ (uh MXr).ss (by intro j hj;cases hj;omega)).mono ?_
   rintro e w5⟨y,rfl,hb,hS,hN⟩
   have z5:=hb.size
   have hb5:Below w5.heap.size w5 (w5.alloc (.cells y.l.toArray 62)):=bw _
   have MX5:=ai (((uh MXr).kee hr (by omega) hb hS).bel hb5)
   have HNy:=ai (fun a k5 (q:pat k'=.ok (a,k5))=>((hN k' a k5 rfl q).rng w9.heap.size (fun b hb=>hb)).bel hb5)
   have hrow:=ai (fun q hq=>(World.ownsRow.lt (uh MXr).ow q hq).2)
   have BY:=ai (Bx.new w5 #[.int .i64 y.k,.string y.s,.int .i64 y.n,.slice y.la y.ll y.lc,.int .i64 y.f,.int .i64 y.t,.int .i64 y.a] 62)
   have zr:=(uh MXr).zz
   clear hb hS hN MXr hb5
   unfold NV.v
   go_wp2_with fail
   refine(qch (uh MX5).ss kArrow).mono ?_
   rintro e w6⟨rfl,hb,hS⟩
   have z6:=hb.size
   simp at z6
   have MX6:=ai ((uh MX5).kee hr (by omega) hb hS)
   have HNy:=ai (fun a k5 (q:pat k'=.ok (a,k5))=>(uh HNy a k5 q).ke hb (fun b p=>by omega))
   have BY:=ai ((uh BY).ke hb (by omega))
   clear hb hS MX5
   go_wp2_with fail
   refine(uh HE' _ _ (uh MX6).ss (by intro j hj;obtain⟨j1,_,e1,m1⟩:=qbf hj;obtain⟨j0,_,e0,m0⟩:=qbf e1;cases e0;have:=qah _ _ _ _ m1;have:=uh hmP _ _ _ m0;omega)).mono ?_
   rintro e w7⟨z,rfl,hb,hS,hN⟩
   have z7:=hb.size
   obtain⟨σ7,HS7⟩:∃s,Hid (s=nx (nx (nx (.ok k') pat) (qag T kArrow)) expr):=⟨_,ai rfl⟩
   rw[<-uh HS7]at hS
   have hb7:Below w7.heap.size w7 ((w7.alloc (.cells z.l.toArray 62)).alloc (.cells (y.l++z.l).toArray 62)):=(bw _).alloc (by simp) _
   have MX7:=ai (((uh MX6).kee hr (by omega) hb hS).bel hb7)
   have HNy:=ai (fun a k5 (q:pat k'=.ok (a,k5))=>(((uh HNy a k5 q).ke hb (fun b p=>by omega)).bel hb7).move (Q:=fun b=>w9.heap.size<=b/\b<((w7.alloc (.cells z.l.toArray 62)).alloc (.cells (y.l++z.l).toArray 62)).heap.size) (br _) (fun _ _ _=>rfl) (fun b p hz=>⟨p.1,hz⟩))
   have HNz:=ai (fun j a j' (q:nx (nx (.ok k') pat) (qag T kArrow)=.ok j) (r:expr j=.ok (a,j'))=>(((hN j a j' q r).rng w6.heap.size (fun b hb=>hb)).bel hb7).move (Q:=fun b=>w9.heap.size<=b/\b<((w7.alloc (.cells z.l.toArray 62)).alloc (.cells (y.l++z.l).toArray 62)).heap.size) (br _) (fun _ _ _=>rfl) (fun b p hz=>⟨by omega,hz⟩))
   obtain⟨cy,fy,zy⟩:=((uh BY).ke hb (by omega)).alloc (.cells z.l.toArray 62)
   clear hb hS hN MX6 hb7
   unfold NV.v
   simp only[NV.l]at cy fy zy
   go_wp2_with(at_builtin;go_must(refine wpList_append_own_at _ rfl (.tmp 31) (.tmp 34) 60 rfl (w3.heap.size+1) 62 i0 _ 7 80 qfh hi0 hz0 hz1 hz2 rfl (by decide) _ _ _ rfl (uh MX7).ow ⟨w7.heap.size+1,0,none⟩ 2 2 (y.l++z.l) rfl rfl (qbw _ _ _ _ (by simp)) (by intro u hu;simp[NV.l]at hu;rcases hu with rfl|rfl|rfl|rfl|rfl|rfl|rfl|rfl|rfl|rfl|rfl|rfl|rfl|rfl<;>rfl) (by unfold maxLen;omega) (by omega) (uh MX7).zz ?_);intro v3 w8 hown3 hg3 hnil3 hat3)
   obtain⟨q3,c3,rfl⟩:=qb6 hown3 (by omega)
   obtain⟨f2,rfl⟩:∃f2,f=f2+1:=⟨f-1,by omega⟩
   have e1:(xs++[y,z]).length=xs.length+2:=by simp
   have E1:=ai e1
   clear e1 cy fy zy hnil3
   cases σ7 with
   |error fl=>
    have MX8:=ai ((uh MX7).growE hr hg (by omega) hg3 hown3)
    clear MX7 hg3 hown3 hat3
    refine(is_S (uh MX8).ss kBar).mono ?_
    rintro e w10⟨rfl,hb⟩
    have MX9:=ai ((uh MX8).bel hb)
    clear MX8 hb
    have hbar:isS T (.error fl) kBar=false:=rfl
    go_wp2_with fail
    go_roundg 0
    case measure=>rw[uh hgk];omega
    case rel=>
     refine⟨.error fl,xs++[y,z],[],fun _=>False,false,some ⟨q3,0,none⟩,c3,rfl,by rw[uh E1],uh MX9,by rw[uh E1];omega,by rw[uh E1];omega,Or.inr ⟨ai ?_,Or.inl rfl,fun _ q=>by cases q⟩⟩
     rw[uh HS3',arms_nx _ _ [] [x0]]
     exact(qbn ((uh HA).trans (arms_err (uh HS7).symm))).symm
   |ok k7=>
    obtain⟨p,k5,ee,k6,mp,m6,hk6,me,hstep⟩:=arms_ok (f:=f2) (L:=L) (uh HS7).symm
    have hk5:=uh hmP _ _ _ mp
    have hk7:=uh hmE _ _ _ me
    have MX8:=ai ((uh MX7).grow hr hg (by omega) hg3 hown3 hat3 (lo:=w9.heap.size) (by omega) (uh hrow) hLl (uh HNy p k5 mp) (uh HNz k6 ee k7 m6 me))
    have HST:=ai hstep
    clear MX7 hg3 hown3 hat3 HNy HNz mp m6 me hstep
    refine(is_S (uh MX8).ss kBar).mono ?_
    rintro e w10⟨rfl,hb⟩
    have MX9:=ai ((uh MX8).bel hb)
    clear MX8 hb
    have hk7T:=mlt (uh MX9).ss
    cases hbar:isT (tk T k7) kBar with
    |true=>
     have hbs:isS T (.ok k7) kBar=true:=hbar
     have hkind:(tk T k7).kind≠7:=by
      intro q
      unfold isT at hbar
      rw[q]at hbar
      simp at hbar
     have HBR:=ai hbar
     clear hbar
     go_wp2_with fail
     refine(qcp (uh MX9).ss hkind).mono ?_
     rintro e w11⟨rfl,hb,hS⟩
     have MX10:=ai ((uh MX9).kee hr (by omega) hb hS)
     clear MX9 hb hS
     go_wp2_with fail
     go_roundg(T.length-(k7+1)+1)
     case measure=>rw[uh hgk];omega
     case rel=>
      refine⟨.ok (k7+1),xs++[y,z],L++[p,ee],_,true,some ⟨q3,0,none⟩,c3,rfl,by rw[uh E1],uh MX10,by rw[uh E1];omega,by rw[uh E1];omega,Or.inl ⟨k3,k7+1,f2,uh HS3',by omega,rfl,rfl,ai rfl,by omega,by rw[uh E1];simp;omega,by rw[uh E1];omega,ai ?_⟩⟩
      rw[uh HA,uh HST,if_pos (uh HBR)]
    |false=>
     have hbs:isS T (.ok k7) kBar=false:=hbar
     have HBR:=ai hbar
     clear hbar
     go_wp2_with fail
     go_roundg 0
     case measure=>rw[uh hgk];omega
     case rel=>
      have hA2:qcz T pat expr T.length [x0] k3=.ok (L++[p,ee],k7):=by rw[uh HA,uh HST,if_neg (by rw[uh HBR];simp)]
      refine⟨.ok k7,xs++[y,z],L++[p,ee],_,false,some ⟨q3,0,none⟩,c3,rfl,by rw[uh E1],uh MX9,by rw[uh E1];omega,by rw[uh E1];omega,Or.inr ⟨ai ?_,Or.inl rfl,fun k8 q=>?_⟩⟩
      .rw[uh HS3',arms_nx _ _ [] [x0]]
       exact(qas hA2).symm
      .cases q
       exact⟨k3,uh HS3',by rw[uh E1];simp;omega,hA2⟩
  .by_cases hm:mo=false
   .subst hm
    clear hmo
    go_wp2_with fail
    refine(qch (uh MXr).ss kEnd).mono ?_
    rintro e w5⟨rfl,hb5,hS5⟩
    have MX5:=ai ((uh MXr).kee hr (by omega) hb5 hS5)
    clear hb5 hS5 MXr
    go_wp2_with fail
    refine(qd1 (uh MX5).ss).mono ?_
    rintro e w6⟨m,rfl,hb6,hm6⟩
    have MX6:=ai ((uh MX5).bel hb6)
    have HM6:=ai hm6
    clear hb6 hm6 MX5
    obtain⟨cr,fr,zr⟩:=(uh MX6).rs
    go_wp2_with fail
    have BF:=(uh MX6).rs.set7 rfl (.int .i64 13) (.string ⟨#[]⟩) (.int .i64 0) (.slice va xs.length vc) (.int .i64 (t.frm:Int)) (.int .i64 (m:Int)) (.int .i64 (t.frm:Int))
    obtain⟨cF,fF,zF⟩:=BF
    refine bodyPost_ret (v:=NV.v ⟨13,⟨#[]⟩,0,va,xs.length,vc,(t.frm:Int),(m:Int),(t.frm:Int)⟩) (by simp[results,Tryz.results208,go_sem,cF,NV.v];try rfl) rfl ⟨_,rfl,(uh MX6).ke.set7 (br _) _ _ _ _ _ _ _,?_,?_⟩
    .rw[<-uh HS3,<-uh HSr]
     exact(uh MX6).ss.set7 (by omega) (by omega) _ _ _ _ _ _ _
    .intro k a k' hk hq
     unfold qel at hq
     obtain⟨_,k1,q1,r1⟩:=qad hq
     obtain⟨x1,k2,q2,r2⟩:=qad r1
     obtain⟨_,k3,q3,r3⟩:=qad r2
     obtain⟨l,k4,q4,r4⟩:=qad r3
     obtain⟨_,k5,q5,r5⟩:=qad r4
     cases r5
     have s1:nx σ (qag T qbc)=.ok k1:=by rw[hk];exact qas q1
     have s2:nx (nx σ (qag T qbc)) expr=.ok k2:=by rw[s1];exact qas q2
     have s3:nx (nx (nx σ (qag T qbc)) expr) (qag T kWith)=.ok k3:=by rw[s2];exact qas q3
     have x0e:valOf (nx σ (qag T qbc)) expr=x1:=valOf_ok s1 q2
     have s4:σr=.ok k4:=by
      rw[uh HSr,uh HS3,s3,arms_nx _ _ [] [x1]]
      exact qas q4
     obtain⟨k3',e3,hLx,hA⟩:=HLr k4 s4
     rw[uh HS3,s3]at e3
     cases e3
     rw[uh HX0,x0e,q4]at hA
     cases hA
     have ht:t=tk T k:=uh Ht k hk
     have hm:m=qan T k':=uh HM6 k' (by rw[s4];exact qas q5)
     subst ht
     subst hm
     exact(uh MX6).node (by omega) hLx hx1 13 kNo 0 _ _ _ _ _ _ _ _ _ _
   .have hm1:mo=true:=by cases mo<;>simp_all
    obtain⟨fl,hfl⟩:=hmo.resolve_left hm
    have hok:okS σr=false:=by rw[hfl];rfl
    subst hm1
    clear hfl hmo hm
    go_wp2_with fail
    refine(ok_S (uh MXr).ss).mono ?_
    rintro e w9⟨rfl,rfl⟩
    go_wp2_with fail
    refine(qch (uh MXr).ss kEnd).mono ?_
    rintro e w5⟨rfl,hb5,hS5⟩
    have MX5:=ai ((uh MXr).kee hr (by omega) hb5 hS5)
    clear hb5 hS5 MXr
    go_wp2_with fail
    refine(qd1 (uh MX5).ss).mono ?_
    rintro e w6⟨m,rfl,hb6,hm6⟩
    have MX6:=ai ((uh MX5).bel hb6)
    have HM6:=ai hm6
    clear hb6 hm6 MX5
    obtain⟨cr,fr,zr⟩:=(uh MX6).rs
    go_wp2_with fail
    have BF:=(uh MX6).rs.set7 rfl (.int .i64 13) (.string ⟨#[]⟩) (.int .i64 0) (.slice va xs.length vc) (.int .i64 (t.frm:Int)) (.int .i64 (m:Int)) (.int .i64 (t.frm:Int))
    obtain⟨cF,fF,zF⟩:=BF
    refine bodyPost_ret (v:=NV.v ⟨13,⟨#[]⟩,0,va,xs.length,vc,(t.frm:Int),(m:Int),(t.frm:Int)⟩) (by simp[results,Tryz.results208,go_sem,cF,NV.v];try rfl) rfl ⟨_,rfl,(uh MX6).ke.set7 (br _) _ _ _ _ _ _ _,?_,?_⟩
    .rw[<-uh HS3,<-uh HSr]
     exact(uh MX6).ss.set7 (by omega) (by omega) _ _ _ _ _ _ _
    .intro k a k' hk hq
     unfold qel at hq
     obtain⟨_,k1,q1,r1⟩:=qad hq
     obtain⟨x1,k2,q2,r2⟩:=qad r1
     obtain⟨_,k3,q3,r3⟩:=qad r2
     obtain⟨l,k4,q4,r4⟩:=qad r3
     obtain⟨_,k5,q5,r5⟩:=qad r4
     cases r5
     have s1:nx σ (qag T qbc)=.ok k1:=by rw[hk];exact qas q1
     have s2:nx (nx σ (qag T qbc)) expr=.ok k2:=by rw[s1];exact qas q2
     have s3:nx (nx (nx σ (qag T qbc)) expr) (qag T kWith)=.ok k3:=by rw[s2];exact qas q3
     have x0e:valOf (nx σ (qag T qbc)) expr=x1:=valOf_ok s1 q2
     have s4:σr=.ok k4:=by
      rw[uh HSr,uh HS3,s3,arms_nx _ _ [] [x1]]
      exact qas q4
     obtain⟨k3',e3,hLx,hA⟩:=HLr k4 s4
     rw[uh HS3,s3]at e3
     cases e3
     rw[uh HX0,x0e,q4]at hA
     cases hA
     have ht:t=tk T k:=uh Ht k hk
     have hm:m=qan T k':=uh HM6 k' (by rw[s4];exact qas q5)
     subst ht
     subst hm
     exact(uh MX6).node (by omega) hLx hx1 13 kNo 0 _ _ _ _ _ _ _ _ _ _
end
end
end Go.Proofs.YtoceemjbcgmojaaGreatDoor

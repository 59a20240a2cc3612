import Derived.Laws.EntriesVeiled
import Derived.Test.YtlnlhlefeokfjaaGreatDoorPQa
import Derived.Test.YtlnlhlefeokfjaaGreatDoorPTm
import Derived.Test.YtlnlhlefeokfjaaGreatDoorPPl
set_option linter.all false
set_option maxRecDepth 100000
set_option maxHeartbeats 2000000
namespace Go.Proofs.YtlnlhlefeokfjaaGreatDoor
open Pu renaming bF->ja,Tok->jc
open Go Go.RowKit Go.ChangeMaps Proofs.Tryz
variable {s:BA} {T:List jc} {e:M Nd} {m:MV} {N b k n rb sb:Nat} {w:World}
abbrev smP s n:=aH (ja s 0) (dv (ja s 0) n) (lZ<|ja s 0) 2
def SX.plain(h:SX w N rb sb m s k)(hb:m.d=Mv b):∃x,Bx w x #[rp rb]/\MS Value.string w b (sf rb x):=by
 have⟨x,hx,b',e,_,_,hM⟩:=h.ev.mp.pl;rw[hb]at e
 cases e
 exact⟨x,hx.2.2,hM⟩
def amb(hs:s.size<=1000)(IH:CY s n)(h:SX w N rb sb m s k)(hn:(ja s 0).length<=k+1+n)(hb:m.d=Mv b):Tab N rb sb m s PP (smP s n) 2 b w k:=by
 have⟨x,hx,hM⟩:=h.plain hb;refine⟨_,hM,?_⟩
 cases hc:aK (tk (ja s 0) k) 2
 .exact .inr ⟨rfl,aaj h hc x⟩
 .exact .inl ⟨rfl,(Vs hs IH h hn hc hx).imp id λ⟨f,h⟩=>⟨f,x,h⟩⟩
def SX.md(h:SX w N rb sb m s k):∃b,m.d=Mv b:=by
 have⟨x,_,b,e,_⟩:=h.ev.mp.pl;exact⟨b,e⟩
def RowV.up{P}{L}{v}(h:RowV (Q1 PP) 1 w P L v)s n f t a y(hu:oA s)(hy:y=a+s.size):PP w P (.mk 2 s n L f t a) (.iface 313<|.agg #[Nv f,Nv t,Nv a,Nv y,.string s,v]):=by
 obtain⟨va,vc,cs,rfl,aN,hr⟩:=h;refine .up s n L f t a y va vc (λi=>cs i 0) hu hy ?_ hr;obtain h0|⟨g,h1,h2,h3,h4⟩:=aN
 .exact Or.inl h0
 .grind
def Hw(hs:s.size<=1000)(hT:(ja s 0).length<=1001)(IH:CY s n):CY s (n+1):=by
 intro w N rb sb m k h hn;have⟨b,hb⟩:=h.md;exact aal (R:=PP) hs hT (.inl ⟨rfl,rfl,hb⟩) PP.iface (λ_ _ _ _ _ _ h a b c=>h.move a b c) (cE (pI (T:=(ja s 0)) n) nU 2) (λw k' S l=>amb hs IH S ae hb) h λhu hy h=>h.up _ _ _ _ _ _ hu hy
def Eu(hs:s.size<=1000)(hT:(ja s 0).length<=1001):∀n,CY s n
 |0=>λw N rb sb m k h hn=>by have:=h.lt;omega|n+1=>Hw hs hT<|Eu hs hT n
def sw(hs:s.size<=1000)(IH:fc s n)(h:SX w N rb sb m s k)(hn:(ja s 0).length<=k+1+n):
 Cq 117 #[rp rb] w (ap PE N rb sb m s (vX (ja s 0) (bt (ja s 0) n) k) w):=by
 have Xh:=ij;have hf2:=kQ;refine cG.AK h rfl λH=>?_;go_enter func117,ntmps117;go_wp2_with fail;refine H.take ?_;intro w1 H;go_wp2_with fail;refine H.name ?_;intro t w2 H Ht;go_wp2_with fail;refine H.box.take ?_;intro w3 H;go_wp2_with fail;refine H.expr IH ?_;intro a k4 t4 x4 w4 H l4;have⟨⟨_,c,f,z⟩,_⟩:=H.p
 go_wp2
 go_region_with(go_at_call 78;refine H.drew.since ?_;intro w5 H;have⟨⟨_,c,f,z⟩,_⟩:=H.p)
 all_goals(
  go_wp2
  go_ret
  exact H.done λ⟨_,V⟩=>.fn _ _ _ _ _ _ _ _ Ht.1 Ht.2 V)
def abt(hs:s.size<=1000)(IH:fc s n)(h:SX w N rb sb m s k)(hn:(ja s 0).length<=k+1+n):
 Cq 119 #[rp rb] w (ap PE N rb sb m s (qL (ja s 0) (bt (ja s 0) n) k) w):=by
 have Xh:=ij;have hf2:=kQ;refine cG.AK h rfl λH=>?_;go_enter func119,ntmps119;go_wp2_with fail;refine H.take ?_;intro w1 H;go_wp2_with fail;refine H.expr IH ?_;intro a k2 t2 x2 w2 H l2;go_wp2_with fail;refine H.take ?_;intro w3 H;go_wp2_with fail;refine H.expr IH ?_;intro b k4 t4 x4 w4 H l4;go_wp2_with fail;refine H.take ?_;intro w5 H;go_wp2_with fail;refine H.expr IH ?_;intro c k6 t6 x6 w6 H l6;go_wp2_with fail;refine H.since ?_;intro w7 H
 go_wp2
 go_ret;exact H.done λ⟨⟨⟨_,A⟩,B⟩,C⟩=>.ite _ _ _ _ _ _ _ _ _ _ _ A B C
def bindM T e:=λk=>
 if aX (tk T k) aat=true then aV (dl T 1) (λt=>aV (bz T kEq) λ_=>aV (vX T e) λe k'=>.ok ((11,t,e),k')) (k+1)
 else aV (dl T 1) (λt=>aV (bz T kEq) λ_=>aV e λe k'=>.ok ((10,t,e),k')) k
def We(h:aX (tk T k) aat=true):bindM T e k=aV rE (λ_=>aV (dl T 1) λt=>aV (bz T kEq) λ_=>aV (vX T e) λe k'=>.ok ((11,t,e),k')) k:=by rw[bindM];rw[if_pos h];rfl
def LV(h:aX (tk T k) aat=false):bindM T e k=aV (dl T 1) (λt=>aV (bz T kEq) λ_=>aV e λe k'=>.ok ((10,t,e),k')) k:=by rw[bindM];rw[h];rfl
def OJ e:aS T (bindM T e):=λk h=>by
 rw[LV<|eE h _];exact b8 (sg T 1 aw k h) λ_ q g=>by
  rw[aV];rw[show bz T kEq q=.error (eK<|tk T q) by rw[bz];rw[eE g];rfl];rfl
def Bi w P(b:Nat×jc×Nd)(v:Value):=
 ∃ve,v=.agg #[.bool<|b.1==11,Nv b.2.1.aF,Nv b.2.1.to,.string b.2.1.text,ve]/\PE w P b.2.2 ve/\(b.1=10\/b.1=11)/\CX b.2.1.text/\b.2.1.to=b.2.1.aF+b.2.1.text.size
def Bx.amc{C}(h:Bx w b C)(hC:C.size=5)v0 v1 v2 v3 v4:Bx (((((w.setCell ⟨b,0,none⟩ v0).setCell ⟨b,1,none⟩ v1).setCell ⟨b,2,none⟩ v2).setCell ⟨b,3,none⟩ v3).setCell ⟨b,4,none⟩ v4) b #[v0,v1,v2,v3,v4]:=by
 obtain⟨a0,a1,a2,a3,a4,rfl⟩:∃a0 a1 a2 a3 a4,C=#[a0,a1,a2,a3,a4]:=by
  obtain⟨l⟩:=C
  match l,hC with
  |[a,b,c,d,e],_=>grind
 exact((((h.aT 0 v0 #[v0,a1,a2,a3,a4] rfl ag).aT 1 v1 #[v0,v1,a2,a3,a4] rfl ag).aT 2 v2 #[v0,v1,v2,a3,a4] rfl ag).aT 3 v3 #[v0,v1,v2,v3,a4] rfl ag).aT 4 v4 #[v0,v1,v2,v3,v4] rfl ag
theorem Bi.move{w w'}{P Q}{b}{v}(h:Bi w P b v)(hs:w.heap.size<=w'.heap.size)(hb:∀b,P b->b<w.heap.size->w'.heap[b]? =w.heap[b]?)(hq:∀b,P b->b<w.heap.size->Q b):Bi w' Q b v:=by
 obtain⟨ve,h1,h2,h3⟩:=h;exact⟨ve,h1,h2.move hs hb hq,h3⟩
def LW{t}{a}{k' c}{D}{tv}{xv}{g}{P:World->Prop}{w'}{r}{bb}(o:w.heap.size≠rb)(hc:(c==11)=bb)(Ht:Hid (CX t.text/\t.to=t.aF+t.text.size))(H:cG N rb sb m s r w w.heap.size D g (λw'=>P w'/\PE w' (λb=>w.heap.size<=b) a (.iface tv<|.agg xv)) k' w')(hD:D.size=5)(hg:g k'=.ok ((c,t,a),k'))(h1:c=10\/c=11):∃W,W=(((((w'.setCell ⟨w.heap.size,0,none⟩<|.bool bb).setCell ⟨w.heap.size,1,none⟩<|Nv t.aF).setCell ⟨w.heap.size,2,none⟩<|Nv t.to).setCell ⟨w.heap.size,3,none⟩<|.string t.text).setCell ⟨w.heap.size,4,none⟩<|.iface tv<|.agg xv)/\
 Bx W w.heap.size #[.bool bb,Nv t.aF,Nv t.to,.string t.text,.iface tv<|.agg xv]/\ap Bi N rb sb m s r w (.returned<|.agg #[.bool bb,Nv t.aF,Nv t.to,.string t.text,.iface tv<|.agg xv]) W:=by
 have B:=(H.bo o).amc hD (.bool bb) (Nv t.aF) (Nv t.to) (Sv t.text)<|Fv tv<|Av xv;subst hc;exact⟨_,rfl,B,(H.put o B<|cO<|cO<|cO<|cO<|cO ⟨rfl,rfl,rfl,rfl,λ_ _=>rfl⟩).done (λV=>⟨_,rfl,V.2,h1,Ht.1,Ht.2⟩) hg⟩
def Ev(hs:s.size<=1000)(IH:fc s n)(h:SX w N rb sb m s k)(hn:(ja s 0).length<=k+n):
 Calls Tryz.prog 171 #[rp rb] w (ap Bi N rb sb m s (bindM (ja s 0) (bt (ja s 0) n) k) w):=by
 have Xh:=ij;have hf2:=kQ;have hcE:∀args w,(callFunc 172 args).run Tryz.prog w=.ok (.enter 172 args) w:=λ_ _=>qkr;have hcF:∀args w,(callFunc 117 args).run Tryz.prog w=.ok (.enter 117 args) w:=λ_ _=>qkr;have o:w.heap.size≠rb:=by have:=h.z;omega
 cases hc:aX (tk (ja s 0) k) aat
 .refine cG.AK h (LV hc) λH=>?_;go_enter func171,ntmps171;go_wp2_with fail;refine H.own.GB hc ?_;go_wp2_with fail;refine H.own.name ?_;intro t w2 H Ht;go_wp2_with fail;refine H.box.take ?_;intro w3 H;go_wp2_with fail;have⟨_,c1,f1,z1⟩:=H.p;have⟨c2,f2,z2⟩:=H.bo o
  cases hA:fin (ja s 0) (bt (ja s 0) n<|k+1+1)with
  |error f'=>
   go_region_dies
   all_goals(refine(IH _ _ _ _ _ _ H.drew.sx ae).mono ?_;intro e w5 hp;obtain⟨rfl,hb⟩:=H.drew.lost (R':=Bi) hp hA;exact⟨rfl,hb⟩)
  |ok rr=>
  obtain⟨a,k4⟩:=rr;go_region_with(go_at_call 172;refine(IH _ _ _ _ _ _ H.drew.sx ae).mono ?_;intro e w5 hp;obtain⟨v,rfl,H,V⟩:=H.drew.a_ hp hA;obtain⟨tv,xv,rfl⟩:=V.iface;have⟨⟨_,c1,f1,z1⟩,_⟩:=H.p;have⟨c2,f2,z2⟩:=H.bo o;clear hp V)
  all_goals(
   go_wp2_with fail;obtain⟨_,rfl,⟨cF,fF,zF⟩,h⟩:=LW (c:=10) (bb:=false) o rfl Ht H rfl rfl (.inl rfl)
   exact bodyPost_ret (by simp[results,Tryz.results171,go_sem,cF]) rfl h)
 .refine cG.AK h (We hc) λH=>?_;go_enter func171,ntmps171;go_wp2_with fail;refine H.own.C8 hc ?_;intro w1 H;go_wp2_with fail;refine H.name ?_;intro t w2 H Ht;go_wp2_with fail;refine H.box.take ?_;intro w3 H;go_wp2_with fail;have⟨_,c1,f1,z1⟩:=H.p;have⟨c2,f2,z2⟩:=H.bo o
  cases hA:fin (ja s 0) (vX (ja s 0) (bt (ja s 0) n)<|k+1+1+1)with
  |error f'=>
   go_region_dies
   all_goals(refine(sw hs IH H.drew.sx ae).mono ?_;intro e w5 hp;obtain⟨rfl,hb⟩:=H.drew.lost (R':=Bi) hp hA;exact⟨rfl,hb⟩)
  |ok rr=>
  obtain⟨a,k4⟩:=rr;go_region_with(go_at_call 117;refine(sw hs IH H.drew.sx ae).mono ?_;intro e w5 hp;obtain⟨v,rfl,H,V⟩:=H.drew.a_ hp hA;obtain⟨tv,xv,rfl⟩:=V.iface;have⟨⟨_,c1,f1,z1⟩,_⟩:=H.p;have⟨c2,f2,z2⟩:=H.bo o;clear hp V)
  all_goals(
   go_wp2_with fail;obtain⟨_,rfl,⟨cF,fF,zF⟩,h⟩:=LW (c:=11) (bb:=true) o rfl Ht H rfl rfl (.inr rfl)
   exact bodyPost_ret (by simp[results,Tryz.results171,go_sem,cF]) rfl h)
abbrev zF:Array Value:=#[Iv 0,Iv 0,Iv 0]
def abu a b c w:(Instr.typeAssert (.iface 198<|.agg #[a,b,c]) 20 198 true).run Tryz.prog w=.ok (.tuple #[.agg #[a,b,c],.bool true]) w:=qkr
def ahO b:
 CallsD Tryz.prog 73 #[Pv b] .returning w λe u' w'=>
  e=.returned (.tuple #[])/\u'=.returning/\w'=w:=by
 refine callsD_of_wpS Tryz.func73 rfl λdW cs hu=>?_;apply wpS_seq;apply wpS_region;simp[wpOpsS,go_sem,recoverD,hu,Tryz.ntmps73,Exit.thenS];rw[show(#[Pv b]++((Array.replicate 16 undef).setIfInBounds 3 Zv).setIfInBounds 0 Zv)=#[Pv b,Zv,undef,undef,Zv,undef,undef,undef,undef,undef,undef,undef,undef,undef,undef,undef,undef]from rfl];have EZ:dW::cs={dW with mode:=.returning}::cs:=(by cases dW;simp at hu;subst hu;rfl);refine wpS_of_wp ?_
 go_wp2
 exact⟨rfl,_,EZ,.tuple #[],by simp[results,Tryz.results73,go_sem],rfl,rfl,rfl⟩
section
open Go.MapKept Un
section
variable {κ:Type} [DecidableEq κ] {enc:κ->Value}
def wG(x:κ):List (κ×Value)->List (κ×Value)
 |[]=>[]|p::l=>if p.1=x then l else p::wG x l
def LX(x:κ):∀(L:List (κ×Value)),List.Sublist (wG x L) L
 |[]=>List.Sublist.slnil|p::l=>by
  rw[wG];split
  .exact List.sublist_cons_self _ _
  .exact(LX x l).cons_cons p
def zM(x y:κ):∀{L:List (κ×Value)},(L.map (·.1)).Nodup->a_ y (wG x L)=if x=y then none else a_ y L
 |[],_=>by simp[wG,a_]|p::l,h=>by
  simp only[List.map_cons,List.nodup_cons]at h;unfold wG;by_cases e:p.1=x
  .rw[if_pos e];by_cases q:x=y
   .rw[if_pos q]
    cases hg:a_ y l with
    |none=>rfl|some v=>exact absurd (uF.1 (by rw[hg];rfl)) (by rw[<-q,<-e];exact h.1)
   .rw[if_neg q]
    conv=>rhs;unfold a_
    rw[if_neg<|λr=>q<|e.symm.trans r]
  .rw[if_neg e];unfold a_;rw[zM x y h.2];by_cases q:p.1=y
   .rw[if_pos q,if_pos q,if_neg<|λr=>e<|q.trans r.symm]
   .rw[if_neg q,if_neg q]
def S_(x:κ):∀(L:List (κ×Value))(es:List MapEntry)(i j:Nat)(u:Value),es.map (λe=>(e.key,e.val))=L.map (λp=>(enc p.1,p.2))->yB x L i=some (j,u)->i<=j/\(es.eraseIdx<|j-i).map (λe=>(e.key,e.val))=(wG x L).map (λp=>(enc p.1,p.2))
 |[],es,i,j,u,_,h=>by simp[yB]at h|p::l,[],i,j,u,h,_=>yl|p::l,e0::es,i,j,u,m7,h=>by
  simp only[List.map_cons,List.cons.injEq,Prod.mk.injEq]at m7;rw[yB]at h;split at h
  .rename_i hp;simp only[Option.some.injEq,Prod.mk.injEq]at h;obtain⟨rfl,rfl⟩:=h;refine⟨br _,?_⟩;simp[wG,hp,m7]
  .rename_i hp;have⟨h1,h4⟩:=S_ x l es (i+1) j u m7.2 h;refine⟨ae,?_⟩;rw[show j-i=(j-(i+1))+1 by omega];simp[wG,hp,h4,m7]
def wH(x:κ):∀(L:List (κ×Value)),a_ x L=none->wG x L=L
 |[],_=>rfl|p::l,h=>by
  rw[a_]at h;rw[wG];split
  .rename_i e;rw[if_pos e]at h;cases h
  .rename_i e;rw[if_neg e]at h;rw[wH x l h]
variable {L:List (κ×Value)} {P:Program} {k e t:TypeId}
def Ta{p:Prop}(h:p:=by
 simp[Builtin.delete_,run_underlying ht,MapKept.run_getObj_map hb,K.chk,hf,MapKept.run_setObj_map _ hb,Result.andThen,setBlock]):p:=h
def MG.del(K:KL P k enc (λ_ _=>True))(h:MG enc w b L)(ht:P.underlying t=some (.map k e))x ty:∃o,(Builtin.delete_ #[t,k] ty #[Mv b,enc x]).run P w=.ok (.tuple #[]) (setBlock w b o)/\MG enc (setBlock w b o) b (wG x L):=by
 obtain⟨es,clock,hb,m7,hn,hk,hd⟩:=h;have hf:=K.fin x L es.toList w trivial (λ_ _=>trivial) m7
 cases yA:yB x L 0 with
 |none=>
  rw[yA]at hf;refine⟨.map es clock,?_,es,clock,heap_setBlock_same hb _,?_,hn,hk,?_⟩
  .exact Ta
  .rw[wH x L<|oG x L 0 yA];exact m7
  .rw[wH x L<|oG x L 0 yA];exact hd
 |some p=>
  obtain⟨j,u⟩:=p;rw[yA]at hf;have⟨_,h4⟩:=S_ (enc:=enc) x L es.toList 0 j u m7 yA;have⟨_,e0,h2,_,_⟩:=E9 (enc:=enc) x u L es.toList 0 j u m7 yA;have hjs:j<es.size:=by
   have:=(List.getElem?_eq_some_iff.1 h2).1;simpa using this
  have amZ:(es.eraseIdxIfInBounds j).toList=es.toList.eraseIdx j:=by
   rw[Array.eraseIdxIfInBounds];rw[dif_pos hjs];simp
  refine⟨.map (es.eraseIdxIfInBounds j) clock,?_,_,clock,heap_setBlock_same hb _,?_,?_,?_,?_⟩
  .exact Ta
  .grind
  .grind
  .grind
  .exact hd.sublist ((LX x L).map _)
def I9(K:KL P k enc (λ_ _=>True))(ht:P.underlying t=some (.map k e)){ops}{rest}{o}{a}{Q}(hg:o.guard=none)m x(sG:o.op=Op.call {callee:=Callee.builtin Builtin.delete,args:=#[m,x],argTypes:=#[t,k]})(hm:a.eval m=Mv b)(hM:MG enc w b L)key(hx:a.eval x=enc key)(hK:∀w',MG enc w' b (wG key L)->One b w w'->wpList P ops Q rest (a.put o.dst<|.tuple #[]) w'):
 wpList P ops Q (o::rest) a w:=by
 refine wpList_plain hg λK' hK'=>?_;have⟨ob,lQ,r1⟩:=hM.del K ht key o.type;rw[Oper.wp,execOp];simp only[sG,resolve,invoke,builtin,Sem.run_bind,Sem.run_pure,Result.andThen_ok,List.map_toArray,List.map_cons,List.map_nil,hm,hx,lQ];exact hK' _ _<|hK _ r1<|One.set w b ob
end
abbrev amd:KO:=λ_ B M _=>B=(λ_=>False)/\M=(λ_=>False)
def Wg n w:Cq 257 #[Iv n] w λe w'=>e=.returned (.iface 153<|.agg #[.string jC,.slice none 0 0])/\w'=w:=by
 go_enter func257,ntmps257;go_wp2_with fail;refine(zU).mono ?_;rintro e w1⟨rfl,rfl⟩
 go_wp2
 go_ret;exact⟨rfl,rfl⟩
def Pj:Img 257 #[] #[] (λ_=>In.mP) (λ_ _=>True) amd where
 eg:=enters_of Tryz.func257 qkr rfl
 lU acc B M w w' h _ _:=h
 lt acc B M w h:=Cc
 call acc B M w n h _:=by
  obtain⟨rfl,rfl⟩:=h;refine(Wg (n:Int) w).mono ?_;rintro e w'⟨rfl,rfl⟩;exact⟨_,_,_,rfl,Ji _ _ tj,⟨rfl,rfl⟩,λb p=>p.elim,λb p=>p.elim,Fr.refl _ _⟩
section
variable {Q:Nat->Prop}
def DV{t}{v}(ht:cX w Q t v)(hz:size t<=1000000000000):Cq 246 #[v] w λe w'=>∃u,e=.returned u/\cX w' (λi=>w.heap.size<=i) (In.eu t) u/\Bq w w':=by
 have HC:=AR Pj t [] _ _ w v Q ⟨rfl,rfl⟩ (λi hi=>trivial) hz ht<|λx _ _=>id;obtain⟨ta,xa,rfl⟩:=ht.iface;go_enter func246,ntmps246;go_wp2_with fail;refine HC.mono ?_;rintro e w1⟨u,B',M',rfl,HU,hI,hB',hM',F⟩;obtain⟨tu,xu,rfl⟩:=HU.iface;have HB:=F.none<|λ_ q=>q
 go_wp2
 go_ret;exact⟨_,rfl,HU.wide λx p=>p.2.elim (λq=>q.elim) id,HB⟩
end
end
end Go.Proofs.YtlnlhlefeokfjaaGreatDoor

import Derived.Test.YtopmodaakdnliaaGreatDoorCPure
import Derived.Test.YtopmodaakdnliaaGreatDoorCLd0
set_option linter.all false
set_option maxRecDepth 100000
set_option maxHeartbeats 1000000
namespace Go.Proofs.YtopmodaakdnliaaGreatDoor
open Go.ByteArray renaming toList_eq->ja
open Pu renaming bG->jc,Tok->jd,cT->jf,aV->jh,gN->ji,gd->jj,lQ->jk
open _root_.List renaming getElem?_take_of_lt->jl,drop_eq_getElem_cons->jm,length->jo
open Go.RowKit.Below renaming heap_setCell->jq,refl->jt
open _root_.ByteArray renaming size_extract->ju,data_extract->jv
open Go.Value renaming string->jx
open _root_.Nat renaming le_trans->jy,lt_of_lt_of_le->jz
open Go Go.RowKit Go.ChangeMaps Proofs.Tryz
variable {C:Array Value} {s:BA} {e:Ending} {b b2 k n rb sb:Nat} {P Q:Nat->Prop} {nd:Nd} {t:jd} {κ:Type} {v:Value} {a w w':World}
structure One(b:Nat)(w w':World):Prop where
 os:w'.os=w.os
 tape:w'.tape=w.tape
 output:w'.output=w.output
 size:w'.heap.size=w.heap.size
 block:∀k,k≠b->w'.heap[k]? =w.heap[k]?
def One.set w b o:One b w (setBlock w b o):=⟨rfl,rfl,rfl,by simp[setBlock],λk hk=>by simp[setBlock,Array.getElem?_setIfInBounds,Ne.symm hk]⟩
def One.below(h:Below n a w)(k:One b w w')(hb:n<=b):Below n a w':=
 ⟨k.os.trans h.os,k.tape.trans h.tape,k.output.trans h.output,k.size▸h.size,λi hi=>(k.block i ae).trans<|h.block i hi⟩
def Bx.one{w w':World}{b c:Nat}{C}(h:Bx w b C)(k:One c w w')(hn:b≠c):Bx w' b C:=h.same (by rw[k.size];exact br _)<|k.block b hn
def MS.one{κ:Type}[DecidableEq κ]{enc}{w w':World}{b c:Nat}{L:List (κ×Value)}(h:MS enc w b L)(k:One c w w')(hn:b≠c):MS enc w' b L:=h.same<|k.block b hn
section
variable {P:Program} [DecidableEq κ] {enc:κ->Value} {ok:World->κ->Prop}
def aY w{ops}{rest}{o}{a}{Q}(hg:o.guard=none)m x v t(tI:o.op=Op.insert t m x v\/o.op=Op.mapUpdate t m x v){k e}(K:KL P k enc ok)(ht:P.underlying t=some (.map k e))b L(hm:a.eval m=Mv b)(hM:MS enc w b L)key val(hx:a.eval x=enc key)(hv:a.eval v=val)(h1:ok w key)(h2:∀p∈L,ok w p.1)(hK:∀w',MS enc w' b (bn key val L)->One b w w'->wpList P ops Q rest (a.put o.dst undef) w'):
 wpList P ops Q (o::rest) a w:=by
 refine wpList_plain hg λK' hK'=>?_;have⟨ob,lT,r1⟩:=hM.put K ht key val h1 h2;rw[Oper.wp];obtain tI|tI:=tI<;>
 .simp[execOp,tI,hm,hx,hv,lT,Result.andThen];exact hK' _ _<|hK _ r1<|One.set w b ob
end
abbrev uG:BA:=⟨#[97,32,118,97,114,105,97,98,108,101]⟩
abbrev J6:BA:=⟨#[117,112,32,110,97,109,101]⟩
abbrev gG:BA:=⟨#[40]⟩
def UY w(e:Ending)w':=∃b,e=.returned (Mv b)/\w.heap.size<=b/\Bq w w'
def Ma.new{w:World}:MS jx (w.alloc<|.map #[] 0) w.heap.size []:=MS.new _ w
def FT p:Cq 115 #[.pointer<|some p] w (λe w'=>e=.returned (Mv w.heap.size)/\MS jx w' w.heap.size [(uG,.func (.func 157) #[.pointer<|some p] #[]),(J6,.func (.func 158) #[.pointer<|some p] #[]),(gG,.func (.func 159) #[.pointer<|some p] #[])]/\Bq w w'):=by
 have H:=Ma.new (w:=w);have HB:=(Below.refl w.heap.size w).alloc (br _)<|.map #[] 0;have g_:= @run_makeMap Tryz.prog;go_enter func115,ntmps115;go_wp2_with((refine aY _ rfl _ _ _ _ (Or.inl rfl) (KL.str Tryz.underlying235) Tryz.underlying243 _ _ rfl H _ _ rfl rfl trivial (λ_ _=>trivial) ?_;clear H;intro w' H' O';have H:=ai H';have HB:=ai<|One.below HB O' qbr;clear H' O'));go_ret;exact⟨rfl,H,HB⟩
structure MV where
 (a b c d f g h:Value)
abbrev rdC s(t:jd)k(m:MV)sb:=
 #[.string s,Nv t.aD,Nv t.t9,.string<|aq t,.string t.text,Nv k,m.a,m.b,m.c,m.d,Mv sb,m.f,m.g,m.h]
abbrev smL(rb:Nat):List (BA×Value):=[(uG,.func (.func 157) #[Pv rb] #[]),(J6,.func (.func 158) #[Pv rb] #[]),(gG,.func (.func 159) #[Pv rb] #[])]
structure RD w rb sb m s(t:jd)k:Prop where
 bx:Bx w rb (rdC s t k m sb)
 sm:MS jx w sb (smL rb)
 ne:sb≠rb
 la:Laid w
 h2:2<=rb
def Laid.ke(h:Laid w)(hk:Ke rb w w')(h2:2<=rb):Laid w':=by
 have c:∀b o,b<2->w'.cell? ⟨b,o,none⟩=w.cell? ⟨b,o,none⟩:=λb o hb=>World.cell?_of_block (a:=⟨b,o,none⟩) (hk.block b (by have:=h.hz;omega) ae);exact⟨λj hj=>(c 1 j ae).trans<|h.words j hj,λj hj=>(c 0 j ae).trans<|h.signs j hj,jy h.hz hk.size⟩
def RD.af{w w'}{rb sb}{m}{s}{t}{k}(h:RD w rb sb m s t k)(hb:Bq w w'):RD w' rb sb m s t k:=
 ⟨h.bx.below hb,h.sm.below hb,h.ne,h.la.af hb,h.h2⟩
def RD.ke{w w'}{rb sb}{m}{s}{t}{k}(h:RD w rb sb m s t k)(hk:Ke rb w w'){t'}{k'}(hb:Bx w' rb (rdC s t' k' m sb)):RD w' rb sb m s t' k':=
 ⟨hb,h.sm.same<|hk.block sb h.sm.lt h.ne,h.ne,h.la.ke hk h.h2,h.h2⟩
def MS.tT[DecidableEq κ]{enc}{c}{L:List (κ×Value)}(h:MS enc w b L)(hn:b≠c)(j:Nat)(v:Value):MS enc (w.setCell ⟨c,j,none⟩ v) b L:=h.same<|jq _ _ _ _ hn
abbrev zRd s:=#[.string s,Iv 0,Iv 0,.string ⟨#[]⟩,.string ⟨#[]⟩,Iv 0,.map none,.map none,.map none,.map none,.map none,.map none,.map none,.map none]
abbrev guV(f:Fl):Value:=.iface 232<|.agg #[Nv f.kind,Nv f.aD,Nv f.t9]
abbrev bK(f:Fl):Ending:=.panicked [{v:=guV f,recovered:=false}]
def agf(t:jd)(h:t.kind=6):fD t=⟨2,t.aD,t.t9⟩:=by grind[fD]
def Bx.aaO{v1' v2' v3' v4'}{x0 x5 x6 x7 x8 x9 x10 x11 x12 x13}(h:Bx w b #[x0,v1',v2',v3',v4',x5,x6,x7,x8,x9,x10,x11,x12,x13])v0 v1 v2 v3:
 Bx ((((w.setCell ⟨b,1,none⟩ v0).setCell ⟨b,2,none⟩ v1).setCell ⟨b,3,none⟩ v2).setCell ⟨b,4,none⟩ v3) b #[x0,v0,v1,v2,v3,x5,x6,x7,x8,x9,x10,x11,x12,x13]:=
 (((h.aP 1 v0 #[x0,v0,v2',v3',v4',x5,x6,x7,x8,x9,x10,x11,x12,x13] rfl ah).aP 2 v1 #[x0,v0,v1,v3',v4',x5,x6,x7,x8,x9,x10,x11,x12,x13] rfl ah).aP 3 v2 #[x0,v0,v1,v2,v4',x5,x6,x7,x8,x9,x10,x11,x12,x13] rfl ah).aP 4 v3 _ rfl ah
def Cg p:Cq 115 #[.pointer<|some p] w λe w'=>∃b,e=.returned (Mv b)/\w.heap.size<=b/\MS jx w' b [(uG,.func (.func 157) #[.pointer<|some p] #[]),(J6,.func (.func 158) #[.pointer<|some p] #[]),(gG,.func (.func 159) #[.pointer<|some p] #[])]/\Bq w w':=
 (FT p).mono λe w' q=>⟨_,q.1,br _,q.2⟩
section
variable {m:MV}
def aeu(h:RD w rb sb m s t k)i:Cq 192 #[Pv rb,Iv i] w λe w'=>e=.returned (.agg #[Iv i,Nv k])/\Bq w w':=by
 have⟨c,f,z⟩:=h.bx.alloc<|Cv #[Iv 0,Iv 0] 69;go_enter func192,ntmps192
 go_wp2
 exact bodyPost_ret (v:=Av #[Iv i,Nv k]) (by simp[results,Tryz.results192,go_sem]) rfl ⟨rfl,bw _⟩
def wj(h:RD w rb sb m s t k):Cq 120 #[Pv rb] w λe w'=>e=.returned (.agg #[Iv 3,Nv t.aD,Nv t.t9])/\Bq w w':=by
 have⟨c,f,z⟩:=h.bx.alloc<|Cv #[Iv 0,Iv 0,Iv 0] 232;go_enter func120,ntmps120
 go_wp2
 go_region
 go_wp2
 exact bodyPost_ret (v:=Av #[Iv 3,Nv t.aD,Nv t.t9]) (by simp[results,Tryz.results120,go_sem]) rfl ⟨rfl,(bw _).drew⟩
def Bx.nE{w}(h:Bx w b C):Bx w.drew b C:=h.below (jt _ _).drew
def Ke.J7 rb w j v:Ke rb w (w.setCell ⟨rb,j,none⟩ v):=⟨rfl,rfl,rfl,yG,λk _ hn=>jq _ _ _ _ hn⟩
def Ke.gh{rb}{b c}(h:Ke rb a b)(k:Bq b c):Ke rb a c:=h.trans<|Ke.of k
abbrev lU(t:jd):Array Value:=#[Nv t.aD,Nv t.t9,.string<|aq t,.string t.text]
def Bx.bJ{w}(h:Bx w b C)(hn:b≠b2)j v:Bx (w.setCell ⟨b2,j,none⟩ v) b C:=
 h.same yG (jq _ _ _ _ hn)
def Bx.ak2{w}(h:Bx w b C)(hn:b≠b2)v0 v1 v2 v3:Bx ((((w.setCell ⟨b2,0,none⟩ v0).setCell ⟨b2,1,none⟩ v1).setCell ⟨b2,2,none⟩ v2).setCell ⟨b2,3,none⟩ v3) b C:=
 (((h.bJ hn 0 v0).bJ hn 1 v1).bJ hn 2 v2).bJ hn 3 v3
def Ke.aid{rb}{w}(h:Ke rb a w)v0 v1 v2 v3:Ke rb a ((((w.setCell ⟨rb,1,none⟩ v0).setCell ⟨rb,2,none⟩ v1).setCell ⟨rb,3,none⟩ v2).setCell ⟨rb,4,none⟩ v3):=
 (((h.trans<|Ke.J7 rb _ 1 v0).trans<|Ke.J7 rb _ 2 v1).trans<|Ke.J7 rb _ 3 v2).trans (Ke.J7 rb _ 4 v3)
def Ke.SH{rb}{w}(h:Ke rb a w)(hb:a.heap.size<=b)v0 v1 v2 v3:Ke rb a ((((w.setCell ⟨b,0,none⟩ v0).setCell ⟨b,1,none⟩ v1).setCell ⟨b,2,none⟩ v2).setCell ⟨b,3,none⟩ v3):=
 (((h.oo hb 0 v0).oo hb 1 v1).oo hb 2 v2).oo hb 3 v3
def jP rb sb m s(t:jd)w e w':=
 Ke rb w w'/\(((aB s t.t9).kind≠6/\e=.returned (dv t)/\RD w' rb sb m s (aB s t.t9) t.t9)\/((aB s t.t9).kind=6/\e=bK (fD<|aB s t.t9)))
def Aj(h:RD w rb sb m s t k)(hs:s.size<=1000)(ht:t.t9<=s.size):Cq 121 #[Pv rb] w (jP rb sb m s t w):=by
 have hz:=h.bx.z;have aaP:rb≠w.heap.size:=ae;have aoa:rb≠w.heap.size+1:=ae;have R1:=ai<|(((h.bx.aP 5 (Nv t.t9) (rdC s t t.t9 m sb) rfl ah).alloc (Cv Ak 237)).alloc (Cv (lU t) 237)).nE;have D1:Hid (Bx ((((w.setCell ⟨rb,5,none⟩<|Nv t.t9).alloc<|Cv Ak 237).alloc<|Cv (lU t) 237).drew) (w.heap.size+1)<|lU t):=ai (by have:=(Bx.new ((w.setCell ⟨rb,5,none⟩<|Nv t.t9).alloc<|Cv Ak 237) (lU t) 237).nE;simpa[World.setCell]using this);have D0:Hid (Bx ((((w.setCell ⟨rb,5,none⟩<|Nv t.t9).alloc<|Cv Ak 237).alloc<|Cv (lU t) 237).drew) w.heap.size Ak):=ai (by have:=((Bx.new (w.setCell ⟨rb,5,none⟩<|Nv t.t9) Ak 237).alloc<|Cv (lU t) 237).nE;simpa[World.setCell]using this);have K1:Hid (Ke rb w<|(((w.setCell ⟨rb,5,none⟩<|Nv t.t9).alloc<|Cv Ak 237).alloc<|Cv (lU t) 237).drew):=ai<|(Ke.J7 rb w 5<|Nv t.t9).gh<|((bw _).alloc ah _).drew;have E:∀W,Laid W->Cq 119 #[Sv s,Nv t.t9] W (eA (aB s t.t9) W):=λW hW=>J8 hW s t.t9 ht hs;have hla:=λW(hW:Ke rb w W)=>h.la.ke hW h.h2;have⟨c,f,z⟩:=h.bx;have⟨c1,f1,z1⟩:=uh R1;unfold jP;generalize aB s t.t9=T at E⊢;by_cases hk:T.kind=6
 .go_enter func121,ntmps121
  go_wp2
  go_region_dies
  all_goals(refine(E _<|hla _ K1).mono ?_;intro e w2 hp;obtain⟨rfl,hb⟩:=hp.bad hk;exact⟨rfl,K1.gh hb,Or.inr ⟨hk,by rw[agf T hk];rfl⟩⟩)
 .go_enter func121,ntmps121
  go_wp2
  go_region_with(go_at_call 119;refine(E _<|hla _ K1).mono ?_;intro e w2 hp;obtain⟨rfl,hb⟩:=hp.ok hk;have K2:=ai<|K1.gh hb;have R2:=ai<|R1.below hb;have D2:=ai<|D1.below hb;have G2:=ai<|D0.below hb;have⟨c2,f2,z2⟩:=uh R2;have⟨d2,e2,y2⟩:=uh D2;have⟨g2,h2,x2⟩:=uh G2;clear hb)
  all_goals(
   go_wp2_with fail;have hx:Bx w2 rb (rdC s t t.t9 m sb):=uh R2;have F:=R2.aaO (Nv T.aD) (Nv T.t9) (Sv<|aq T)<|Sv T.text;have F2:=F.ak2 aaP (Nv t.aD) (Nv t.t9) (Sv<|aq t)<|Sv t.text;have G3:=((((G2.bJ aaP.symm 1<|Nv T.aD).bJ aaP.symm 2<|Nv T.t9).bJ aaP.symm 3<|Sv<|aq T).bJ aaP.symm 4<|Sv T.text).iU rfl (Nv t.aD) (Nv t.t9) (Sv<|aq t) (Sv t.text);have K3:=(K2.aid (Nv T.aD) (Nv T.t9) (Sv<|aq T)<|Sv T.text).SH (b:=w.heap.size) (br _) (Nv t.aD) (Nv t.t9) (Sv<|aq t)<|Sv t.text;obtain⟨g3,_,_⟩:=G3
   exact bodyPost_ret (v:=dv t) (by simp[results,Tryz.results121,go_sem,g3,dv]) rfl ⟨K3,Or.inl ⟨hk,rfl,h.ke K3 F2⟩⟩)
end
def jP.ok{m:MV}(h:jP rb sb m s t w e w')(hk:(aB s t.t9).kind≠6):e=.returned (.agg #[Nv t.aD,Nv t.t9,.string<|aq t,.string t.text])/\Ke rb w w'/\RD w' rb sb m s (aB s t.t9) t.t9:=by
 obtain⟨hb,⟨_,he,hr⟩|⟨hn,_⟩⟩:=h
 .exact⟨he,hb,hr⟩
 .exact absurd hn hk
def jP.bad{m:MV}(h:jP rb sb m s t w e w')(hk:(aB s t.t9).kind=6):e=bK (fD<|aB s t.t9)/\Ke rb w w':=by
 obtain⟨hb,⟨hn,_⟩|⟨_,he⟩⟩:=h
 .exact absurd hk hn
 .exact⟨he,hb⟩
def Ke.sE(h:Ke rb a w)(hb:a.heap.size<=b)v0 v1 v2:Ke rb a (((w.setCell ⟨b,0,none⟩ v0).setCell ⟨b,1,none⟩ v1).setCell ⟨b,2,none⟩ v2):=
 ((h.oo hb 0 v0).oo hb 1 v1).oo hb 2 v2
def RD.set{m:MV}(h:RD w rb sb m s t k)(h1:b≠rb)(h2:b≠sb)(h3:2<=b)j v:RD (w.setCell ⟨b,j,none⟩ v) rb sb m s t k:=by
 have hk:=Ke.J7 b w j v;exact⟨h.bx.bJ h1.symm j v,h.sm.tT h2.symm j v,h.ne,h.la.ke hk h3,h.h2⟩
def RD.iU{m:MV}(h:RD w rb sb m s t k)(h1:b≠rb)(h2:b≠sb)(h3:2<=b)v0 v1 v2 v3:RD ((((w.setCell ⟨b,0,none⟩ v0).setCell ⟨b,1,none⟩ v1).setCell ⟨b,2,none⟩ v2).setCell ⟨b,3,none⟩ v3) rb sb m s t k:=
 (((h.set h1 h2 h3 0 v0).set h1 h2 h3 1 v1).set h1 h2 h3 2 v2).set h1 h2 h3 3 v3
def RD.pI{m:MV}(h:RD w rb sb m s t k)(h1:b≠rb)(h2:b≠sb)(h3:2<=b)v0 v1 v2:RD (((w.setCell ⟨b,0,none⟩ v0).setCell ⟨b,1,none⟩ v1).setCell ⟨b,2,none⟩ v2) rb sb m s t k:=
 ((h.set h1 h2 h3 0 v0).set h1 h2 h3 1 v1).set h1 h2 h3 2 v2
def Bx.J9(h:Bx w b C)(hb:Ke rb w w')(hn:b≠rb):Bx w' b C:=h.same hb.size<|hb.block b h.z hn
section
variable {m:MV}
def RD.new_ne(h:RD w rb sb m s t k):w.heap.size≠rb/\w.heap.size≠sb/\2<=w.heap.size:=by
 have h1:=h.bx.z;have h2:=h.sm.lt;have h3:=h.la.hz;omega
def jQ(h:RD w rb sb m s t k)(hs:s.size<=1000)(ht:t.t9<=s.size)kd(J_:((aq t).toList==kd.toList)=true):Cq 82 #[Pv rb,.string kd] w (jP rb sb m s t w):=by
 have⟨n1,n2,n3⟩:=h.new_ne;have HA:=h.af<|bw<|Cv Ak 237;have G0:=Bx.new w Ak 237;have K0:=Ke.of (rb:=rb)<|(jt _ w).alloc (br _)<|Cv Ak 237;have⟨c,f,z⟩:=HA.bx;by_cases hk:(aB s t.t9).kind=6
 .go_enter func82,ntmps82;go_wp2_with(go_at_call 121;refine(Aj HA hs ht).mono ?_;intro e w1 hp;obtain⟨rfl,hb⟩:=hp.bad hk;have K1:=ai<|K0.trans hb;clear hb);exact⟨rfl,K1,Or.inr ⟨hk,rfl⟩⟩
 .go_enter func82,ntmps82;go_wp2_with(go_at_call 121;refine(Aj HA hs ht).mono ?_;intro e w1 hp;obtain⟨rfl,hb,hr⟩:=hp.ok hk;have K1:=ai<|K0.trans hb;have G1:=ai<|G0.J9 hb n1;have R1:=ai hr;have⟨g,gf,gz⟩:=uh G1;clear hb hr);have BF:=G1.iU rfl (Nv t.aD) (Nv t.t9) (Sv<|aq t) (Sv t.text);obtain⟨cF,fF,zF⟩:=BF;exact bodyPost_ret (v:=dv t) (by simp[results,Tryz.results82,go_sem,cF,dv]) rfl ⟨K1.SH (br _) _ _ _ _,Or.inl ⟨hk,rfl,R1.iU n1 n2 n3 _ _ _ _⟩⟩
def FU(h:RD w rb sb m s t k)kd(J_:((aq t).toList==kd.toList)=false)(ht:t.kind≠6):Cq 82 #[Pv rb,.string kd] w λe w'=>e=bK (fD t)/\Ke rb w w':=by
 have HA:=h.af<|bw<|Cv Ak 237;have K0:=Ke.of (rb:=rb)<|(Below.refl _ w).alloc (br _)<|Cv Ak 237;have⟨c,f,z⟩:=HA.bx;go_enter func82,ntmps82;go_wp2_with(go_at_call 120;refine(wj HA).mono ?_;rintro e w1⟨rfl,hb⟩;have K1:=ai<|K0.gh hb;clear hb);exact⟨rfl,by rw[fD,if_neg ht];rfl,K1⟩
def aaQ(h:RD w rb sb m s t k)(hs:s.size<=1000)(ht:t.t9<=s.size)kd(J_:((aq t).toList==kd.toList)=true):Cq 198 #[Pv rb,.string kd] w λe w'=>Ke rb w w'/\(((aB s t.t9).kind≠6/\e=.returned (.bool true)/\RD w' rb sb m s (aB s t.t9) t.t9)\/((aB s t.t9).kind=6/\e=bK (fD<|aB s t.t9))):=by
 have⟨c,f,z⟩:=h.bx;have HA:=ai h;by_cases hk:(aB s t.t9).kind=6
 .go_enter func198,ntmps198;go_wp2_with(go_at_call 121;refine(Aj HA hs ht).mono ?_;intro e w1 hp;obtain⟨rfl,hb⟩:=hp.bad hk;have K1:=ai hb;clear hb);exact⟨rfl,K1,Or.inr ⟨hk,rfl⟩⟩
 .go_enter func198,ntmps198;go_wp2_with(go_at_call 121;refine(Aj HA hs ht).mono ?_;intro e w1 hp;obtain⟨rfl,hb,hr⟩:=hp.ok hk;have K1:=ai hb;have R1:=ai hr;clear hb hr);go_ret;exact⟨K1,Or.inl ⟨hk,rfl,R1⟩⟩
def aev(h:RD w rb sb m s t k)kd(J_:((aq t).toList==kd.toList)=false):Cq 198 #[Pv rb,.string kd] w λe w'=>e=.returned (.bool false)/\w'=w:=by
 have⟨c,f,z⟩:=h.bx;go_enter func198,ntmps198
 go_wp2
 go_ret;exact⟨rfl,rfl⟩
end
def m0(s:BA):=∃x r,s.toList=x::r/\Pu.Bv x.toNat=true
structure gi(t:jd):Prop where
 kd:t.kind=1\/t.kind=2\/t.kind=3\/t.kind=4\/t.kind=5\/t.kind=6\/t.kind=7
 s5:t.kind=5->t.text.size<=5
 v3:t.kind=3->∃r,t.text.toList=39::r
 v2:t.kind=2->m0 t.text
def OQ(h:Pu.fN s=true):s.size<=5:=by
 rw[Pu.fN]at h;rw[List.any_eq_true]at h;obtain⟨x,hx,he⟩:=h;rw[beq_iff_eq]at he;have:s.toList.length<=5:=by
  rw[<-he];clear he;revert x;simp[Pu.words,ja];decide
 rw[ja]at this;simpa using this
def mL{i j}(hi:i<s.size)(hj:i<j):(s.extract i j).toList=s[i]::(s.extract (i+1) j).toList:=by
 rw[ja,ja,jv,jv];apply List.ext_getElem?;intro k
 cases k with
 |zero=>
  simp;rw[jl ae];simp;rw[Array.getElem?_eq_getElem yT];rfl
 |succ k=>
  simp;by_cases hk:k+1<j-i
  .rw[jl hk,jl ae];simp;congr 1;omega
  .rw[List.getElem?_take_eq_none ae,List.getElem?_take_eq_none ae]
def aaR s i(hi:i<s.size):gi (jf s i):=by
 rw[jf];have ex:∀a b:Nat,(s.extract a b).size<=b-a:=λa b=>by simp[ju];omega
 repeat' split
 all_goals refine⟨by simp[ji],?_,?_,?_⟩
 all_goals intro q
 all_goals try(exfalso;simp[ji]at q;done)
 .rename_i h;exact OQ h
 .rename_i h2;have Cz:=jj s jh i;have hup:jh (Pu.at_ s i)=true:=by rw[jh];simp[h2]
  have hgt:i<Pu.aH s jh i:=by rw[Pu.fO hi hup];exact jz (Nat.lt_succ_self i)<|jj s jh<|i+1
  exact⟨_,_,mL hi hgt,by rw[<-Pu.m9 hi];exact h2⟩
 .rename_i h3 h4;have CJ:s[i].toNat=39:=by rw[<-Pu.m9 hi];exact h3.1
  have Cz:=jj s jh<|i+1;have e9:s[i]=39:=UInt8.toNat_inj.1 CJ;exact⟨_,by rw[<-e9];exact mL hi ae⟩
 .exact jy (ex _ _) ae
 .exact jy (ex _ _) ae
theorem OS s p:gi (aB s p):=by
 rw[aB];split
 .rename_i h;exact aaR s _ h
 .exact⟨qBr,qBr,qBr,qBr⟩
theorem Al s p:(aB s p).t9<=s.size:=by
 rw[aB];split
 .rename_i h;exact(jk s _ h).2
 .simp[Pu.fB]
def Dv s:∀k,k<(jc s 0).length->(jc s 0).drop k=jc s (aR (jc s 0) k)/\aR (jc s 0) k<=s.size:=by
 intro k
 induction k with
 |zero=>intro _;exact⟨by simp[aR],by simp[aR]⟩|succ k ih=>
  intro hk;have⟨h1,h2⟩:=ih ae;have h3:=lV s (aR (jc s 0) k) h2;rw[<-h1]at h3;have hd:(jc s 0).drop k=tk (jc s 0) k::(jc s 0).drop (k+1):=by
   rw[<-SI ae];exact jm ae
  have hl:((jc s 0).drop<|k+1).length≠0:=bi;rw[hd]at h3;split at h3
  .grind
  .injection h3 with h4 h5;rw[<-h4]at h5;refine⟨?_,?_⟩
   .rw[h5];simp[aR]
   .simp only[aR,Nat.add_sub_cancel];rw[if_neg ae,h4];exact Al s _
theorem kN s k(hk:k<(jc s 0).length):tk (jc s 0) k=aB s (aR (jc s 0) k):=by
 have⟨h1,h2⟩:=Dv s k hk;have h3:=lV s (aR (jc s 0) k) h2;rw[<-h1]at h3;have hd:(jc s 0).drop k=tk (jc s 0) k::(jc s 0).drop (k+1):=by
  rw[<-SI hk];exact jm hk
 rw[hd]at h3;split at h3
 .rename_i h7;injection h3 with h4 _;rw[h4];rw[aB]at h7⊢;split at h7
  .exfalso;revert h7;rw[jf];repeat' split
   all_goals simp[ji]
  .rename_i hn;rw[if_neg hn]
 .grind
def eH s k(hk:k<(jc s 0).length):gi (tk (jc s 0) k):=by grind[tk,kN,OS]
def sG s k(hk:k<(jc s 0).length):(tk (jc s 0) k).t9<=s.size:=by grind[tk,kN,Al]
def SK s k(hk:k<(jc s 0).length)(h7:(tk (jc s 0) k).kind≠7):k+1<(jc s 0).length/\aB s (tk (jc s 0) k).t9=tk (jc s 0) (k+1)/\aR (jc s 0) (k+1)=(tk (jc s 0) k).t9:=by
 have hl:aR (jc s 0) (k+1)=(tk (jc s 0) k).t9:=by simp[aR]
 have⟨h1,h2⟩:=Dv s k hk;have h3:=lV s (aR (jc s 0) k) h2;rw[<-h1,<-kN s k hk,if_neg h7]at h3;have cJ:jc s (tk (jc s 0) k).t9≠[]:=by
  rw[lV s _<|sG s k hk];split<;>simp
 have aZ:k+1<(jc s 0).length:=by
  have:=congrArg jo h3;simp at this;have h5:0<(jc s (tk (jc s 0) k).t9).length:=Mn;omega
 exact⟨aZ,by rw[<-hl,<-kN s (k+1) aZ],hl⟩
def iW(h:t.kind=1):aq t=⟨#[108,111,119,32,110,97,109,101]⟩:=by grind[aq]
def ie(h:t.kind=2):aq t=⟨#[117,112,32,110,97,109,101]⟩:=by grind[aq]
def ig(h:t.kind=3):aq t=⟨#[97,32,118,97,114,105,97,98,108,101]⟩:=by grind[aq]
def iX(h:t.kind=4):aq t=⟨#[97,32,110,117,109,98,101,114]⟩:=by grind[aq]
def po(h:t.kind=5):aq t=t.text:=by grind[aq]
def iY(h:t.kind=7):aq t=⟨#[116,104,101,32,101,110,100]⟩:=by grind[aq]
def aaS(h:gi t)(hk:t.kind≠6){kd}(hs:kd.size<=2):((aq t).toList==kd.toList)=aU t kd:=by
 have hkl:kd.toList.length<=2:=by rw[ja];simpa using hs
 have key:∀(l:BA),2<l.toList.length->(l.toList==kd.toList)=false:=Mn;rw[aU];obtain h|h|h|h|h|h|h:=h.kd
 .rw[iW h,key _ qAp,h];rfl
 .rw[ie h,key _ qAp,h];rfl
 .rw[ig h,key _ qAp,h];rfl
 .rw[iX h,key _ qAp,h];rfl
 .rw[po h,h];simp
 .exact absurd h hk
 .rw[iY h,key _ qAp,h];rfl
def lW(h:gi t)(hk:t.kind≠6){kd:BA}(hs:5<kd.size)(h5:t.kind=5):((aq t).toList==kd.toList)=false:=by
 rw[<-Bool.not_eq_true,beq_iff_eq];intro e;have:aq t=t.text:=by rw[aq];simp[h5]
 rw[this]at e;have h1:=h.s5 h5;have h2:=congrArg jo e;rw[ja,ja]at h2;simp at h2;omega
def FV(h:gi t)(hk:t.kind≠6):((aq t).toList==J6.toList)=(t.kind==2):=by
 obtain h'|h'|h'|h'|h'|h'|h':=h.kd
 .rw[iW h',h'];simp[ja]
 .rw[ie h',h'];simp[ja]
 .rw[ig h',h'];simp[ja]
 .rw[iX h',h'];simp[ja]
 .rw[lW h hk aA h'];simp[h']
 .exact absurd h' hk
 .rw[iY h',h'];simp[ja]
def aaT(h:gi t)(hk:t.kind≠6):((aq t).toList==[116,104,101,32,101,110,100])=(t.kind==7):=by
 obtain h'|h'|h'|h'|h'|h'|h':=h.kd
 .rw[iW h',h'];simp[ja]
 .rw[ie h',h'];simp[ja]
 .rw[ig h',h'];simp[ja]
 .rw[iX h',h'];simp[ja]
 .have:=lW (kd:=⟨#[116,104,101,32,101,110,100]⟩) h hk aA h';rw[show(ByteArray.mk #[116,104,101,32,101,110,100]).toList=[116,104,101,32,101,110,100]from toList_mk _]at this;rw[this];simp[h']
 .exact absurd h' hk
 .rw[iY h',h'];simp[ja]
def Dw(h:gi t)(hk:t.kind≠6)rb:bd (aq t) (smL rb)=if t.kind=3 then some (.func (.func 157) #[Pv rb] #[])else if t.kind=2 then some (.func (.func 158) #[Pv rb] #[])else if aU t gG=true then some (.func (.func 159) #[Pv rb] #[])else none:=by
 have e1:∀(x:BA),(x=aq t)↔((aq t).toList==x.toList)=true:=λx=>by
  rw[beq_iff_eq,ja,ja];constructor
  .intro q;rw[q]
  .intro q
   cases x;cases hq:aq t
   rw[hq]at q;simp at q;congr 1;exact q.symm
 rw[smL,bd];rw[bd];rw[bd];rw[bd];simp only[e1];rw[FV h hk,aaS h hk (kd:=gG) aA];obtain h'|h'|h'|h'|h'|h'|h':=h.kd
 .have:((aq t).toList==uG.toList)=false:=by rw[iW h'];simp[ja]
  rw[this];simp[h',aU]
 .have:((aq t).toList==uG.toList)=false:=by rw[ie h'];simp[ja]
  rw[this];simp[h']
 .have:((aq t).toList==uG.toList)=true:=by rw[ig h'];simp[ja]
  rw[this];simp[h']
 .have:((aq t).toList==uG.toList)=false:=by rw[iX h'];simp[ja]
  rw[this];simp[h',aU]
 .rw[lW h hk aA h'];simp[h']
 .exact absurd h' hk
 .have:((aq t).toList==uG.toList)=false:=by rw[iY h'];simp[ja]
  rw[this];simp[h',aU]
def cd rb sb m s(t:jd)v w e w':=
 Ke rb w w'/\(((aB s t.t9).kind≠6/\e=.returned v/\RD w' rb sb m s (aB s t.t9) t.t9)\/((aB s t.t9).kind=6/\e=bK (fD<|aB s t.t9)))
def cd.ok{m:MV}(h:cd rb sb m s t v w e w')(hk:(aB s t.t9).kind≠6):e=.returned v/\Ke rb w w'/\RD w' rb sb m s (aB s t.t9) t.t9:=by grind[cd,aB]
def cd.bad{m:MV}(h:cd rb sb m s t v w e w')(hk:(aB s t.t9).kind=6):e=bK (fD<|aB s t.t9)/\Ke rb w w':=by grind[cd,aB,fD]
inductive PT(w:World)(P:Nat->Prop):Nd->Value->Prop where
 |var(s:BA)(n f t a:Nat)(x y:Int)(hq:∃r,s.toList=39::r)(hx:x=(f:Int))(hy:y=((f+s.size:Nat):Int)):PT w P (.mk 16 s n [] f t a) (.iface 257<|.agg #[Iv x,Iv y,.string<|s.extract 1 s.size])
 |fn(s:BA)(n:Nat)(a b:Nd)(f t at_:Nat)(x y:Int)(va vb:Value)(ha:PT w P a va)(hb:PT w P b vb):PT w P (.mk 17 s n [a,b] f t at_) (.iface 297<|.agg #[Iv x,Iv y,va,vb])
 |pr(s:BA)(n:Nat)(a b:Nd)(f t at_:Nat)(x y:Int)(va vb:Value)(ha:PT w P a va)(hb:PT w P b vb):PT w P (.mk 6 s n [a,b] f t at_) (.iface 301<|.agg #[Iv x,Iv y,va,vb])
 |up(s:BA)(n:Nat)(L:List Nd)(f t at_:Nat)(x y x' y':Int)(sa:Option Addr)(sc:Nat)(vs:Nat->Value)(hu:m0 s)(aE:L=[]\/∃g,sa=some ⟨g,0,none⟩/\P g/\g<w.heap.size/\∀i,i<L.length->w.cell? ⟨g,i,none⟩=some (vs i))(hr:∀i(h:i<L.length),PT w P L[i]<|vs i)(hx:x'=(at_:Int))(hy:y'=((at_+s.size:Nat):Int)):
  PT w P (.mk 2 s n L f t at_) (.iface 299<|.agg #[Iv x,Iv y,Iv x',Iv y',.string s,.slice sa L.length sc])
theorem PT.move(h:PT w P nd v)(hs:w.heap.size<=w'.heap.size)(hb:∀b,P b->b<w.heap.size->w'.heap[b]? =w.heap[b]?)(hq:∀b,P b->b<w.heap.size->Q b):PT w' Q nd v:=by
 induction h with
 |var s n f t a x y hq hx hy=>exact .var s n f t a x y hq hx hy|fn s n a b f t at_ x y va vb _ _ Yp Yq=>exact .fn s n a b f t at_ x y va vb Yp Yq|pr s n a b f t at_ x y va vb _ _ Yp Yq=>exact .pr s n a b f t at_ x y va vb Yp Yq|up s n L f t at_ x y x' y' sa sc vs hu aE hr hx hy ih=>
  refine .up s n L f t at_ x y x' y' sa sc vs hu ?_ ih hx hy;obtain h0|⟨g,h1,hP,hz,hc⟩:=aE
  .exact Or.inl h0
  .refine Or.inr ⟨g,h1,hq g hP hz,jz hz hs,λi hi=>?_⟩;rw[World.cell?_of_block (a:=⟨g,i,none⟩) (w:=w)<|hb g hP hz];exact hc i hi
def PT.af(h:PT w P nd v)(hb:Bq w w'):PT w' P nd v:=h.move hb.size (λb _ hz=>hb.block b hz)<|λ_ p _=>p
def PT.wide(h:PT w P nd v)(hq:∀b,P b->Q b):PT w Q nd v:=h.move (br _) (λ_ _ _=>rfl)<|λb p _=>hq b p
def aaU s i(hi:i<s.size):(jf s i).t9=(jf s i).aD+(jf s i).text.size:=by
 have ht:=jk s i hi;revert ht;rw[jf];have ex:∀k b:Nat,i<b->b<=s.size->(ji s i k b).t9=(ji s i k b).aD+(ji s i k b).text.size:=λk b h1 h2=>by
  show b=i+(s.extract i b).size;rw[ju];omega
 repeat' split
 all_goals intro ht
 all_goals exact ex _ _ ht.1 ht.2
def agh s k(hk:k<(jc s 0).length):(tk (jc s 0) k).t9=(tk (jc s 0) k).aD+(tk (jc s 0) k).text.size:=by
 rw[kN s k hk];rw[aB];split
 .rename_i h;exact aaU s _ h
 .simp[Pu.fB];rfl
def fin{α:Type}(T:List jd):Except Fl (α×Nat)->Except Fl (α×Nat)
 |.error f=>.error f|.ok (a,k)=>if(tk T k).kind=6 then .error (fD<|tk T k)else .ok (a,k)
def Bx.pW(h:Bx w b C)(hC:C.size=3)v0 v1 v2:Bx (((w.setCell ⟨b,0,none⟩ v0).setCell ⟨b,1,none⟩ v1).setCell ⟨b,2,none⟩ v2) b #[v0,v1,v2]:=by
 obtain⟨a0,a1,a2,rfl⟩:∃a0 a1 a2,C=#[a0,a1,a2]:=by
  obtain⟨l⟩:=C
  match l,hC with
  |[a,b,c],_=>grind
 exact((h.aP 0 v0 #[v0,a1,a2] rfl ah).aP 1 v1 #[v0,v1,a2] rfl ah).aP 2 v2 #[v0,v1,v2] rfl ah
section
variable {m:MV}
abbrev zNm:Array Value:=#[Iv 0,Iv 0,.string ⟨#[]⟩]
def OT(h:RD w rb sb m s t k)(hs:s.size<=1000)(ht:t.t9<=s.size)kd(J_:((aq t).toList==kd.toList)=true):Cq 188 #[Pv rb,.string kd] w (cd rb sb m s t (.agg #[Nv t.aD,Nv t.t9,.string t.text]) w):=by
 have⟨n1,n2,n3⟩:=h.new_ne;have HA:=h.af<|bw<|Cv zNm 71;have G0:=Bx.new w zNm 71;have K0:=Ke.of (rb:=rb)<|(jt _ w).alloc (br _)<|Cv zNm 71;by_cases hk:(aB s t.t9).kind=6
 .go_enter func188,ntmps188;go_wp2_with(go_at_call 82;refine(jQ HA hs ht kd J_).mono ?_;intro e w1 hp;obtain⟨rfl,hb⟩:=hp.bad hk;have K1:=ai<|K0.trans hb;clear hb);exact⟨rfl,K1,Or.inr ⟨hk,rfl⟩⟩
 .go_enter func188,ntmps188;go_wp2_with(go_at_call 82;refine(jQ HA hs ht kd J_).mono ?_;intro e w1 hp;obtain⟨rfl,hb,hr⟩:=hp.ok hk;have K1:=ai<|(K0.trans hb).gh<|bw<|Cv (lU t) 237;have G1:=ai<|(G0.J9 hb n1).alloc<|Cv (lU t) 237;have R1:=ai<|hr.af<|bw<|Cv (lU t) 237;have⟨g,gf,gz⟩:=uh G1;clear hb hr);have BF:=G1.pW rfl (Nv t.aD) (Nv t.t9) (Sv t.text);obtain⟨cF,fF,zF⟩:=BF;exact bodyPost_ret (v:=Av #[Nv t.aD,Nv t.t9,Sv t.text]) (by simp[results,Tryz.results188,go_sem,cF]) rfl ⟨K1.sE (br _) _ _ _,Or.inl ⟨hk,rfl,R1.pI n1 n2 n3 _ _ _⟩⟩
def aew(h:RD w rb sb m s t k)kd(J_:((aq t).toList==kd.toList)=false)(ht:t.kind≠6):Cq 188 #[Pv rb,.string kd] w λe w'=>e=bK (fD t)/\Ke rb w w':=by
 have HA:=h.af<|bw<|Cv zNm 71;have K0:=Ke.of (rb:=rb)<|(Below.refl _ w).alloc (br _)<|Cv zNm 71;go_enter func188,ntmps188;go_wp2_with(go_at_call 82;refine(FU HA kd J_ ht).mono ?_;rintro e w1⟨rfl,hb⟩;have K1:=ai<|K0.trans hb;clear hb);exact⟨rfl,rfl,K1⟩
def jR(h:RD w rb sb m s t k)(hs:s.size<=1000)(ht:t.t9<=s.size)(vW:t.kind=3)(ho:gi t):Cq 189 #[Pv rb] w (cd rb sb m s t (.agg #[Nv t.aD,Nv t.t9,.string<|t.text.extract 1 t.text.size]) w):=by
 have⟨n1,n2,n3⟩:=h.new_ne;have HA:=h.af<|bw<|Cv zNm 71;have G0:=Bx.new w zNm 71;have K0:=Ke.of (rb:=rb)<|(jt _ w).alloc (br _)<|Cv zNm 71;have J_:((aq t).toList==uG.toList)=true:=by rw[ig vW];simp[ja]
 have kX:(1:Int)<=(t.text.size:Int):=by
  have⟨r,hr⟩:=ho.v3 vW;have:=congrArg jo hr;rw[ja]at this;simp at this;have e:t.text.size=t.text.data.size:=rfl;omega
 by_cases hk:(aB s t.t9).kind=6
 .go_enter func189,ntmps189;go_wp2_with(go_at_call 82;refine(jQ HA hs ht uG J_).mono ?_;intro e w1 hp;obtain⟨rfl,hb⟩:=hp.bad hk;have K1:=ai<|K0.trans hb;clear hb);exact⟨rfl,K1,Or.inr ⟨hk,rfl⟩⟩
 .go_enter func189,ntmps189;go_wp2_with(go_at_call 82;refine(jQ HA hs ht uG J_).mono ?_;intro e w1 hp;obtain⟨rfl,hb,hr⟩:=hp.ok hk;have K1:=ai<|(K0.trans hb).gh<|bw<|Cv (lU t) 237;have G1:=ai<|(G0.J9 hb n1).alloc<|Cv (lU t) 237;have R1:=ai<|hr.af<|bw<|Cv (lU t) 237;have⟨g,gf,gz⟩:=uh G1;clear hb hr);go_region;go_wp2_with fail;have BF:=(G1.pW rfl (Nv t.aD) (Nv t.t9) (Sv<|t.text.extract 1 t.text.size)).nE;obtain⟨cF,fF,zF⟩:=BF;exact bodyPost_ret (v:=Av #[Nv t.aD,Nv t.t9,Sv<|t.text.extract 1 t.text.size]) (by simp[results,Tryz.results189,go_sem,cF]) rfl ⟨(K1.sE (br _) _ _ _).gh (Below.refl _ _).drew,Or.inl ⟨hk,rfl,(R1.pI n1 n2 n3 _ _ _).af (Below.refl _ _).drew⟩⟩
def Wk(h:RD w rb sb m s t k)(hs:s.size<=1000)(ht:t.t9<=s.size)(vW:t.kind=3)(ho:gi t):Cq 157 #[Pv rb] w (cd rb sb m s t (.iface 257<|.agg #[Nv t.aD,Nv t.t9,.string<|t.text.extract 1 t.text.size]) w):=by
 have HA:=ai h;by_cases hk:(aB s t.t9).kind=6
 .go_enter func157,ntmps157;go_wp2_with(go_at_call 189;refine(jR HA hs ht vW ho).mono ?_;intro e w1 hp;obtain⟨rfl,hb⟩:=hp.bad hk;have K1:=ai hb;clear hb);exact⟨rfl,K1,Or.inr ⟨hk,rfl⟩⟩
 .go_enter func157,ntmps157;go_wp2_with(go_at_call 189;refine(jR HA hs ht vW ho).mono ?_;intro e w1 hp;obtain⟨rfl,hb,hr⟩:=hp.ok hk;have K1:=ai hb;have R1:=ai hr;clear hb hr);go_ret;exact⟨K1.gh<|bw _,Or.inl ⟨hk,rfl,R1.af<|bw _⟩⟩
def OU(h:RD w rb sb m s t k)(hs:s.size<=1000)(ht:t.t9<=s.size)(XV:t.kind=2):Cq 158 #[Pv rb] w (cd rb sb m s t (.iface 299<|.agg #[Nv t.aD,Nv t.t9,Nv t.aD,Nv t.t9,.string t.text,.slice none 0 0]) w):=by
 have HA:=ai h;have J_:((aq t).toList==J6.toList)=true:=by rw[ie XV];simp[ja]
 by_cases hk:(aB s t.t9).kind=6
 .go_enter func158,ntmps158;go_wp2_with(go_at_call 188;refine(OT HA hs ht J6 J_).mono ?_;intro e w1 hp;obtain⟨rfl,hb⟩:=hp.bad hk;have K1:=ai hb;clear hb);exact⟨rfl,K1,Or.inr ⟨hk,rfl⟩⟩
 .go_enter func158,ntmps158;go_wp2_with(go_at_call 188;refine(OT HA hs ht J6 J_).mono ?_;intro e w1 hp;obtain⟨rfl,hb,hr⟩:=hp.ok hk;have K1:=ai hb;have R1:=ai hr;clear hb hr);go_ret;exact⟨K1.gh<|bw _,Or.inl ⟨hk,rfl,R1.af<|bw _⟩⟩
end
def aie w:(zeroValue 315).run Tryz.prog w=.ok .nilFunc w:=qkr
section
variable {m:MV}
def wo{T}{p}{k}(h:(tk T k).kind=3\/(tk T k).kind=2):aJ T p p 1 k=.ok (dG<|tk T k,k+1):=by
 have h5:aU (tk T k) sH=false:=by rw[aU];obtain h|h:=h<;>simp[h]
 rw[aJ];rw[if_pos (by rw[aF,bY];obtain h|h:=h<;>simp[h]),if_neg<|by simp[h5]]
def uH(h:gi t):aF t 1=(t.kind==3||t.kind==2||aU t gG):=by
 show(aU t gG||_)=_;rw[if_pos rfl];rw[bY];obtain h|h|h|h|h|h|h:=h.kd<;>simp[h,aU];repeat' split
 all_goals simp
def kO(o:Option Value)(z:Value):Value:=match o with|some v=>.tuple #[v,.bool true]|none=>.tuple #[z,.bool false]
def fid(t:jd):Nat:=if t.kind=3 then 157 else if t.kind=2 then 158 else 159
def aaV(t:jd)args w:(callFunc (fid t) args).run Tryz.prog w=.ok (.enter (fid t) args) w:=by
 rw[fid];split
 .kernel_rfl
 .split<;>kernel_rfl
def aex(ho:gi t)(h6:t.kind≠6)(hb:aF t 1=true):bd (aq t) (smL rb)=some (.func (.func<|fid t) #[Pv rb] #[]):=by
 rw[Dw ho h6];rw[uH ho]at hb;rw[fid];by_cases h3:t.kind=3
 .simp[h3]
 by_cases h2:t.kind=2
 .simp[h2]
 have:aU t gG=true:=Mn;simp[h2,h3,this]
def aaW(ho:gi t)(h6:t.kind≠6)(hb:aF t 1=false):bd (aq t) (smL rb)=none:=by
 rw[Dw ho h6];rw[uH ho]at hb;simp at hb;simp[hb]
end
end Go.Proofs.YtopmodaakdnliaaGreatDoor

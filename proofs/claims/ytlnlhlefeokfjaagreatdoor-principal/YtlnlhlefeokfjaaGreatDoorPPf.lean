import Derived.Test.YtlnlhlefeokfjaaGreatDoorPPure
import Derived.Test.YtlnlhlefeokfjaaGreatDoorPLd0
set_option linter.all false
set_option maxRecDepth 100000
set_option maxHeartbeats 1000000
namespace Go.Proofs.YtlnlhlefeokfjaaGreatDoor
open Go.ByteArray renaming toList_eq->ja
open Pu renaming bF->jc,Tok->jd,dB->jf,aY->jh,ig->ji,gD->jj,ue->jk
open _root_.List renaming getElem?_take_of_lt->jl,drop_eq_getElem_cons->jm,length->jo
open Go.RowKit.Below renaming heap_setCell->jp,refl->jq
open _root_.ByteArray renaming size_extract->jt,data_extract->ju
open Go.Value renaming string->jv
open _root_.Nat renaming le_trans->jx,lt_of_lt_of_le->jy
open Go Go.RowKit Go.ChangeMaps Proofs.Tryz
variable {C:Array Value} {s:BA} {e:Ending} {b b2 k n rb sb:Nat} {P Q:Nat->Prop} {nd:Nd} {t:jd} {κ:Type} {v:Value} {a w w':World}
structure One(b:Nat)(w w':World):Prop where
 os:w'.os=w.os
 tape:w'.tape=w.tape
 output:w'.output=w.output
 size:w'.heap.size=w.heap.size
 block:∀k,k≠b->w'.heap[k]? =w.heap[k]?
def One.set w b o:One b w (setBlock w b o):=⟨rfl,rfl,rfl,by simp[setBlock],λk hk=>by simp[setBlock,Array.getElem?_setIfInBounds,Ne.symm hk]⟩
def One.below(h:Below n a w)(k:One b w w')(hb:n<=b):Below n a w':=
 ⟨k.os.trans h.os,k.tape.trans h.tape,k.output.trans h.output,k.size▸h.size,λi hi=>(k.block i ae).trans<|h.block i hi⟩
def Bx.one{w w':World}{b c:Nat}{C}(h:Bx w b C)(k:One c w w')(hn:b≠c):Bx w' b C:=h.same (by rw[k.size];exact br _)<|k.block b hn
def MS.one{κ:Type}[DecidableEq κ]{enc}{w w':World}{b c:Nat}{L:List (κ×Value)}(h:MS enc w b L)(k:One c w w')(hn:b≠c):MS enc w' b L:=h.same<|k.block b hn
section
variable {P:Program} [DecidableEq κ] {enc:κ->Value} {ok:World->κ->Prop}
def aZ w{ops}{rest}{o}{a}{Q}(hg:o.guard=none)m x v t(sG:o.op=Op.insert t m x v\/o.op=Op.mapUpdate t m x v){k e}(K:KL P k enc ok)(ht:P.underlying t=some (.map k e))b L(hm:a.eval m=Mv b)(hM:MS enc w b L)key val(hx:a.eval x=enc key)(hv:a.eval v=val)(h1:ok w key)(h2:∀p∈L,ok w p.1)(hK:∀w',MS enc w' b (bG key val L)->One b w w'->wpList P ops Q rest (a.put o.dst undef) w'):
 wpList P ops Q (o::rest) a w:=by
 refine wpList_plain hg λK' hK'=>?_;have⟨ob,lQ,r1⟩:=hM.put K ht key val h1 h2;rw[Oper.wp];obtain sG|sG:=sG<;>
 .simp[execOp,sG,hm,hx,hv,lQ,Result.andThen];exact hK' _ _<|hK _ r1<|One.set w b ob
end
abbrev vM:BA:=⟨#[97,32,118,97,114,105,97,98,108,101]⟩
abbrev J9:BA:=⟨#[117,112,32,110,97,109,101]⟩
abbrev nD:BA:=⟨#[40]⟩
def Vl w(e:Ending)w':=∃b,e=.returned (Mv b)/\w.heap.size<=b/\Bq w w'
def Ma.new{w:World}:MS jv (w.alloc<|.map #[] 0) w.heap.size []:=MS.new _ w
def Gp p:Cq 93 #[.pointer<|some p] w (λe w'=>e=.returned (Mv w.heap.size)/\MS jv w' w.heap.size [(vM,.func (.func 137) #[.pointer<|some p] #[]),(J9,.func (.func 138) #[.pointer<|some p] #[]),(nD,.func (.func 139) #[.pointer<|some p] #[])]/\Bq w w'):=by
 have H:=Ma.new (w:=w);have HB:=(Below.refl w.heap.size w).alloc (br _)<|.map #[] 0;have iZ:= @run_makeMap Tryz.prog;go_enter func93,ntmps93;go_wp2_with((refine aZ _ rfl _ _ _ _ (Or.inl rfl) (KL.str Tryz.underlying201) Tryz.underlying208 _ _ rfl H _ _ rfl rfl trivial (λ_ _=>trivial) ?_;clear H;intro w' H' O';have H:=ai H';have HB:=ai<|One.below HB O' qbr;clear H' O'));go_ret;exact⟨rfl,H,HB⟩
structure MV where
 (a b c d f g h:Value)
abbrev rdC s(t:jd)k(m:MV)sb:=
 #[.string s,Nv t.aF,Nv t.to,.string<|aA t,.string t.text,Nv k,m.a,m.b,m.c,m.d,Mv sb,m.f,m.g,m.h]
abbrev smL(rb:Nat):List (BA×Value):=[(vM,.func (.func 137) #[Pv rb] #[]),(J9,.func (.func 138) #[Pv rb] #[]),(nD,.func (.func 139) #[Pv rb] #[])]
structure RD w rb sb m s(t:jd)k:Prop where
 bx:Bx w rb (rdC s t k m sb)
 sm:MS jv w sb (smL rb)
 ne:sb≠rb
 la:Laid w
 h2:3<=rb
def Laid.ke(h:Laid w)(hk:Ke rb w w')(h2:3<=rb):Laid w':=by
 have c:∀b o,b<3->w'.cell? ⟨b,o,none⟩=w.cell? ⟨b,o,none⟩:=λb o hb=>World.cell?_of_block (a:=⟨b,o,none⟩) (hk.block b (by have:=h.hz;omega) ae);exact⟨λj hj=>(c 2 j ae).trans<|h.words j hj,λj hj=>(c 0 j ae).trans<|h.signs j hj,jx h.hz hk.size⟩
def RD.af{w w'}{rb sb}{m}{s}{t}{k}(h:RD w rb sb m s t k)(hb:Bq w w'):RD w' rb sb m s t k:=
 ⟨h.bx.below hb,h.sm.below hb,h.ne,h.la.af hb,h.h2⟩
def RD.ke{w w'}{rb sb}{m}{s}{t}{k}(h:RD w rb sb m s t k)(hk:Ke rb w w'){t'}{k'}(hb:Bx w' rb (rdC s t' k' m sb)):RD w' rb sb m s t' k':=
 ⟨hb,h.sm.same<|hk.block sb h.sm.lt h.ne,h.ne,h.la.ke hk h.h2,h.h2⟩
def MS.u_[DecidableEq κ]{enc}{c}{L:List (κ×Value)}(h:MS enc w b L)(hn:b≠c)(j:Nat)(v:Value):MS enc (w.setCell ⟨c,j,none⟩ v) b L:=h.same<|jp _ _ _ _ hn
abbrev zRd s:=#[.string s,Iv 0,Iv 0,.string ⟨#[]⟩,.string ⟨#[]⟩,Iv 0,.map none,.map none,.map none,.map none,.map none,.map none,.map none,.map none]
abbrev guV(f:Fl):Value:=.iface 198<|.agg #[Nv f.kind,Nv f.aF,Nv f.to]
abbrev bU(f:Fl):Ending:=.panicked [{v:=guV f,recovered:=false}]
def afI(t:jd)(h:t.kind=6):eK t=⟨2,t.aF,t.to⟩:=by grind[eK]
def Bx.ZQ{v1' v2' v3' v4'}{x0 x5 x6 x7 x8 x9 x10 x11 x12 x13}(h:Bx w b #[x0,v1',v2',v3',v4',x5,x6,x7,x8,x9,x10,x11,x12,x13])v0 v1 v2 v3:
 Bx ((((w.setCell ⟨b,1,none⟩ v0).setCell ⟨b,2,none⟩ v1).setCell ⟨b,3,none⟩ v2).setCell ⟨b,4,none⟩ v3) b #[x0,v0,v1,v2,v3,x5,x6,x7,x8,x9,x10,x11,x12,x13]:=
 (((h.aT 1 v0 #[x0,v0,v2',v3',v4',x5,x6,x7,x8,x9,x10,x11,x12,x13] rfl ag).aT 2 v1 #[x0,v0,v1,v3',v4',x5,x6,x7,x8,x9,x10,x11,x12,x13] rfl ag).aT 3 v2 #[x0,v0,v1,v2,v4',x5,x6,x7,x8,x9,x10,x11,x12,x13] rfl ag).aT 4 v3 _ rfl ag
def CU p:Cq 93 #[.pointer<|some p] w λe w'=>∃b,e=.returned (Mv b)/\w.heap.size<=b/\MS jv w' b [(vM,.func (.func 137) #[.pointer<|some p] #[]),(J9,.func (.func 138) #[.pointer<|some p] #[]),(nD,.func (.func 139) #[.pointer<|some p] #[])]/\Bq w w':=
 (Gp p).mono λe w' q=>⟨_,q.1,br _,q.2⟩
section
variable {m:MV}
def adA(h:RD w rb sb m s t k)i:Cq 78 #[Pv rb,Iv i] w λe w'=>e=.returned (.agg #[Iv i,Nv k])/\Bq w w':=by
 have⟨c,f,z⟩:=h.bx.alloc<|Cv #[Iv 0,Iv 0] 119;go_enter func78,ntmps78
 go_wp2
 exact bodyPost_ret (v:=Av #[Iv i,Nv k]) (by simp[results,Tryz.results78,go_sem]) rfl ⟨rfl,bw _⟩
def xL(h:RD w rb sb m s t k):Cq 98 #[Pv rb] w λe w'=>e=.returned (.agg #[Iv 3,Nv t.aF,Nv t.to])/\Bq w w':=by
 have⟨c,f,z⟩:=h.bx.alloc<|Cv #[Iv 0,Iv 0,Iv 0] 198;go_enter func98,ntmps98
 go_wp2
 go_region
 go_wp2
 exact bodyPost_ret (v:=Av #[Iv 3,Nv t.aF,Nv t.to]) (by simp[results,Tryz.results98,go_sem]) rfl ⟨rfl,(bw _).drew⟩
def Bx.oH{w}(h:Bx w b C):Bx w.drew b C:=h.below (jq _ _).drew
def Ke.J_ rb w j v:Ke rb w (w.setCell ⟨rb,j,none⟩ v):=⟨rfl,rfl,rfl,zJ,λk _ hn=>jp _ _ _ _ hn⟩
def Ke.gE{rb}{b c}(h:Ke rb a b)(k:Bq b c):Ke rb a c:=h.trans<|Ke.of k
abbrev mI(t:jd):Array Value:=#[Nv t.aF,Nv t.to,.string<|aA t,.string t.text]
def Bx.bR{w}(h:Bx w b C)(hn:b≠b2)j v:Bx (w.setCell ⟨b2,j,none⟩ v) b C:=
 h.same zJ (jp _ _ _ _ hn)
def Bx.ajN{w}(h:Bx w b C)(hn:b≠b2)v0 v1 v2 v3:Bx ((((w.setCell ⟨b2,0,none⟩ v0).setCell ⟨b2,1,none⟩ v1).setCell ⟨b2,2,none⟩ v2).setCell ⟨b2,3,none⟩ v3) b C:=
 (((h.bR hn 0 v0).bR hn 1 v1).bR hn 2 v2).bR hn 3 v3
def Ke.ahd{rb}{w}(h:Ke rb a w)v0 v1 v2 v3:Ke rb a ((((w.setCell ⟨rb,1,none⟩ v0).setCell ⟨rb,2,none⟩ v1).setCell ⟨rb,3,none⟩ v2).setCell ⟨rb,4,none⟩ v3):=
 (((h.trans<|Ke.J_ rb _ 1 v0).trans<|Ke.J_ rb _ 2 v1).trans<|Ke.J_ rb _ 3 v2).trans (Ke.J_ rb _ 4 v3)
def Ke.Ru{rb}{w}(h:Ke rb a w)(hb:a.heap.size<=b)v0 v1 v2 v3:Ke rb a ((((w.setCell ⟨b,0,none⟩ v0).setCell ⟨b,1,none⟩ v1).setCell ⟨b,2,none⟩ v2).setCell ⟨b,3,none⟩ v3):=
 (((h.py hb 0 v0).py hb 1 v1).py hb 2 v2).py hb 3 v3
def kO rb sb m s(t:jd)w e w':=
 Ke rb w w'/\(((aD s t.to).kind≠6/\e=.returned (dC t)/\RD w' rb sb m s (aD s t.to) t.to)\/((aD s t.to).kind=6/\e=bU (eK<|aD s t.to)))
def AA(h:RD w rb sb m s t k)(hs:s.size<=1000)(ht:t.to<=s.size):Cq 99 #[Pv rb] w (kO rb sb m s t w):=by
 have hz:=h.bx.z;have ZR:rb≠w.heap.size:=ae;have amS:rb≠w.heap.size+1:=ae;have R1:=ai<|(((h.bx.aT 5 (Nv t.to) (rdC s t t.to m sb) rfl ag).alloc (Cv AB 203)).alloc (Cv (mI t) 203)).oH;have D1:Hid (Bx ((((w.setCell ⟨rb,5,none⟩<|Nv t.to).alloc<|Cv AB 203).alloc<|Cv (mI t) 203).drew) (w.heap.size+1)<|mI t):=ai (by have:=(Bx.new ((w.setCell ⟨rb,5,none⟩<|Nv t.to).alloc<|Cv AB 203) (mI t) 203).oH;simpa[World.setCell]using this);have D0:Hid (Bx ((((w.setCell ⟨rb,5,none⟩<|Nv t.to).alloc<|Cv AB 203).alloc<|Cv (mI t) 203).drew) w.heap.size AB):=ai (by have:=((Bx.new (w.setCell ⟨rb,5,none⟩<|Nv t.to) AB 203).alloc<|Cv (mI t) 203).oH;simpa[World.setCell]using this);have K1:Hid (Ke rb w<|(((w.setCell ⟨rb,5,none⟩<|Nv t.to).alloc<|Cv AB 203).alloc<|Cv (mI t) 203).drew):=ai<|(Ke.J_ rb w 5<|Nv t.to).gE<|((bw _).alloc ag _).drew;have E:∀W,Laid W->Cq 97 #[Sv s,Nv t.to] W (eM (aD s t.to) W):=λW hW=>J' hW s t.to ht hs;have hla:=λW(hW:Ke rb w W)=>h.la.ke hW h.h2;have⟨c,f,z⟩:=h.bx;have⟨c1,f1,z1⟩:=uh R1;unfold kO;generalize aD s t.to=T at E⊢;by_cases hk:T.kind=6
 .go_enter func99,ntmps99
  go_wp2
  go_region_dies
  all_goals(refine(E _<|hla _ K1).mono ?_;intro e w2 hp;obtain⟨rfl,hb⟩:=hp.bad hk;exact⟨rfl,K1.gE hb,Or.inr ⟨hk,by rw[afI T hk];rfl⟩⟩)
 .go_enter func99,ntmps99
  go_wp2
  go_region_with(go_at_call 97;refine(E _<|hla _ K1).mono ?_;intro e w2 hp;obtain⟨rfl,hb⟩:=hp.ok hk;have K2:=ai<|K1.gE hb;have R2:=ai<|R1.below hb;have D2:=ai<|D1.below hb;have G2:=ai<|D0.below hb;have⟨c2,f2,z2⟩:=uh R2;have⟨d2,e2,y2⟩:=uh D2;have⟨g2,h2,x2⟩:=uh G2;clear hb)
  all_goals(
   go_wp2_with fail;have hx:Bx w2 rb (rdC s t t.to m sb):=uh R2;have F:=R2.ZQ (Nv T.aF) (Nv T.to) (Sv<|aA T)<|Sv T.text;have F2:=F.ajN ZR (Nv t.aF) (Nv t.to) (Sv<|aA t)<|Sv t.text;have G3:=((((G2.bR ZR.symm 1<|Nv T.aF).bR ZR.symm 2<|Nv T.to).bR ZR.symm 3<|Sv<|aA T).bR ZR.symm 4<|Sv T.text).nE rfl (Nv t.aF) (Nv t.to) (Sv<|aA t) (Sv t.text);have K3:=(K2.ahd (Nv T.aF) (Nv T.to) (Sv<|aA T)<|Sv T.text).Ru (b:=w.heap.size) (br _) (Nv t.aF) (Nv t.to) (Sv<|aA t)<|Sv t.text;obtain⟨g3,_,_⟩:=G3
   exact bodyPost_ret (v:=dC t) (by simp[results,Tryz.results99,go_sem,g3,dC]) rfl ⟨K3,Or.inl ⟨hk,rfl,h.ke K3 F2⟩⟩)
end
def kO.ok{m:MV}(h:kO rb sb m s t w e w')(hk:(aD s t.to).kind≠6):e=.returned (.agg #[Nv t.aF,Nv t.to,.string<|aA t,.string t.text])/\Ke rb w w'/\RD w' rb sb m s (aD s t.to) t.to:=by
 obtain⟨hb,⟨_,he,hr⟩|⟨hn,_⟩⟩:=h
 .exact⟨he,hb,hr⟩
 .exact absurd hn hk
def kO.bad{m:MV}(h:kO rb sb m s t w e w')(hk:(aD s t.to).kind=6):e=bU (eK<|aD s t.to)/\Ke rb w w':=by
 obtain⟨hb,⟨hn,_⟩|⟨_,he⟩⟩:=h
 .exact absurd hk hn
 .exact⟨he,hb⟩
def Ke.uf(h:Ke rb a w)(hb:a.heap.size<=b)v0 v1 v2:Ke rb a (((w.setCell ⟨b,0,none⟩ v0).setCell ⟨b,1,none⟩ v1).setCell ⟨b,2,none⟩ v2):=
 ((h.py hb 0 v0).py hb 1 v1).py hb 2 v2
def RD.set{m:MV}(h:RD w rb sb m s t k)(h1:b≠rb)(h2:b≠sb)(h3:3<=b)j v:RD (w.setCell ⟨b,j,none⟩ v) rb sb m s t k:=by
 have hk:=Ke.J_ b w j v;exact⟨h.bx.bR h1.symm j v,h.sm.u_ h2.symm j v,h.ne,h.la.ke hk h3,h.h2⟩
def RD.nE{m:MV}(h:RD w rb sb m s t k)(h1:b≠rb)(h2:b≠sb)(h3:3<=b)v0 v1 v2 v3:RD ((((w.setCell ⟨b,0,none⟩ v0).setCell ⟨b,1,none⟩ v1).setCell ⟨b,2,none⟩ v2).setCell ⟨b,3,none⟩ v3) rb sb m s t k:=
 (((h.set h1 h2 h3 0 v0).set h1 h2 h3 1 v1).set h1 h2 h3 2 v2).set h1 h2 h3 3 v3
def RD.Gn{m:MV}(h:RD w rb sb m s t k)(h1:b≠rb)(h2:b≠sb)(h3:3<=b)v0 v1 v2:RD (((w.setCell ⟨b,0,none⟩ v0).setCell ⟨b,1,none⟩ v1).setCell ⟨b,2,none⟩ v2) rb sb m s t k:=
 ((h.set h1 h2 h3 0 v0).set h1 h2 h3 1 v1).set h1 h2 h3 2 v2
def Bx.Gq(h:Bx w b C)(hb:Ke rb w w')(hn:b≠rb):Bx w' b C:=h.same hb.size<|hb.block b h.z hn
section
variable {m:MV}
def RD.new_ne(h:RD w rb sb m s t k):w.heap.size≠rb/\w.heap.size≠sb/\3<=w.heap.size:=by
 have h1:=h.bx.z;have h2:=h.sm.lt;have h3:=h.la.hz;omega
def iL(h:RD w rb sb m s t k)(hs:s.size<=1000)(ht:t.to<=s.size)kd(MP:((aA t).toList==kd.toList)=true):Cq 75 #[Pv rb,.string kd] w (kO rb sb m s t w):=by
 have⟨n1,n2,n3⟩:=h.new_ne;have HA:=h.af<|bw<|Cv AB 203;have G0:=Bx.new w AB 203;have K0:=Ke.of (rb:=rb)<|(jq _ w).alloc (br _)<|Cv AB 203;have⟨c,f,z⟩:=HA.bx;by_cases hk:(aD s t.to).kind=6
 .go_enter func75,ntmps75;go_wp2_with(go_at_call 99;refine(AA HA hs ht).mono ?_;intro e w1 hp;obtain⟨rfl,hb⟩:=hp.bad hk;have K1:=ai<|K0.trans hb;clear hb);exact⟨rfl,K1,Or.inr ⟨hk,rfl⟩⟩
 .go_enter func75,ntmps75;go_wp2_with(go_at_call 99;refine(AA HA hs ht).mono ?_;intro e w1 hp;obtain⟨rfl,hb,hr⟩:=hp.ok hk;have K1:=ai<|K0.trans hb;have G1:=ai<|G0.Gq hb n1;have R1:=ai hr;have⟨g,gf,gz⟩:=uh G1;clear hb hr);have BF:=G1.nE rfl (Nv t.aF) (Nv t.to) (Sv<|aA t) (Sv t.text);obtain⟨cF,fF,zF⟩:=BF;exact bodyPost_ret (v:=dC t) (by simp[results,Tryz.results75,go_sem,cF,dC]) rfl ⟨K1.Ru (br _) _ _ _ _,Or.inl ⟨hk,rfl,R1.nE n1 n2 n3 _ _ _ _⟩⟩
def Gs(h:RD w rb sb m s t k)kd(MP:((aA t).toList==kd.toList)=false)(ht:t.kind≠6):Cq 75 #[Pv rb,.string kd] w λe w'=>e=bU (eK t)/\Ke rb w w':=by
 have HA:=h.af<|bw<|Cv AB 203;have K0:=Ke.of (rb:=rb)<|(Below.refl _ w).alloc (br _)<|Cv AB 203;have⟨c,f,z⟩:=HA.bx;go_enter func75,ntmps75;go_wp2_with(go_at_call 98;refine(xL HA).mono ?_;rintro e w1⟨rfl,hb⟩;have K1:=ai<|K0.gE hb;clear hb);exact⟨rfl,by rw[eK,if_neg ht];rfl,K1⟩
def ZS(h:RD w rb sb m s t k)(hs:s.size<=1000)(ht:t.to<=s.size)kd(MP:((aA t).toList==kd.toList)=true):Cq 77 #[Pv rb,.string kd] w λe w'=>Ke rb w w'/\(((aD s t.to).kind≠6/\e=.returned (.bool true)/\RD w' rb sb m s (aD s t.to) t.to)\/((aD s t.to).kind=6/\e=bU (eK<|aD s t.to))):=by
 have⟨c,f,z⟩:=h.bx;have HA:=ai h;by_cases hk:(aD s t.to).kind=6
 .go_enter func77,ntmps77;go_wp2_with(go_at_call 99;refine(AA HA hs ht).mono ?_;intro e w1 hp;obtain⟨rfl,hb⟩:=hp.bad hk;have K1:=ai hb;clear hb);exact⟨rfl,K1,Or.inr ⟨hk,rfl⟩⟩
 .go_enter func77,ntmps77;go_wp2_with(go_at_call 99;refine(AA HA hs ht).mono ?_;intro e w1 hp;obtain⟨rfl,hb,hr⟩:=hp.ok hk;have K1:=ai hb;have R1:=ai hr;clear hb hr);go_ret;exact⟨K1,Or.inl ⟨hk,rfl,R1⟩⟩
def adB(h:RD w rb sb m s t k)kd(MP:((aA t).toList==kd.toList)=false):Cq 77 #[Pv rb,.string kd] w λe w'=>e=.returned (.bool false)/\w'=w:=by
 have⟨c,f,z⟩:=h.bx;go_enter func77,ntmps77
 go_wp2
 go_ret;exact⟨rfl,rfl⟩
end
def oA(s:BA):=∃x r,s.toList=x::r/\Pu.Ax x.toNat=true
structure gF(t:jd):Prop where
 kd:t.kind=1\/t.kind=2\/t.kind=3\/t.kind=4\/t.kind=5\/t.kind=6\/t.kind=7
 s5:t.kind=5->t.text.size<=5
 v3:t.kind=3->∃r,t.text.toList=39::r
 v2:t.kind=2->oA t.text
def Oy(h:Pu.fX s=true):s.size<=5:=by
 rw[Pu.fX]at h;rw[List.any_eq_true]at h;obtain⟨x,hx,he⟩:=h;rw[beq_iff_eq]at he;have:s.toList.length<=5:=by
  rw[<-he];clear he;revert x;simp[Pu.words,ja];decide
 rw[ja]at this;simpa using this
def nF{i j}(hi:i<s.size)(hj:i<j):(s.extract i j).toList=s[i]::(s.extract (i+1) j).toList:=by
 rw[ja,ja,ju,ju];apply List.ext_getElem?;intro k
 cases k with
 |zero=>
  simp;rw[jl ae];simp;rw[Array.getElem?_eq_getElem qBl];rfl
 |succ k=>
  simp;by_cases hk:k+1<j-i
  .rw[jl hk,jl ae];simp;congr 1;omega
  .rw[List.getElem?_take_eq_none ae,List.getElem?_take_eq_none ae]
def ZT s i(hi:i<s.size):gF (jf s i):=by
 rw[jf];have ex:∀a b:Nat,(s.extract a b).size<=b-a:=λa b=>by simp[jt];omega
 repeat' split
 all_goals refine⟨by simp[ji],?_,?_,?_⟩
 all_goals intro q
 all_goals try(exfalso;simp[ji]at q;done)
 .rename_i h;exact Oy h
 .rename_i h2;have Jl:=jj s jh i;have hup:jh (Pu.at_ s i)=true:=by rw[jh];simp[h2]
  have hgt:i<Pu.aM s jh i:=by rw[Pu.fY hi hup];exact jy (Nat.lt_succ_self i)<|jj s jh<|i+1
  exact⟨_,_,nF hi hgt,by rw[<-Pu.n9 hi];exact h2⟩
 .rename_i h3 h4;have Nj:s[i].toNat=39:=by rw[<-Pu.n9 hi];exact h3.1
  have Jl:=jj s jh<|i+1;have e9:s[i]=39:=UInt8.toNat_inj.1 Nj;exact⟨_,by rw[<-e9];exact nF hi ae⟩
 .exact jx (ex _ _) ae
 .exact jx (ex _ _) ae
theorem Oz s p:gF (aD s p):=by
 rw[aD];split
 .rename_i h;exact ZT s _ h
 .exact⟨qBr,qBr,qBr,qBr⟩
theorem AD s p:(aD s p).to<=s.size:=by
 rw[aD];split
 .rename_i h;exact(jk s _ h).2
 .simp[Pu.gB]
def D7 s:∀k,k<(jc s 0).length->(jc s 0).drop k=jc s (aR (jc s 0) k)/\aR (jc s 0) k<=s.size:=by
 intro k
 induction k with
 |zero=>intro _;exact⟨by simp[aR],by simp[aR]⟩|succ k ih=>
  intro hk;have⟨h1,h2⟩:=ih ae;have h3:=jZ s (aR (jc s 0) k) h2;rw[<-h1]at h3;have hd:(jc s 0).drop k=tk (jc s 0) k::(jc s 0).drop (k+1):=by
   rw[<-afJ ae];exact jm ae
  have hl:((jc s 0).drop<|k+1).length≠0:=bD;rw[hd]at h3;split at h3
  .grind
  .injection h3 with h4 h5;rw[<-h4]at h5;refine⟨?_,?_⟩
   .rw[h5];simp[aR]
   .simp only[aR,Nat.add_sub_cancel];rw[if_neg ae,h4];exact AD s _
theorem jM s k(hk:k<(jc s 0).length):tk (jc s 0) k=aD s (aR (jc s 0) k):=by
 have⟨h1,h2⟩:=D7 s k hk;have h3:=jZ s (aR (jc s 0) k) h2;rw[<-h1]at h3;have hd:(jc s 0).drop k=tk (jc s 0) k::(jc s 0).drop (k+1):=by
  rw[<-afJ hk];exact jm hk
 rw[hd]at h3;split at h3
 .rename_i h7;injection h3 with h4 _;rw[h4];rw[aD]at h7⊢;split at h7
  .exfalso;revert h7;rw[jf];repeat' split
   all_goals simp[ji]
  .rename_i hn;rw[if_neg hn]
 .grind
def eC s k(hk:k<(jc s 0).length):gF (tk (jc s 0) k):=by grind[tk,jM,Oz]
def rD s k(hk:k<(jc s 0).length):(tk (jc s 0) k).to<=s.size:=by grind[tk,jM,AD]
def Rw s k(hk:k<(jc s 0).length)(h7:(tk (jc s 0) k).kind≠7):k+1<(jc s 0).length/\aD s (tk (jc s 0) k).to=tk (jc s 0) (k+1)/\aR (jc s 0) (k+1)=(tk (jc s 0) k).to:=by
 have hl:aR (jc s 0) (k+1)=(tk (jc s 0) k).to:=by simp[aR]
 have⟨h1,h2⟩:=D7 s k hk;have h3:=jZ s (aR (jc s 0) k) h2;rw[<-h1,<-jM s k hk,if_neg h7]at h3;have cR:jc s (tk (jc s 0) k).to≠[]:=by
  rw[jZ s _<|rD s k hk];split<;>simp
 have bA:k+1<(jc s 0).length:=by
  have:=congrArg jo h3;simp at this;have h5:0<(jc s (tk (jc s 0) k).to).length:=Cc;omega
 exact⟨bA,by rw[<-hl,<-jM s (k+1) bA],hl⟩
def jN(h:t.kind=1):aA t=⟨#[108,111,119,32,110,97,109,101]⟩:=by grind[aA]
def iw(h:t.kind=2):aA t=⟨#[117,112,32,110,97,109,101]⟩:=by grind[aA]
def iy(h:t.kind=3):aA t=⟨#[97,32,118,97,114,105,97,98,108,101]⟩:=by grind[aA]
def jO(h:t.kind=4):aA t=⟨#[97,32,110,117,109,98,101,114]⟩:=by grind[aA]
def qI(h:t.kind=5):aA t=t.text:=by grind[aA]
def jP(h:t.kind=7):aA t=⟨#[116,104,101,32,101,110,100]⟩:=by grind[aA]
def ZU(h:gF t)(hk:t.kind≠6){kd}(hs:kd.size<=2):((aA t).toList==kd.toList)=aX t kd:=by
 have hkl:kd.toList.length<=2:=by rw[ja];simpa using hs
 have key:∀(l:BA),2<l.toList.length->(l.toList==kd.toList)=false:=Cc;rw[aX];obtain h|h|h|h|h|h|h:=h.kd
 .rw[jN h,key _ qAp,h];rfl
 .rw[iw h,key _ qAp,h];rfl
 .rw[iy h,key _ qAp,h];rfl
 .rw[jO h,key _ qAp,h];rfl
 .rw[qI h,h];simp
 .exact absurd h hk
 .rw[jP h,key _ qAp,h];rfl
def mJ(h:gF t)(hk:t.kind≠6){kd:BA}(hs:5<kd.size)(h5:t.kind=5):((aA t).toList==kd.toList)=false:=by
 rw[<-Bool.not_eq_true,beq_iff_eq];intro e;have:aA t=t.text:=by rw[aA];simp[h5]
 rw[this]at e;have h1:=h.s5 h5;have h2:=congrArg jo e;rw[ja,ja]at h2;simp at h2;omega
def Gt(h:gF t)(hk:t.kind≠6):((aA t).toList==J9.toList)=(t.kind==2):=by
 obtain h'|h'|h'|h'|h'|h'|h':=h.kd
 .rw[jN h',h'];simp[ja]
 .rw[iw h',h'];simp[ja]
 .rw[iy h',h'];simp[ja]
 .rw[jO h',h'];simp[ja]
 .rw[mJ h hk aw h'];simp[h']
 .exact absurd h' hk
 .rw[jP h',h'];simp[ja]
def Ka(h:gF t)(hk:t.kind≠6):((aA t).toList==[116,104,101,32,101,110,100])=(t.kind==7):=by
 obtain h'|h'|h'|h'|h'|h'|h':=h.kd
 .rw[jN h',h'];simp[ja]
 .rw[iw h',h'];simp[ja]
 .rw[iy h',h'];simp[ja]
 .rw[jO h',h'];simp[ja]
 .have:=mJ (kd:=⟨#[116,104,101,32,101,110,100]⟩) h hk aw h';rw[show(ByteArray.mk #[116,104,101,32,101,110,100]).toList=[116,104,101,32,101,110,100]from toList_mk _]at this;rw[this];simp[h']
 .exact absurd h' hk
 .rw[jP h',h'];simp[ja]
def D8(h:gF t)(hk:t.kind≠6)rb:a_ (aA t) (smL rb)=if t.kind=3 then some (.func (.func 137) #[Pv rb] #[])else if t.kind=2 then some (.func (.func 138) #[Pv rb] #[])else if aX t nD=true then some (.func (.func 139) #[Pv rb] #[])else none:=by
 have e1:∀(x:BA),(x=aA t)↔((aA t).toList==x.toList)=true:=λx=>by
  rw[beq_iff_eq,ja,ja];constructor
  .intro q;rw[q]
  .intro q
   cases x;cases hq:aA t
   rw[hq]at q;simp at q;congr 1;exact q.symm
 rw[smL,a_];rw[a_];rw[a_];rw[a_];simp only[e1];rw[Gt h hk,ZU h hk (kd:=nD) aw];obtain h'|h'|h'|h'|h'|h'|h':=h.kd
 .have:((aA t).toList==vM.toList)=false:=by rw[jN h'];simp[ja]
  rw[this];simp[h',aX]
 .have:((aA t).toList==vM.toList)=false:=by rw[iw h'];simp[ja]
  rw[this];simp[h']
 .have:((aA t).toList==vM.toList)=true:=by rw[iy h'];simp[ja]
  rw[this];simp[h']
 .have:((aA t).toList==vM.toList)=false:=by rw[jO h'];simp[ja]
  rw[this];simp[h',aX]
 .rw[mJ h hk aw h'];simp[h']
 .exact absurd h' hk
 .have:((aA t).toList==vM.toList)=false:=by rw[jP h'];simp[ja]
  rw[this];simp[h',aX]
def cx rb sb m s(t:jd)v w e w':=
 Ke rb w w'/\(((aD s t.to).kind≠6/\e=.returned v/\RD w' rb sb m s (aD s t.to) t.to)\/((aD s t.to).kind=6/\e=bU (eK<|aD s t.to)))
def cx.ok{m:MV}(h:cx rb sb m s t v w e w')(hk:(aD s t.to).kind≠6):e=.returned v/\Ke rb w w'/\RD w' rb sb m s (aD s t.to) t.to:=by grind[cx,aD]
def cx.bad{m:MV}(h:cx rb sb m s t v w e w')(hk:(aD s t.to).kind=6):e=bU (eK<|aD s t.to)/\Ke rb w w':=by grind[cx,aD,eK]
inductive PT(w:World)(P:Nat->Prop):Nd->Value->Prop where
 |var(s:BA)(n f t a:Nat)(x y:Int)(hq:∃r,s.toList=39::r)(hx:x=(f:Int))(hy:y=((f+s.size:Nat):Int)):PT w P (.mk 16 s n [] f t a) (.iface 143<|.agg #[Iv x,Iv y,.string<|s.extract 1 s.size])
 |fn(s:BA)(n:Nat)(a b:Nd)(f t at_:Nat)(x y:Int)(va vb:Value)(ha:PT w P a va)(hb:PT w P b vb):PT w P (.mk 17 s n [a,b] f t at_) (.iface 145<|.agg #[Iv x,Iv y,va,vb])
 |pr(s:BA)(n:Nat)(a b:Nd)(f t at_:Nat)(x y:Int)(va vb:Value)(ha:PT w P a va)(hb:PT w P b vb):PT w P (.mk 6 s n [a,b] f t at_) (.iface 147<|.agg #[Iv x,Iv y,va,vb])
 |up(s:BA)(n:Nat)(L:List Nd)(f t at_:Nat)(x y x' y':Int)(sa:Option Addr)(sc:Nat)(vs:Nat->Value)(hu:oA s)(aN:L=[]\/∃g,sa=some ⟨g,0,none⟩/\P g/\g<w.heap.size/\∀i,i<L.length->w.cell? ⟨g,i,none⟩=some (vs i))(hr:∀i(h:i<L.length),PT w P L[i]<|vs i)(hx:x'=(at_:Int))(hy:y'=((at_+s.size:Nat):Int)):
  PT w P (.mk 2 s n L f t at_) (.iface 150<|.agg #[Iv x,Iv y,Iv x',Iv y',.string s,.slice sa L.length sc])
theorem PT.move(h:PT w P nd v)(hs:w.heap.size<=w'.heap.size)(hb:∀b,P b->b<w.heap.size->w'.heap[b]? =w.heap[b]?)(hq:∀b,P b->b<w.heap.size->Q b):PT w' Q nd v:=by
 induction h with
 |var s n f t a x y hq hx hy=>exact .var s n f t a x y hq hx hy|fn s n a b f t at_ x y va vb _ _ Nz NA=>exact .fn s n a b f t at_ x y va vb Nz NA|pr s n a b f t at_ x y va vb _ _ Nz NA=>exact .pr s n a b f t at_ x y va vb Nz NA|up s n L f t at_ x y x' y' sa sc vs hu aN hr hx hy ih=>
  refine .up s n L f t at_ x y x' y' sa sc vs hu ?_ ih hx hy;obtain h0|⟨g,h1,hP,hz,hc⟩:=aN
  .exact Or.inl h0
  .refine Or.inr ⟨g,h1,hq g hP hz,jy hz hs,λi hi=>?_⟩;rw[World.cell?_of_block (a:=⟨g,i,none⟩) (w:=w)<|hb g hP hz];exact hc i hi
def PT.af(h:PT w P nd v)(hb:Bq w w'):PT w' P nd v:=h.move hb.size (λb _ hz=>hb.block b hz)<|λ_ p _=>p
def PT.ke(h:PT w P nd v)(hb:Ke rb w w')(hn:∀b,P b->b≠rb):PT w' P nd v:=h.move hb.size (λb p hz=>hb.block b hz<|hn b p)<|λ_ p _=>p
def PT.wide(h:PT w P nd v)(hq:∀b,P b->Q b):PT w Q nd v:=h.move (br _) (λ_ _ _=>rfl)<|λb p _=>hq b p
def ZV s i(hi:i<s.size):(jf s i).to=(jf s i).aF+(jf s i).text.size:=by
 have ht:=jk s i hi;revert ht;rw[jf];have ex:∀k b:Nat,i<b->b<=s.size->(ji s i k b).to=(ji s i k b).aF+(ji s i k b).text.size:=λk b h1 h2=>by
  show b=i+(s.extract i b).size;rw[jt];omega
 repeat' split
 all_goals intro ht
 all_goals exact ex _ _ ht.1 ht.2
def afK s k(hk:k<(jc s 0).length):(tk (jc s 0) k).to=(tk (jc s 0) k).aF+(tk (jc s 0) k).text.size:=by
 rw[jM s k hk];rw[aD];split
 .rename_i h;exact ZV s _ h
 .simp[Pu.gB];rfl
def fin{α:Type}(T:List jd):Except Fl (α×Nat)->Except Fl (α×Nat)
 |.error f=>.error f|.ok (a,k)=>if(tk T k).kind=6 then .error (eK<|tk T k)else .ok (a,k)
def Bx.fW(h:Bx w b C)(hC:C.size=3)v0 v1 v2:Bx (((w.setCell ⟨b,0,none⟩ v0).setCell ⟨b,1,none⟩ v1).setCell ⟨b,2,none⟩ v2) b #[v0,v1,v2]:=by
 obtain⟨a0,a1,a2,rfl⟩:∃a0 a1 a2,C=#[a0,a1,a2]:=by
  obtain⟨l⟩:=C
  match l,hC with
  |[a,b,c],_=>grind
 exact((h.aT 0 v0 #[v0,a1,a2] rfl ag).aT 1 v1 #[v0,v1,a2] rfl ag).aT 2 v2 #[v0,v1,v2] rfl ag
section
variable {m:MV}
abbrev zNm:Array Value:=#[Iv 0,Iv 0,.string ⟨#[]⟩]
def OA(h:RD w rb sb m s t k)(hs:s.size<=1000)(ht:t.to<=s.size)kd(MP:((aA t).toList==kd.toList)=true):Cq 101 #[Pv rb,.string kd] w (cx rb sb m s t (.agg #[Nv t.aF,Nv t.to,.string t.text]) w):=by
 have⟨n1,n2,n3⟩:=h.new_ne;have HA:=h.af<|bw<|Cv zNm 121;have G0:=Bx.new w zNm 121;have K0:=Ke.of (rb:=rb)<|(jq _ w).alloc (br _)<|Cv zNm 121;by_cases hk:(aD s t.to).kind=6
 .go_enter func101,ntmps101;go_wp2_with(go_at_call 75;refine(iL HA hs ht kd MP).mono ?_;intro e w1 hp;obtain⟨rfl,hb⟩:=hp.bad hk;have K1:=ai<|K0.trans hb;clear hb);exact⟨rfl,K1,Or.inr ⟨hk,rfl⟩⟩
 .go_enter func101,ntmps101;go_wp2_with(go_at_call 75;refine(iL HA hs ht kd MP).mono ?_;intro e w1 hp;obtain⟨rfl,hb,hr⟩:=hp.ok hk;have K1:=ai<|(K0.trans hb).gE<|bw<|Cv (mI t) 203;have G1:=ai<|(G0.Gq hb n1).alloc<|Cv (mI t) 203;have R1:=ai<|hr.af<|bw<|Cv (mI t) 203;have⟨g,gf,gz⟩:=uh G1;clear hb hr);have BF:=G1.fW rfl (Nv t.aF) (Nv t.to) (Sv t.text);obtain⟨cF,fF,zF⟩:=BF;exact bodyPost_ret (v:=Av #[Nv t.aF,Nv t.to,Sv t.text]) (by simp[results,Tryz.results101,go_sem,cF]) rfl ⟨K1.uf (br _) _ _ _,Or.inl ⟨hk,rfl,R1.Gn n1 n2 n3 _ _ _⟩⟩
def adC(h:RD w rb sb m s t k)kd(MP:((aA t).toList==kd.toList)=false)(ht:t.kind≠6):Cq 101 #[Pv rb,.string kd] w λe w'=>e=bU (eK t)/\Ke rb w w':=by
 have HA:=h.af<|bw<|Cv zNm 121;have K0:=Ke.of (rb:=rb)<|(Below.refl _ w).alloc (br _)<|Cv zNm 121;go_enter func101,ntmps101;go_wp2_with(go_at_call 75;refine(Gs HA kd MP ht).mono ?_;rintro e w1⟨rfl,hb⟩;have K1:=ai<|K0.trans hb;clear hb);exact⟨rfl,rfl,K1⟩
def kP(h:RD w rb sb m s t k)(hs:s.size<=1000)(ht:t.to<=s.size)(sJ:t.kind=3)(ho:gF t):Cq 168 #[Pv rb] w (cx rb sb m s t (.agg #[Nv t.aF,Nv t.to,.string<|t.text.extract 1 t.text.size]) w):=by
 have⟨n1,n2,n3⟩:=h.new_ne;have HA:=h.af<|bw<|Cv zNm 121;have G0:=Bx.new w zNm 121;have K0:=Ke.of (rb:=rb)<|(jq _ w).alloc (br _)<|Cv zNm 121;have MP:((aA t).toList==vM.toList)=true:=by rw[iy sJ];simp[ja]
 have fK:(1:Int)<=(t.text.size:Int):=by
  have⟨r,hr⟩:=ho.v3 sJ;have:=congrArg jo hr;rw[ja]at this;simp at this;have e:t.text.size=t.text.data.size:=rfl;omega
 by_cases hk:(aD s t.to).kind=6
 .go_enter func168,ntmps168;go_wp2_with(go_at_call 75;refine(iL HA hs ht vM MP).mono ?_;intro e w1 hp;obtain⟨rfl,hb⟩:=hp.bad hk;have K1:=ai<|K0.trans hb;clear hb);exact⟨rfl,K1,Or.inr ⟨hk,rfl⟩⟩
 .go_enter func168,ntmps168;go_wp2_with(go_at_call 75;refine(iL HA hs ht vM MP).mono ?_;intro e w1 hp;obtain⟨rfl,hb,hr⟩:=hp.ok hk;have K1:=ai<|(K0.trans hb).gE<|bw<|Cv (mI t) 203;have G1:=ai<|(G0.Gq hb n1).alloc<|Cv (mI t) 203;have R1:=ai<|hr.af<|bw<|Cv (mI t) 203;have⟨g,gf,gz⟩:=uh G1;clear hb hr);go_region;go_wp2_with fail;have BF:=(G1.fW rfl (Nv t.aF) (Nv t.to) (Sv<|t.text.extract 1 t.text.size)).oH;obtain⟨cF,fF,zF⟩:=BF;exact bodyPost_ret (v:=Av #[Nv t.aF,Nv t.to,Sv<|t.text.extract 1 t.text.size]) (by simp[results,Tryz.results168,go_sem,cF]) rfl ⟨(K1.uf (br _) _ _ _).gE (Below.refl _ _).drew,Or.inl ⟨hk,rfl,(R1.Gn n1 n2 n3 _ _ _).af (Below.refl _ _).drew⟩⟩
def Vm(h:RD w rb sb m s t k)(hs:s.size<=1000)(ht:t.to<=s.size)(sJ:t.kind=3)(ho:gF t):Cq 137 #[Pv rb] w (cx rb sb m s t (.iface 143<|.agg #[Nv t.aF,Nv t.to,.string<|t.text.extract 1 t.text.size]) w):=by
 have HA:=ai h;by_cases hk:(aD s t.to).kind=6
 .go_enter func137,ntmps137;go_wp2_with(go_at_call 168;refine(kP HA hs ht sJ ho).mono ?_;intro e w1 hp;obtain⟨rfl,hb⟩:=hp.bad hk;have K1:=ai hb;clear hb);exact⟨rfl,K1,Or.inr ⟨hk,rfl⟩⟩
 .go_enter func137,ntmps137;go_wp2_with(go_at_call 168;refine(kP HA hs ht sJ ho).mono ?_;intro e w1 hp;obtain⟨rfl,hb,hr⟩:=hp.ok hk;have K1:=ai hb;have R1:=ai hr;clear hb hr);go_ret;exact⟨K1.gE<|bw _,Or.inl ⟨hk,rfl,R1.af<|bw _⟩⟩
def OB(h:RD w rb sb m s t k)(hs:s.size<=1000)(ht:t.to<=s.size)(Na:t.kind=2):Cq 138 #[Pv rb] w (cx rb sb m s t (.iface 150<|.agg #[Nv t.aF,Nv t.to,Nv t.aF,Nv t.to,.string t.text,.slice none 0 0]) w):=by
 have HA:=ai h;have MP:((aA t).toList==J9.toList)=true:=by rw[iw Na];simp[ja]
 by_cases hk:(aD s t.to).kind=6
 .go_enter func138,ntmps138;go_wp2_with(go_at_call 101;refine(OA HA hs ht J9 MP).mono ?_;intro e w1 hp;obtain⟨rfl,hb⟩:=hp.bad hk;have K1:=ai hb;clear hb);exact⟨rfl,K1,Or.inr ⟨hk,rfl⟩⟩
 .go_enter func138,ntmps138;go_wp2_with(go_at_call 101;refine(OA HA hs ht J9 MP).mono ?_;intro e w1 hp;obtain⟨rfl,hb,hr⟩:=hp.ok hk;have K1:=ai hb;have R1:=ai hr;clear hb hr);go_ret;exact⟨K1.gE<|bw _,Or.inl ⟨hk,rfl,R1.af<|bw _⟩⟩
end
def ahe w:(zeroValue 140).run Tryz.prog w=.ok .nilFunc w:=qkr
section
variable {m:MV}
def xM{T}{p}{k}(h:(tk T k).kind=3\/(tk T k).kind=2):aH T p p 1 k=.ok (cN<|tk T k,k+1):=by
 have h5:aX (tk T k) ug=false:=by rw[aX];obtain h|h:=h<;>simp[h]
 rw[aH];rw[if_pos (by rw[aK,bW];obtain h|h:=h<;>simp[h]),if_neg<|by simp[h5]]
def vN(h:gF t):aK t 1=(t.kind==3||t.kind==2||aX t nD):=by
 show(aX t nD||_)=_;rw[if_pos rfl];rw[bW];obtain h|h|h|h|h|h|h:=h.kd<;>simp[h,aX];repeat' split
 all_goals simp
def lH(o:Option Value)(z:Value):Value:=match o with|some v=>.tuple #[v,.bool true]|none=>.tuple #[z,.bool false]
def fid(t:jd):Nat:=if t.kind=3 then 137 else if t.kind=2 then 138 else 139
def ZW(t:jd)args w:(callFunc (fid t) args).run Tryz.prog w=.ok (.enter (fid t) args) w:=by
 rw[fid];split
 .kernel_rfl
 .split<;>kernel_rfl
def adD(ho:gF t)(h6:t.kind≠6)(hb:aK t 1=true):a_ (aA t) (smL rb)=some (.func (.func<|fid t) #[Pv rb] #[]):=by
 rw[D8 ho h6];rw[vN ho]at hb;rw[fid];by_cases h3:t.kind=3
 .simp[h3]
 by_cases h2:t.kind=2
 .simp[h2]
 have:aX t nD=true:=Cc;simp[h2,h3,this]
def ZX(ho:gF t)(h6:t.kind≠6)(hb:aK t 1=false):a_ (aA t) (smL rb)=none:=by
 rw[D8 ho h6];rw[vN ho]at hb;simp at hb;simp[hb]
end
end Go.Proofs.YtlnlhlefeokfjaaGreatDoor

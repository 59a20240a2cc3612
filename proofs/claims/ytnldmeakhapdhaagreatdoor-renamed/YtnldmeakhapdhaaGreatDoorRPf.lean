import Derived.Test.YtnldmeakhapdhaaGreatDoorRPure
import Derived.Test.YtnldmeakhapdhaaGreatDoorRLd0
set_option linter.all false
set_option maxRecDepth 100000
set_option maxHeartbeats 1000000
namespace Go.Proofs.YtnldmeakhapdhaaGreatDoor
open Go.ByteArray renaming toList_eq->ja
open Pu renaming bH->jc,Tok->jd,cX->jf,aX->jh,gV->ji,fy->jj,mD->jk
open _root_.List renaming getElem?_take_of_lt->jl,drop_eq_getElem_cons->jm,length->jo
open Go.RowKit.Below renaming heap_setCell->jp,refl->jq
open _root_.ByteArray renaming size_extract->jt,data_extract->ju
open Go.Value renaming string->jv
open _root_.Nat renaming le_trans->jx,lt_of_lt_of_le->jy
open Go Proofs.Tryz
variable {C:Array Value} {s:BA} {e:Ending} {b b2 k n rb sb:Nat} {P Q:Nat->Prop} {nd:Nd} {t:jd} {κ:Type} {v:Value} {a w w':World}
section
open Go.RowKit Go.ChangeMaps
structure One(b:Nat)(w w':World):Prop where
 os:w'.os=w.os
 tape:w'.tape=w.tape
 output:w'.output=w.output
 size:w'.heap.size=w.heap.size
 block:∀k,k≠b->w'.heap[k]? =w.heap[k]?
def One.set w b o:One b w (setBlock w b o):=⟨rfl,rfl,rfl,by simp[setBlock],λk hk=>by simp[setBlock,Array.getElem?_setIfInBounds,Ne.symm hk]⟩
def One.below(h:Below n a w)(k:One b w w')(hb:n<=b):Below n a w':=
 ⟨k.os.trans h.os,k.tape.trans h.tape,k.output.trans h.output,k.size▸h.size,λi hi=>(k.block i ae).trans<|h.block i hi⟩
def Bx.one{w w':World}{b c:Nat}{C}(h:Bx w b C)(k:One c w w')(hn:b≠c):Bx w' b C:=h.same (by rw[k.size];exact br _)<|k.block b hn
def MS.one{κ:Type}[DecidableEq κ]{enc}{w w':World}{b c:Nat}{L:List (κ×Value)}(h:MS enc w b L)(k:One c w w')(hn:b≠c):MS enc w' b L:=h.same<|k.block b hn
section
variable {P:Program} [DecidableEq κ] {enc:κ->Value} {ok:World->κ->Prop}
def aV w{ops}{rest}{o}{a}{Q}(hg:o.guard=none)m x v t(EB:o.op=Op.insert t m x v\/o.op=Op.mapUpdate t m x v){k e}(K:KL P k enc ok)(ht:P.underlying t=some (.map k e))b L(hm:a.eval m=Mv b)(hM:MS enc w b L)key val(hx:a.eval x=enc key)(hv:a.eval v=val)(h1:ok w key)(h2:∀p∈L,ok w p.1)(hK:∀w',MS enc w' b (bG key val L)->One b w w'->wpList P ops Q rest (a.put o.dst undef) w'):
 wpList P ops Q (o::rest) a w:=by
 refine wpList_plain hg λK' hK'=>?_;have⟨ob,lR,r1⟩:=hM.put K ht key val h1 h2;rw[Oper.wp];obtain EB|EB:=EB<;>
 .simp[execOp,EB,hm,hx,hv,lR,Result.andThen];exact hK' _ _<|hK _ r1<|One.set w b ob
end
abbrev uI:BA:=⟨#[97,32,118,97,114,105,97,98,108,101]⟩
abbrev Jq:BA:=⟨#[117,112,32,110,97,109,101]⟩
abbrev nC:BA:=⟨#[40]⟩
def UM w(e:Ending)w':=∃b,e=.returned (Mv b)/\w.heap.size<=b/\Bq w w'
def Ma.new{w:World}:MS jv (w.alloc<|.map #[] 0) w.heap.size []:=MS.new _ w
def EX p:Cq 61 #[.pointer<|some p] w (λe w'=>e=.returned (Mv w.heap.size)/\MS jv w' w.heap.size [(uI,.func (.func 99) #[.pointer<|some p] #[]),(Jq,.func (.func 100) #[.pointer<|some p] #[]),(nC,.func (.func 101) #[.pointer<|some p] #[])]/\Bq w w'):=by
 have H:=Ma.new (w:=w);have HB:=(Below.refl w.heap.size w).alloc (br _)<|.map #[] 0;have jA:= @run_makeMap Tryz.prog;go_enter func61,ntmps61;go_wp2_with((refine aV _ rfl _ _ _ _ (Or.inl rfl) (KL.str Tryz.underlying139) Tryz.underlying147 _ _ rfl H _ _ rfl rfl trivial (λ_ _=>trivial) ?_;clear H;intro w' H' O';have H:=ai H';have HB:=ai<|One.below HB O' qbr;clear H' O'));go_ret;exact⟨rfl,H,HB⟩
structure MV where
 (a b c d f g h:Value)
abbrev rdC s(t:jd)k(m:MV)sb:=
 #[.string s,Nv t.al,Nv t.to,.string<|aq t,.string t.text,Nv k,m.a,m.b,m.c,m.d,Mv sb,m.f,m.g,m.h]
abbrev smL(rb:Nat):List (BA×Value):=[(uI,.func (.func 99) #[Pv rb] #[]),(Jq,.func (.func 100) #[Pv rb] #[]),(nC,.func (.func 101) #[Pv rb] #[])]
structure RD w rb sb m s(t:jd)k:Prop where
 bx:Bx w rb (rdC s t k m sb)
 sm:MS jv w sb (smL rb)
 ne:sb≠rb
 la:Laid w
 h2:2<=rb
def Laid.ke(h:Laid w)(hk:Ke rb w w')(h2:2<=rb):Laid w':=by
 have c:∀b o,b<2->w'.cell? ⟨b,o,none⟩=w.cell? ⟨b,o,none⟩:=λb o hb=>World.cell?_of_block (a:=⟨b,o,none⟩) (hk.block b (by have:=h.hz;omega) ae);exact⟨λj hj=>(c 1 j ae).trans<|h.words j hj,λj hj=>(c 0 j ae).trans<|h.signs j hj,jx h.hz hk.size⟩
def RD.af{w w'}{rb sb}{m}{s}{t}{k}(h:RD w rb sb m s t k)(hb:Bq w w'):RD w' rb sb m s t k:=
 ⟨h.bx.below hb,h.sm.below hb,h.ne,h.la.af hb,h.h2⟩
def RD.ke{w w'}{rb sb}{m}{s}{t}{k}(h:RD w rb sb m s t k)(hk:Ke rb w w'){t'}{k'}(hb:Bx w' rb (rdC s t' k' m sb)):RD w' rb sb m s t' k':=
 ⟨hb,h.sm.same<|hk.block sb h.sm.lt h.ne,h.ne,h.la.ke hk h.h2,h.h2⟩
def MS.uJ[DecidableEq κ]{enc}{c}{L:List (κ×Value)}(h:MS enc w b L)(hn:b≠c)(j:Nat)(v:Value):MS enc (w.setCell ⟨c,j,none⟩ v) b L:=h.same<|jp _ _ _ _ hn
abbrev zRd s:=#[.string s,Iv 0,Iv 0,.string ⟨#[]⟩,.string ⟨#[]⟩,Iv 0,.map none,.map none,.map none,.map none,.map none,.map none,.map none,.map none]
abbrev guV(f:Fl):Value:=.iface 136<|.agg #[Nv f.kind,Nv f.al,Nv f.to]
abbrev bU(f:Fl):Ending:=.panicked [{v:=guV f,recovered:=false}]
def afc(t:jd)(h:t.kind=6):d_ t=⟨2,t.al,t.to⟩:=by grind[d_]
def Bx.Zb{v1' v2' v3' v4'}{x0 x5 x6 x7 x8 x9 x10 x11 x12 x13}(h:Bx w b #[x0,v1',v2',v3',v4',x5,x6,x7,x8,x9,x10,x11,x12,x13])v0 v1 v2 v3:
 Bx ((((w.setCell ⟨b,1,none⟩ v0).setCell ⟨b,2,none⟩ v1).setCell ⟨b,3,none⟩ v2).setCell ⟨b,4,none⟩ v3) b #[x0,v0,v1,v2,v3,x5,x6,x7,x8,x9,x10,x11,x12,x13]:=
 (((h.aR 1 v0 #[x0,v0,v2',v3',v4',x5,x6,x7,x8,x9,x10,x11,x12,x13] rfl ag).aR 2 v1 #[x0,v0,v1,v3',v4',x5,x6,x7,x8,x9,x10,x11,x12,x13] rfl ag).aR 3 v2 #[x0,v0,v1,v2,v4',x5,x6,x7,x8,x9,x10,x11,x12,x13] rfl ag).aR 4 v3 _ rfl ag
def Cb p:Cq 61 #[.pointer<|some p] w λe w'=>∃b,e=.returned (Mv b)/\w.heap.size<=b/\MS jv w' b [(uI,.func (.func 99) #[.pointer<|some p] #[]),(Jq,.func (.func 100) #[.pointer<|some p] #[]),(nC,.func (.func 101) #[.pointer<|some p] #[])]/\Bq w w':=
 (EX p).mono λe w' q=>⟨_,q.1,br _,q.2⟩
section
variable {m:MV}
def ac6(h:RD w rb sb m s t k)i:Cq 133 #[Pv rb,Iv i] w λe w'=>e=.returned (.agg #[Iv i,Nv k])/\Bq w w':=by
 have⟨c,f,z⟩:=h.bx.alloc<|Cv #[Iv 0,Iv 0] 72;go_enter func133,ntmps133
 go_wp2
 exact bodyPost_ret (v:=Av #[Iv i,Nv k]) (by simp[results,Tryz.results133,go_sem]) rfl ⟨rfl,bw _⟩
def wi(h:RD w rb sb m s t k):Cq 66 #[Pv rb] w λe w'=>e=.returned (.agg #[Iv 3,Nv t.al,Nv t.to])/\Bq w w':=by
 have⟨c,f,z⟩:=h.bx.alloc<|Cv #[Iv 0,Iv 0,Iv 0] 136;go_enter func66,ntmps66
 go_wp2
 go_region
 go_wp2
 exact bodyPost_ret (v:=Av #[Iv 3,Nv t.al,Nv t.to]) (by simp[results,Tryz.results66,go_sem]) rfl ⟨rfl,(bw _).drew⟩
def Bx.gw{w}(h:Bx w b C):Bx w.drew b C:=h.below (jq _ _).drew
def Ke.Jr rb w j v:Ke rb w (w.setCell ⟨rb,j,none⟩ v):=⟨rfl,rfl,rfl,Dd,λk _ hn=>jp _ _ _ _ hn⟩
def Ke.fK{rb}{b c}(h:Ke rb a b)(k:Bq b c):Ke rb a c:=h.trans<|Ke.of k
abbrev mE(t:jd):Array Value:=#[Nv t.al,Nv t.to,.string<|aq t,.string t.text]
def Bx.bT{w}(h:Bx w b C)(hn:b≠b2)j v:Bx (w.setCell ⟨b2,j,none⟩ v) b C:=
 h.same Dd (jp _ _ _ _ hn)
def Bx.ajc{w}(h:Bx w b C)(hn:b≠b2)v0 v1 v2 v3:Bx ((((w.setCell ⟨b2,0,none⟩ v0).setCell ⟨b2,1,none⟩ v1).setCell ⟨b2,2,none⟩ v2).setCell ⟨b2,3,none⟩ v3) b C:=
 (((h.bT hn 0 v0).bT hn 1 v1).bT hn 2 v2).bT hn 3 v3
def Ke.agH{rb}{w}(h:Ke rb a w)v0 v1 v2 v3:Ke rb a ((((w.setCell ⟨rb,1,none⟩ v0).setCell ⟨rb,2,none⟩ v1).setCell ⟨rb,3,none⟩ v2).setCell ⟨rb,4,none⟩ v3):=
 (((h.trans<|Ke.Jr rb _ 1 v0).trans<|Ke.Jr rb _ 2 v1).trans<|Ke.Jr rb _ 3 v2).trans (Ke.Jr rb _ 4 v3)
def Ke.QS{rb}{w}(h:Ke rb a w)(hb:a.heap.size<=b)v0 v1 v2 v3:Ke rb a ((((w.setCell ⟨b,0,none⟩ v0).setCell ⟨b,1,none⟩ v1).setCell ⟨b,2,none⟩ v2).setCell ⟨b,3,none⟩ v3):=
 (((h.oX hb 0 v0).oX hb 1 v1).oX hb 2 v2).oX hb 3 v3
def kI rb sb m s(t:jd)w e w':=
 Ke rb w w'/\(((aE s t.to).kind≠6/\e=.returned (dC t)/\RD w' rb sb m s (aE s t.to) t.to)\/((aE s t.to).kind=6/\e=bU (d_<|aE s t.to)))
def zY(h:RD w rb sb m s t k)(hs:s.size<=1000)(ht:t.to<=s.size):Cq 67 #[Pv rb] w (kI rb sb m s t w):=by
 have hz:=h.bx.z;have Zc:rb≠w.heap.size:=ae;have amz:rb≠w.heap.size+1:=ae;have R1:=ai<|(((h.bx.aR 5 (Nv t.to) (rdC s t t.to m sb) rfl ag).alloc (Cv zZ 141)).alloc (Cv (mE t) 141)).gw;have D1:Hid (Bx ((((w.setCell ⟨rb,5,none⟩<|Nv t.to).alloc<|Cv zZ 141).alloc<|Cv (mE t) 141).drew) (w.heap.size+1)<|mE t):=ai (by have:=(Bx.new ((w.setCell ⟨rb,5,none⟩<|Nv t.to).alloc<|Cv zZ 141) (mE t) 141).gw;simpa[World.setCell]using this);have D0:Hid (Bx ((((w.setCell ⟨rb,5,none⟩<|Nv t.to).alloc<|Cv zZ 141).alloc<|Cv (mE t) 141).drew) w.heap.size zZ):=ai (by have:=((Bx.new (w.setCell ⟨rb,5,none⟩<|Nv t.to) zZ 141).alloc<|Cv (mE t) 141).gw;simpa[World.setCell]using this);have K1:Hid (Ke rb w<|(((w.setCell ⟨rb,5,none⟩<|Nv t.to).alloc<|Cv zZ 141).alloc<|Cv (mE t) 141).drew):=ai<|(Ke.Jr rb w 5<|Nv t.to).fK<|((bw _).alloc ag _).drew;have E:∀W,Laid W->Cq 65 #[Sv s,Nv t.to] W (eP (aE s t.to) W):=λW hW=>Js hW s t.to ht hs;have hla:=λW(hW:Ke rb w W)=>h.la.ke hW h.h2;have⟨c,f,z⟩:=h.bx;have⟨c1,f1,z1⟩:=uh R1;unfold kI;generalize aE s t.to=T at E⊢;by_cases hk:T.kind=6
 .go_enter func67,ntmps67
  go_wp2
  go_region_dies
  all_goals(refine(E _<|hla _ K1).mono ?_;intro e w2 hp;obtain⟨rfl,hb⟩:=hp.bad hk;exact⟨rfl,K1.fK hb,Or.inr ⟨hk,by rw[afc T hk];rfl⟩⟩)
 .go_enter func67,ntmps67
  go_wp2
  go_region_with(go_at_call 65;refine(E _<|hla _ K1).mono ?_;intro e w2 hp;obtain⟨rfl,hb⟩:=hp.ok hk;have K2:=ai<|K1.fK hb;have R2:=ai<|R1.below hb;have D2:=ai<|D1.below hb;have G2:=ai<|D0.below hb;have⟨c2,f2,z2⟩:=uh R2;have⟨d2,e2,y2⟩:=uh D2;have⟨g2,h2,x2⟩:=uh G2;clear hb)
  all_goals(
   go_wp2_with fail;have hx:Bx w2 rb (rdC s t t.to m sb):=uh R2;have F:=R2.Zb (Nv T.al) (Nv T.to) (Sv<|aq T)<|Sv T.text;have F2:=F.ajc Zc (Nv t.al) (Nv t.to) (Sv<|aq t)<|Sv t.text;have G3:=((((G2.bT Zc.symm 1<|Nv T.al).bT Zc.symm 2<|Nv T.to).bT Zc.symm 3<|Sv<|aq T).bT Zc.symm 4<|Sv T.text).nD rfl (Nv t.al) (Nv t.to) (Sv<|aq t) (Sv t.text);have K3:=(K2.agH (Nv T.al) (Nv T.to) (Sv<|aq T)<|Sv T.text).QS (b:=w.heap.size) (br _) (Nv t.al) (Nv t.to) (Sv<|aq t)<|Sv t.text;obtain⟨g3,_,_⟩:=G3
   exact bodyPost_ret (v:=dC t) (by simp[results,Tryz.results67,go_sem,g3,dC]) rfl ⟨K3,Or.inl ⟨hk,rfl,h.ke K3 F2⟩⟩)
end
def kI.ok{m:MV}(h:kI rb sb m s t w e w')(hk:(aE s t.to).kind≠6):e=.returned (.agg #[Nv t.al,Nv t.to,.string<|aq t,.string t.text])/\Ke rb w w'/\RD w' rb sb m s (aE s t.to) t.to:=by
 obtain⟨hb,⟨_,he,hr⟩|⟨hn,_⟩⟩:=h
 .exact⟨he,hb,hr⟩
 .exact absurd hn hk
def kI.bad{m:MV}(h:kI rb sb m s t w e w')(hk:(aE s t.to).kind=6):e=bU (d_<|aE s t.to)/\Ke rb w w':=by
 obtain⟨hb,⟨hn,_⟩|⟨_,he⟩⟩:=h
 .exact absurd hk hn
 .exact⟨he,hb⟩
def Ke.tj(h:Ke rb a w)(hb:a.heap.size<=b)v0 v1 v2:Ke rb a (((w.setCell ⟨b,0,none⟩ v0).setCell ⟨b,1,none⟩ v1).setCell ⟨b,2,none⟩ v2):=
 ((h.oX hb 0 v0).oX hb 1 v1).oX hb 2 v2
def RD.set{m:MV}(h:RD w rb sb m s t k)(h1:b≠rb)(h2:b≠sb)(h3:2<=b)j v:RD (w.setCell ⟨b,j,none⟩ v) rb sb m s t k:=by
 have hk:=Ke.Jr b w j v;exact⟨h.bx.bT h1.symm j v,h.sm.uJ h2.symm j v,h.ne,h.la.ke hk h3,h.h2⟩
def RD.nD{m:MV}(h:RD w rb sb m s t k)(h1:b≠rb)(h2:b≠sb)(h3:2<=b)v0 v1 v2 v3:RD ((((w.setCell ⟨b,0,none⟩ v0).setCell ⟨b,1,none⟩ v1).setCell ⟨b,2,none⟩ v2).setCell ⟨b,3,none⟩ v3) rb sb m s t k:=
 (((h.set h1 h2 h3 0 v0).set h1 h2 h3 1 v1).set h1 h2 h3 2 v2).set h1 h2 h3 3 v3
def RD.UN{m:MV}(h:RD w rb sb m s t k)(h1:b≠rb)(h2:b≠sb)(h3:2<=b)v0 v1 v2:RD (((w.setCell ⟨b,0,none⟩ v0).setCell ⟨b,1,none⟩ v1).setCell ⟨b,2,none⟩ v2) rb sb m s t k:=
 ((h.set h1 h2 h3 0 v0).set h1 h2 h3 1 v1).set h1 h2 h3 2 v2
def Bx.xI(h:Bx w b C)(hb:Ke rb w w')(hn:b≠rb):Bx w' b C:=h.same hb.size<|hb.block b h.z hn
section
variable {m:MV}
def RD.new_ne(h:RD w rb sb m s t k):w.heap.size≠rb/\w.heap.size≠sb/\2<=w.heap.size:=by
 have h1:=h.bx.z;have h2:=h.sm.lt;have h3:=h.la.hz;omega
def kJ(h:RD w rb sb m s t k)(hs:s.size<=1000)(ht:t.to<=s.size)kd(ML:((aq t).toList==kd.toList)=true):Cq 42 #[Pv rb,.string kd] w (kI rb sb m s t w):=by
 have⟨n1,n2,n3⟩:=h.new_ne;have HA:=h.af<|bw<|Cv zZ 141;have G0:=Bx.new w zZ 141;have K0:=Ke.of (rb:=rb)<|(jq _ w).alloc (br _)<|Cv zZ 141;have⟨c,f,z⟩:=HA.bx;by_cases hk:(aE s t.to).kind=6
 .go_enter func42,ntmps42;go_wp2_with(go_at_call 67;refine(zY HA hs ht).mono ?_;intro e w1 hp;obtain⟨rfl,hb⟩:=hp.bad hk;have K1:=ai<|K0.trans hb;clear hb);exact⟨rfl,K1,Or.inr ⟨hk,rfl⟩⟩
 .go_enter func42,ntmps42;go_wp2_with(go_at_call 67;refine(zY HA hs ht).mono ?_;intro e w1 hp;obtain⟨rfl,hb,hr⟩:=hp.ok hk;have K1:=ai<|K0.trans hb;have G1:=ai<|G0.xI hb n1;have R1:=ai hr;have⟨g,gf,gz⟩:=uh G1;clear hb hr);have BF:=G1.nD rfl (Nv t.al) (Nv t.to) (Sv<|aq t) (Sv t.text);obtain⟨cF,fF,zF⟩:=BF;exact bodyPost_ret (v:=dC t) (by simp[results,Tryz.results42,go_sem,cF,dC]) rfl ⟨K1.QS (br _) _ _ _ _,Or.inl ⟨hk,rfl,R1.nD n1 n2 n3 _ _ _ _⟩⟩
def EY(h:RD w rb sb m s t k)kd(ML:((aq t).toList==kd.toList)=false)(ht:t.kind≠6):Cq 42 #[Pv rb,.string kd] w λe w'=>e=bU (d_ t)/\Ke rb w w':=by
 have HA:=h.af<|bw<|Cv zZ 141;have K0:=Ke.of (rb:=rb)<|(Below.refl _ w).alloc (br _)<|Cv zZ 141;have⟨c,f,z⟩:=HA.bx;go_enter func42,ntmps42;go_wp2_with(go_at_call 66;refine(wi HA).mono ?_;rintro e w1⟨rfl,hb⟩;have K1:=ai<|K0.fK hb;clear hb);exact⟨rfl,by rw[d_,if_neg ht];rfl,K1⟩
def Zd(h:RD w rb sb m s t k)(hs:s.size<=1000)(ht:t.to<=s.size)kd(ML:((aq t).toList==kd.toList)=true):Cq 139 #[Pv rb,.string kd] w λe w'=>Ke rb w w'/\(((aE s t.to).kind≠6/\e=.returned (.bool true)/\RD w' rb sb m s (aE s t.to) t.to)\/((aE s t.to).kind=6/\e=bU (d_<|aE s t.to))):=by
 have⟨c,f,z⟩:=h.bx;have HA:=ai h;by_cases hk:(aE s t.to).kind=6
 .go_enter func139,ntmps139;go_wp2_with(go_at_call 67;refine(zY HA hs ht).mono ?_;intro e w1 hp;obtain⟨rfl,hb⟩:=hp.bad hk;have K1:=ai hb;clear hb);exact⟨rfl,K1,Or.inr ⟨hk,rfl⟩⟩
 .go_enter func139,ntmps139;go_wp2_with(go_at_call 67;refine(zY HA hs ht).mono ?_;intro e w1 hp;obtain⟨rfl,hb,hr⟩:=hp.ok hk;have K1:=ai hb;have R1:=ai hr;clear hb hr);go_ret;exact⟨K1,Or.inl ⟨hk,rfl,R1⟩⟩
def ac7(h:RD w rb sb m s t k)kd(ML:((aq t).toList==kd.toList)=false):Cq 139 #[Pv rb,.string kd] w λe w'=>e=.returned (.bool false)/\w'=w:=by
 have⟨c,f,z⟩:=h.bx;go_enter func139,ntmps139
 go_wp2
 go_ret;exact⟨rfl,rfl⟩
end
def od(s:BA):=∃x r,s.toList=x::r/\Pu.BT x.toNat=true
structure gA(t:jd):Prop where
 kd:t.kind=1\/t.kind=2\/t.kind=3\/t.kind=4\/t.kind=5\/t.kind=6\/t.kind=7
 s5:t.kind=5->t.text.size<=5
 v3:t.kind=3->∃r,t.text.toList=39::r
 v2:t.kind=2->od t.text
def N8(h:Pu.fk s=true):s.size<=5:=by
 rw[Pu.fk]at h;rw[List.any_eq_true]at h;obtain⟨x,hx,he⟩:=h;rw[beq_iff_eq]at he;have:s.toList.length<=5:=by
  rw[<-he];clear he;revert x;simp[Pu.words,ja];decide
 rw[ja]at this;simpa using this
def jF{i j}(hi:i<s.size)(hj:i<j):(s.extract i j).toList=s[i]::(s.extract (i+1) j).toList:=by
 rw[ja,ja,ju,ju];apply List.ext_getElem?;intro k
 cases k with
 |zero=>
  simp;rw[jl ae];simp;rw[Array.getElem?_eq_getElem qBl];rfl
 |succ k=>
  simp;by_cases hk:k+1<j-i
  .rw[jl hk,jl ae];simp;congr 1;omega
  .rw[List.getElem?_take_eq_none ae,List.getElem?_take_eq_none ae]
def Ze s i(hi:i<s.size):gA (jf s i):=by
 rw[jf];have ex:∀a b:Nat,(s.extract a b).size<=b-a:=λa b=>by simp[jt];omega
 repeat' split
 all_goals refine⟨by simp[ji],?_,?_,?_⟩
 all_goals intro q
 all_goals try(exfalso;simp[ji]at q;done)
 .rename_i h;exact N8 h
 .rename_i h2;have It:=jj s jh i;have hup:jh (Pu.at_ s i)=true:=by rw[jh];simp[h2]
  have hgt:i<Pu.aJ s jh i:=by rw[Pu.eQ hi hup];exact jy (Nat.lt_succ_self i)<|jj s jh<|i+1
  exact⟨_,_,jF hi hgt,by rw[<-Pu.mF hi];exact h2⟩
 .rename_i h3 h4;have MN:s[i].toNat=39:=by rw[<-Pu.mF hi];exact h3.1
  have It:=jj s jh<|i+1;have e9:s[i]=39:=UInt8.toNat_inj.1 MN;exact⟨_,by rw[<-e9];exact jF hi ae⟩
 .exact jx (ex _ _) ae
 .exact jx (ex _ _) ae
theorem N9 s p:gA (aE s p):=by
 rw[aE];split
 .rename_i h;exact Ze s _ h
 .exact⟨qBr,qBr,qBr,qBr⟩
theorem z_ s p:(aE s p).to<=s.size:=by
 rw[aE];split
 .rename_i h;exact(jk s _ h).2
 .simp[Pu.eY]
def De s:∀k,k<(jc s 0).length->(jc s 0).drop k=jc s (aG (jc s 0) k)/\aG (jc s 0) k<=s.size:=by
 intro k
 induction k with
 |zero=>intro _;exact⟨by simp[aG],by simp[aG]⟩|succ k ih=>
  intro hk;have⟨h1,h2⟩:=ih ae;have h3:=mG s (aG (jc s 0) k) h2;rw[<-h1]at h3;have hd:(jc s 0).drop k=tk (jc s 0) k::(jc s 0).drop (k+1):=by
   rw[<-Jt ae];exact jm ae
  have hl:((jc s 0).drop<|k+1).length≠0:=bF;rw[hd]at h3;split at h3
  .grind
  .injection h3 with h4 h5;rw[<-h4]at h5;refine⟨?_,?_⟩
   .rw[h5];simp[aG]
   .simp only[aG,Nat.add_sub_cancel];rw[if_neg ae,h4];exact z_ s _
theorem lB s k(hk:k<(jc s 0).length):tk (jc s 0) k=aE s (aG (jc s 0) k):=by
 have⟨h1,h2⟩:=De s k hk;have h3:=mG s (aG (jc s 0) k) h2;rw[<-h1]at h3;have hd:(jc s 0).drop k=tk (jc s 0) k::(jc s 0).drop (k+1):=by
  rw[<-Jt hk];exact jm hk
 rw[hd]at h3;split at h3
 .rename_i h7;injection h3 with h4 _;rw[h4];rw[aE]at h7⊢;split at h7
  .exfalso;revert h7;rw[jf];repeat' split
   all_goals simp[ji]
  .rename_i hn;rw[if_neg hn]
 .grind
def eX s k(hk:k<(jc s 0).length):gA (tk (jc s 0) k):=by grind[tk,lB,N9]
def tn s k(hk:k<(jc s 0).length):(tk (jc s 0) k).to<=s.size:=by grind[tk,lB,z_]
def QT s k(hk:k<(jc s 0).length)(h7:(tk (jc s 0) k).kind≠7):k+1<(jc s 0).length/\aE s (tk (jc s 0) k).to=tk (jc s 0) (k+1)/\aG (jc s 0) (k+1)=(tk (jc s 0) k).to:=by
 have hl:aG (jc s 0) (k+1)=(tk (jc s 0) k).to:=by simp[aG]
 have⟨h1,h2⟩:=De s k hk;have h3:=mG s (aG (jc s 0) k) h2;rw[<-h1,<-lB s k hk,if_neg h7]at h3;have cV:jc s (tk (jc s 0) k).to≠[]:=by
  rw[mG s _<|tn s k hk];split<;>simp
 have bA:k+1<(jc s 0).length:=by
  have:=congrArg jo h3;simp at this;have h5:0<(jc s (tk (jc s 0) k).to).length:=xY;omega
 exact⟨bA,by rw[<-hl,<-lB s (k+1) bA],hl⟩
def jH(h:t.kind=1):aq t=⟨#[108,111,119,32,110,97,109,101]⟩:=by grind[aq]
def im(h:t.kind=2):aq t=⟨#[117,112,32,110,97,109,101]⟩:=by grind[aq]
def iq(h:t.kind=3):aq t=⟨#[97,32,118,97,114,105,97,98,108,101]⟩:=by grind[aq]
def jI(h:t.kind=4):aq t=⟨#[97,32,110,117,109,98,101,114]⟩:=by grind[aq]
def pU(h:t.kind=5):aq t=t.text:=by grind[aq]
def jJ(h:t.kind=7):aq t=⟨#[116,104,101,32,101,110,100]⟩:=by grind[aq]
def Zf(h:gA t)(hk:t.kind≠6){kd}(hs:kd.size<=2):((aq t).toList==kd.toList)=aU t kd:=by
 have hkl:kd.toList.length<=2:=by rw[ja];simpa using hs
 have key:∀(l:BA),2<l.toList.length->(l.toList==kd.toList)=false:=xY;rw[aU];obtain h|h|h|h|h|h|h:=h.kd
 .rw[jH h,key _ qAp,h];rfl
 .rw[im h,key _ qAp,h];rfl
 .rw[iq h,key _ qAp,h];rfl
 .rw[jI h,key _ qAp,h];rfl
 .rw[pU h,h];simp
 .exact absurd h hk
 .rw[jJ h,key _ qAp,h];rfl
def mH(h:gA t)(hk:t.kind≠6){kd:BA}(hs:5<kd.size)(h5:t.kind=5):((aq t).toList==kd.toList)=false:=by
 rw[<-Bool.not_eq_true,beq_iff_eq];intro e;have:aq t=t.text:=by rw[aq];simp[h5]
 rw[this]at e;have h1:=h.s5 h5;have h2:=congrArg jo e;rw[ja,ja]at h2;simp at h2;omega
def EZ(h:gA t)(hk:t.kind≠6):((aq t).toList==Jq.toList)=(t.kind==2):=by
 obtain h'|h'|h'|h'|h'|h'|h':=h.kd
 .rw[jH h',h'];simp[ja]
 .rw[im h',h'];simp[ja]
 .rw[iq h',h'];simp[ja]
 .rw[jI h',h'];simp[ja]
 .rw[mH h hk aB h'];simp[h']
 .exact absurd h' hk
 .rw[jJ h',h'];simp[ja]
def Zg(h:gA t)(hk:t.kind≠6):((aq t).toList==[116,104,101,32,101,110,100])=(t.kind==7):=by
 obtain h'|h'|h'|h'|h'|h'|h':=h.kd
 .rw[jH h',h'];simp[ja]
 .rw[im h',h'];simp[ja]
 .rw[iq h',h'];simp[ja]
 .rw[jI h',h'];simp[ja]
 .have:=mH (kd:=⟨#[116,104,101,32,101,110,100]⟩) h hk aB h';rw[show(ByteArray.mk #[116,104,101,32,101,110,100]).toList=[116,104,101,32,101,110,100]from toList_mk _]at this;rw[this];simp[h']
 .exact absurd h' hk
 .rw[jJ h',h'];simp[ja]
def Df(h:gA t)(hk:t.kind≠6)rb:a_ (aq t) (smL rb)=if t.kind=3 then some (.func (.func 99) #[Pv rb] #[])else if t.kind=2 then some (.func (.func 100) #[Pv rb] #[])else if aU t nC=true then some (.func (.func 101) #[Pv rb] #[])else none:=by
 have e1:∀(x:BA),(x=aq t)↔((aq t).toList==x.toList)=true:=λx=>by
  rw[beq_iff_eq,ja,ja];constructor
  .intro q;rw[q]
  .intro q
   cases x;cases hq:aq t
   rw[hq]at q;simp at q;congr 1;exact q.symm
 rw[smL,a_];rw[a_];rw[a_];rw[a_];simp only[e1];rw[EZ h hk,Zf h hk (kd:=nC) aB];obtain h'|h'|h'|h'|h'|h'|h':=h.kd
 .have:((aq t).toList==uI.toList)=false:=by rw[jH h'];simp[ja]
  rw[this];simp[h',aU]
 .have:((aq t).toList==uI.toList)=false:=by rw[im h'];simp[ja]
  rw[this];simp[h']
 .have:((aq t).toList==uI.toList)=true:=by rw[iq h'];simp[ja]
  rw[this];simp[h']
 .have:((aq t).toList==uI.toList)=false:=by rw[jI h'];simp[ja]
  rw[this];simp[h',aU]
 .rw[mH h hk aB h'];simp[h']
 .exact absurd h' hk
 .have:((aq t).toList==uI.toList)=false:=by rw[jJ h'];simp[ja]
  rw[this];simp[h',aU]
def cx rb sb m s(t:jd)v w e w':=
 Ke rb w w'/\(((aE s t.to).kind≠6/\e=.returned v/\RD w' rb sb m s (aE s t.to) t.to)\/((aE s t.to).kind=6/\e=bU (d_<|aE s t.to)))
def cx.ok{m:MV}(h:cx rb sb m s t v w e w')(hk:(aE s t.to).kind≠6):e=.returned v/\Ke rb w w'/\RD w' rb sb m s (aE s t.to) t.to:=by grind[cx,aE]
def cx.bad{m:MV}(h:cx rb sb m s t v w e w')(hk:(aE s t.to).kind=6):e=bU (d_<|aE s t.to)/\Ke rb w w':=by grind[cx,aE,d_]
inductive PT(w:World)(P:Nat->Prop):Nd->Value->Prop where
 |var(s:BA)(n f t a:Nat)(x y:Int)(hq:∃r,s.toList=39::r)(hx:x=(f:Int))(hy:y=((f+s.size:Nat):Int)):PT w P (.mk 16 s n [] f t a) (.iface 162<|.agg #[Iv x,Iv y,.string<|s.extract 1 s.size])
 |fn(s:BA)(n:Nat)(a b:Nd)(f t at_:Nat)(x y:Int)(va vb:Value)(ha:PT w P a va)(hb:PT w P b vb):PT w P (.mk 17 s n [a,b] f t at_) (.iface 192<|.agg #[Iv x,Iv y,va,vb])
 |pr(s:BA)(n:Nat)(a b:Nd)(f t at_:Nat)(x y:Int)(va vb:Value)(ha:PT w P a va)(hb:PT w P b vb):PT w P (.mk 6 s n [a,b] f t at_) (.iface 196<|.agg #[Iv x,Iv y,va,vb])
 |up(s:BA)(n:Nat)(L:List Nd)(f t at_:Nat)(x y x' y':Int)(sa:Option Addr)(sc:Nat)(vs:Nat->Value)(hu:od s)(aO:L=[]\/∃g,sa=some ⟨g,0,none⟩/\P g/\g<w.heap.size/\∀i,i<L.length->w.cell? ⟨g,i,none⟩=some (vs i))(hr:∀i(h:i<L.length),PT w P L[i]<|vs i)(hx:x'=(at_:Int))(hy:y'=((at_+s.size:Nat):Int)):
  PT w P (.mk 2 s n L f t at_) (.iface 194<|.agg #[Iv x,Iv y,Iv x',Iv y',.string s,.slice sa L.length sc])
theorem PT.move(h:PT w P nd v)(hs:w.heap.size<=w'.heap.size)(hb:∀b,P b->b<w.heap.size->w'.heap[b]? =w.heap[b]?)(hq:∀b,P b->b<w.heap.size->Q b):PT w' Q nd v:=by
 induction h with
 |var s n f t a x y hq hx hy=>exact .var s n f t a x y hq hx hy|fn s n a b f t at_ x y va vb _ _ N_ N'=>exact .fn s n a b f t at_ x y va vb N_ N'|pr s n a b f t at_ x y va vb _ _ N_ N'=>exact .pr s n a b f t at_ x y va vb N_ N'|up s n L f t at_ x y x' y' sa sc vs hu aO hr hx hy ih=>
  refine .up s n L f t at_ x y x' y' sa sc vs hu ?_ ih hx hy;obtain h0|⟨g,h1,hP,hz,hc⟩:=aO
  .exact Or.inl h0
  .refine Or.inr ⟨g,h1,hq g hP hz,jy hz hs,λi hi=>?_⟩;rw[World.cell?_of_block (a:=⟨g,i,none⟩) (w:=w)<|hb g hP hz];exact hc i hi
def PT.af(h:PT w P nd v)(hb:Bq w w'):PT w' P nd v:=h.move hb.size (λb _ hz=>hb.block b hz)<|λ_ p _=>p
def PT.ke(h:PT w P nd v)(hb:Ke rb w w')(hn:∀b,P b->b≠rb):PT w' P nd v:=h.move hb.size (λb p hz=>hb.block b hz<|hn b p)<|λ_ p _=>p
def PT.wide(h:PT w P nd v)(hq:∀b,P b->Q b):PT w Q nd v:=h.move (br _) (λ_ _ _=>rfl)<|λb p _=>hq b p
def Ju s i(hi:i<s.size):(jf s i).to=(jf s i).al+(jf s i).text.size:=by
 have ht:=jk s i hi;revert ht;rw[jf];have ex:∀k b:Nat,i<b->b<=s.size->(ji s i k b).to=(ji s i k b).al+(ji s i k b).text.size:=λk b h1 h2=>by
  show b=i+(s.extract i b).size;rw[jt];omega
 repeat' split
 all_goals intro ht
 all_goals exact ex _ _ ht.1 ht.2
def afd s k(hk:k<(jc s 0).length):(tk (jc s 0) k).to=(tk (jc s 0) k).al+(tk (jc s 0) k).text.size:=by
 rw[lB s k hk];rw[aE];split
 .rename_i h;exact Ju s _ h
 .simp[Pu.eY];rfl
def fin{α:Type}(T:List jd):Except Fl (α×Nat)->Except Fl (α×Nat)
 |.error f=>.error f|.ok (a,k)=>if(tk T k).kind=6 then .error (d_<|tk T k)else .ok (a,k)
def Bx.oQ(h:Bx w b C)(hC:C.size=3)v0 v1 v2:Bx (((w.setCell ⟨b,0,none⟩ v0).setCell ⟨b,1,none⟩ v1).setCell ⟨b,2,none⟩ v2) b #[v0,v1,v2]:=by
 obtain⟨a0,a1,a2,rfl⟩:∃a0 a1 a2,C=#[a0,a1,a2]:=by
  obtain⟨l⟩:=C
  match l,hC with
  |[a,b,c],_=>grind
 exact((h.aR 0 v0 #[v0,a1,a2] rfl ag).aR 1 v1 #[v0,v1,a2] rfl ag).aR 2 v2 #[v0,v1,v2] rfl ag
section
variable {m:MV}
abbrev zNm:Array Value:=#[Iv 0,Iv 0,.string ⟨#[]⟩]
def Oa(h:RD w rb sb m s t k)(hs:s.size<=1000)(ht:t.to<=s.size)kd(ML:((aq t).toList==kd.toList)=true):Cq 129 #[Pv rb,.string kd] w (cx rb sb m s t (.agg #[Nv t.al,Nv t.to,.string t.text]) w):=by
 have⟨n1,n2,n3⟩:=h.new_ne;have HA:=h.af<|bw<|Cv zNm 74;have G0:=Bx.new w zNm 74;have K0:=Ke.of (rb:=rb)<|(jq _ w).alloc (br _)<|Cv zNm 74;by_cases hk:(aE s t.to).kind=6
 .go_enter func129,ntmps129;go_wp2_with(go_at_call 42;refine(kJ HA hs ht kd ML).mono ?_;intro e w1 hp;obtain⟨rfl,hb⟩:=hp.bad hk;have K1:=ai<|K0.trans hb;clear hb);exact⟨rfl,K1,Or.inr ⟨hk,rfl⟩⟩
 .go_enter func129,ntmps129;go_wp2_with(go_at_call 42;refine(kJ HA hs ht kd ML).mono ?_;intro e w1 hp;obtain⟨rfl,hb,hr⟩:=hp.ok hk;have K1:=ai<|(K0.trans hb).fK<|bw<|Cv (mE t) 141;have G1:=ai<|(G0.xI hb n1).alloc<|Cv (mE t) 141;have R1:=ai<|hr.af<|bw<|Cv (mE t) 141;have⟨g,gf,gz⟩:=uh G1;clear hb hr);have BF:=G1.oQ rfl (Nv t.al) (Nv t.to) (Sv t.text);obtain⟨cF,fF,zF⟩:=BF;exact bodyPost_ret (v:=Av #[Nv t.al,Nv t.to,Sv t.text]) (by simp[results,Tryz.results129,go_sem,cF]) rfl ⟨K1.tj (br _) _ _ _,Or.inl ⟨hk,rfl,R1.UN n1 n2 n3 _ _ _⟩⟩
def ac8(h:RD w rb sb m s t k)kd(ML:((aq t).toList==kd.toList)=false)(ht:t.kind≠6):Cq 129 #[Pv rb,.string kd] w λe w'=>e=bU (d_ t)/\Ke rb w w':=by
 have HA:=h.af<|bw<|Cv zNm 74;have K0:=Ke.of (rb:=rb)<|(Below.refl _ w).alloc (br _)<|Cv zNm 74;go_enter func129,ntmps129;go_wp2_with(go_at_call 42;refine(EY HA kd ML ht).mono ?_;rintro e w1⟨rfl,hb⟩;have K1:=ai<|K0.trans hb;clear hb);exact⟨rfl,rfl,K1⟩
def kK(h:RD w rb sb m s t k)(hs:s.size<=1000)(ht:t.to<=s.size)(ul:t.kind=3)(ho:gA t):Cq 130 #[Pv rb] w (cx rb sb m s t (.agg #[Nv t.al,Nv t.to,.string<|t.text.extract 1 t.text.size]) w):=by
 have⟨n1,n2,n3⟩:=h.new_ne;have HA:=h.af<|bw<|Cv zNm 74;have G0:=Bx.new w zNm 74;have K0:=Ke.of (rb:=rb)<|(jq _ w).alloc (br _)<|Cv zNm 74;have ML:((aq t).toList==uI.toList)=true:=by rw[iq ul];simp[ja]
 have gL:(1:Int)<=(t.text.size:Int):=by
  have⟨r,hr⟩:=ho.v3 ul;have:=congrArg jo hr;rw[ja]at this;simp at this;have e:t.text.size=t.text.data.size:=rfl;omega
 by_cases hk:(aE s t.to).kind=6
 .go_enter func130,ntmps130;go_wp2_with(go_at_call 42;refine(kJ HA hs ht uI ML).mono ?_;intro e w1 hp;obtain⟨rfl,hb⟩:=hp.bad hk;have K1:=ai<|K0.trans hb;clear hb);exact⟨rfl,K1,Or.inr ⟨hk,rfl⟩⟩
 .go_enter func130,ntmps130;go_wp2_with(go_at_call 42;refine(kJ HA hs ht uI ML).mono ?_;intro e w1 hp;obtain⟨rfl,hb,hr⟩:=hp.ok hk;have K1:=ai<|(K0.trans hb).fK<|bw<|Cv (mE t) 141;have G1:=ai<|(G0.xI hb n1).alloc<|Cv (mE t) 141;have R1:=ai<|hr.af<|bw<|Cv (mE t) 141;have⟨g,gf,gz⟩:=uh G1;clear hb hr);go_region;go_wp2_with fail;have BF:=(G1.oQ rfl (Nv t.al) (Nv t.to) (Sv<|t.text.extract 1 t.text.size)).gw;obtain⟨cF,fF,zF⟩:=BF;exact bodyPost_ret (v:=Av #[Nv t.al,Nv t.to,Sv<|t.text.extract 1 t.text.size]) (by simp[results,Tryz.results130,go_sem,cF]) rfl ⟨(K1.tj (br _) _ _ _).fK (Below.refl _ _).drew,Or.inl ⟨hk,rfl,(R1.UN n1 n2 n3 _ _ _).af (Below.refl _ _).drew⟩⟩
def UO(h:RD w rb sb m s t k)(hs:s.size<=1000)(ht:t.to<=s.size)(ul:t.kind=3)(ho:gA t):Cq 99 #[Pv rb] w (cx rb sb m s t (.iface 162<|.agg #[Nv t.al,Nv t.to,.string<|t.text.extract 1 t.text.size]) w):=by
 have HA:=ai h;by_cases hk:(aE s t.to).kind=6
 .go_enter func99,ntmps99;go_wp2_with(go_at_call 130;refine(kK HA hs ht ul ho).mono ?_;intro e w1 hp;obtain⟨rfl,hb⟩:=hp.bad hk;have K1:=ai hb;clear hb);exact⟨rfl,K1,Or.inr ⟨hk,rfl⟩⟩
 .go_enter func99,ntmps99;go_wp2_with(go_at_call 130;refine(kK HA hs ht ul ho).mono ?_;intro e w1 hp;obtain⟨rfl,hb,hr⟩:=hp.ok hk;have K1:=ai hb;have R1:=ai hr;clear hb hr);go_ret;exact⟨K1.fK<|bw _,Or.inl ⟨hk,rfl,R1.af<|bw _⟩⟩
def Ob(h:RD w rb sb m s t k)(hs:s.size<=1000)(ht:t.to<=s.size)(UD:t.kind=2):Cq 100 #[Pv rb] w (cx rb sb m s t (.iface 194<|.agg #[Nv t.al,Nv t.to,Nv t.al,Nv t.to,.string t.text,.slice none 0 0]) w):=by
 have HA:=ai h;have ML:((aq t).toList==Jq.toList)=true:=by rw[im UD];simp[ja]
 by_cases hk:(aE s t.to).kind=6
 .go_enter func100,ntmps100;go_wp2_with(go_at_call 129;refine(Oa HA hs ht Jq ML).mono ?_;intro e w1 hp;obtain⟨rfl,hb⟩:=hp.bad hk;have K1:=ai hb;clear hb);exact⟨rfl,K1,Or.inr ⟨hk,rfl⟩⟩
 .go_enter func100,ntmps100;go_wp2_with(go_at_call 129;refine(Oa HA hs ht Jq ML).mono ?_;intro e w1 hp;obtain⟨rfl,hb,hr⟩:=hp.ok hk;have K1:=ai hb;have R1:=ai hr;clear hb hr);go_ret;exact⟨K1.fK<|bw _,Or.inl ⟨hk,rfl,R1.af<|bw _⟩⟩
end
def agI w:(zeroValue 209).run Tryz.prog w=.ok .nilFunc w:=qkr
section
variable {m:MV}
def wj{T}{p}{k}(h:(tk T k).kind=3\/(tk T k).kind=2):aH T p p 1 k=.ok (b_<|tk T k,k+1):=by
 have h5:aU (tk T k) ls=false:=by rw[aU];obtain h|h:=h<;>simp[h]
 rw[aH];rw[if_pos (by rw[aF,bI];obtain h|h:=h<;>simp[h]),if_neg<|by simp[h5]]
def uK(h:gA t):aF t 1=(t.kind==3||t.kind==2||aU t nC):=by
 show(aU t nC||_)=_;rw[if_pos rfl];rw[bI];obtain h|h|h|h|h|h|h:=h.kd<;>simp[h,aU];repeat' split
 all_goals simp
def lC(o:Option Value)(z:Value):Value:=match o with|some v=>.tuple #[v,.bool true]|none=>.tuple #[z,.bool false]
def fid(t:jd):Nat:=if t.kind=3 then 99 else if t.kind=2 then 100 else 101
def Zh(t:jd)args w:(callFunc (fid t) args).run Tryz.prog w=.ok (.enter (fid t) args) w:=by
 rw[fid];split
 .kernel_rfl
 .split<;>kernel_rfl
def ac9(ho:gA t)(h6:t.kind≠6)(hb:aF t 1=true):a_ (aq t) (smL rb)=some (.func (.func<|fid t) #[Pv rb] #[]):=by
 rw[Df ho h6];rw[uK ho]at hb;rw[fid];by_cases h3:t.kind=3
 .simp[h3]
 by_cases h2:t.kind=2
 .simp[h2]
 have:aU t nC=true:=xY;simp[h2,h3,this]
def Zi(ho:gA t)(h6:t.kind≠6)(hb:aF t 1=false):a_ (aq t) (smL rb)=none:=by
 rw[Df ho h6];rw[uK ho]at hb;simp at hb;simp[hb]
end
end
def AQ:joinedFacts Tryz.prog 3 Tryz.f3 Rows.renamedSpec Rows.renamedRow=true:=by
 rw[joinedFacts];exact(fJ (fJ (fJ (fJ (fJ (fJ (fJ (fJ (fJ (fJ (fJ (fJ (fJ (fJ (fJ (fJ (fJ (fJ (fJ (fJ (fJ (fJ (fJ (fJ (fJ (fJ (fJ (fJ (fJ (fJ (fJ NK Et) Qn) NN) NO) NP) cp6) NR) cp8) NS) IY) IZ) I0) I1) I4) I6) I7) I8) I9) I_) I') Ja) Jb) Jc) ala) alb) Jd) Je) qkr) Jf) Jg) Jh)
end Go.Proofs.YtnldmeakhapdhaaGreatDoor

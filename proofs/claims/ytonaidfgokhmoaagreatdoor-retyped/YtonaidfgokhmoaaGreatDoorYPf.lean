import Derived.Test.YtonaidfgokhmoaaGreatDoorYPure
import Derived.Test.YtonaidfgokhmoaaGreatDoorYLd0
set_option linter.all false
set_option maxRecDepth 100000
set_option maxHeartbeats 8000000
namespace Go.Proofs.YtonaidfgokhmoaaGreatDoor
open Go renaming Calls->aa,World->ca,Value->ea
open _root_.Option renaming none->fa
open _root_.Bool renaming true->ga,false->ia
open Go.ByteArray renaming toList_eq->ja
open Pu renaming bP->jc,Tok->jd,dw->jf,a_->jh,gL->ji,fc->jj,su->jk
open Go.Proofs.Tryz renaming prog->jl
open _root_.Nat renaming lt_of_lt_of_le->jm,le_of_lt->jo,le_trans->jp,ne_of_gt->jq
open Go.Value renaming string->jt
open Go.RowKit.Below renaming refl->ju,heap_setCell->jv
open _root_.List renaming getElem?_take_of_lt->jx,drop_eq_getElem_cons->jy,length->jz
open _root_.ByteArray renaming size_extract->j3,data_extract->j5
open Go.World renaming cell?_of_block->j6,setCell->j7
open Go Go.RowKit Go.ChangeMaps Proofs.Tryz
variable {C:Array ea} {s:BA} {e:Ending} {T:List jd} {p q sm:M Nd} {N b b2 f j k n rb sb sort:Nat} {P Q:Nat->Prop} {nd:Nd} {t:jd} {α β κ:Type} {v:ea} {a w w':ca}
structure One(b:Nat)(w w':ca):Prop where
 os:w'.os=w.os
 tape:w'.tape=w.tape
 output:w'.output=w.output
 size:w'.heap.size=w.heap.size
 block:∀k,k≠b->w'.heap[k]? =w.heap[k]?
def One.set w b o:One b w (setBlock w b o):=⟨rfl,rfl,rfl,by simp[setBlock],λk hk=>by simp[setBlock,Array.getElem?_setIfInBounds,Ne.symm hk]⟩
def One.below(h:Below n a w)(k:One b w w')(hb:n<=b):Below n a w':=
 ⟨k.os.trans h.os,k.tape.trans h.tape,k.output.trans h.output,k.size▸h.size,λi hi=>(k.block i ae).trans<|h.block i hi⟩
def Bx.one{w w':ca}{b c:Nat}{C}(h:Bx w b C)(k:One c w w')(d:b≠c):Bx w' b C:=h.same (by rw[k.size];exact br _)<|k.block b d
def MS.one{κ:Type}[DecidableEq κ]{enc}{w w':ca}{b c:Nat}{L:List (κ×ea)}(h:MS enc w b L)(k:One c w w')(d:b≠c):MS enc w' b L:=h.same<|k.block b d
section
variable {P:Program} [DecidableEq κ] {enc:κ->ea} {ok:ca->κ->Prop}
def aV w{ops}{rest}{o}{a}{Q}(r:o.guard=fa)m x v t(d:o.op=Op.insert t m x v\/o.op=Op.mapUpdate t m x v){k e}(K:KL P k enc ok)(u:P.underlying t=some (.map k e))b L(y:a.eval m=Mv b)(z:MS enc w b L)key val(A:a.eval x=enc key)(B:a.eval v=val)(D:ok w key)(E:∀p∈L,ok w p.1)(F:∀w',MS enc w' b (bF key val L)->One b w w'->wpList P ops Q rest (a.put o.dst undef) w'):
 wpList P ops Q (o::rest) a w:=by
 refine wpList_plain r λK' hK'=>?_;have⟨i,g,l⟩:=z.put K u key val D E;rw[Oper.wp];obtain d|d:=d<;>
 .simp[execOp,d,y,A,B,g,Result.andThen];exact hK' _ _<|F _ l<|One.set w b i
end
abbrev uf:BA:=⟨#[97,32,118,97,114,105,97,98,108,101]⟩
abbrev G_:BA:=⟨#[117,112,32,110,97,109,101]⟩
abbrev mR:BA:=⟨#[40]⟩
def Ma.new{w:ca}:MS jt (w.alloc<|.map #[] 0) w.heap.size []:=MS.new _ w
def DY p:aa jl 56 #[.pointer<|some p] w (λe w'=>e=.returned (Mv w.heap.size)/\MS jt w' w.heap.size [(uf,.func (.func 103) #[.pointer<|some p] #[]),(G_,.func (.func 104) #[.pointer<|some p] #[]),(mR,.func (.func 105) #[.pointer<|some p] #[])]/\Bq w w'):=by
 have H:=Ma.new (w:=w);have d:=(Below.refl w.heap.size w).alloc (br _)<|.map #[] 0;go_in;go_wp2_with((refine aV _ rfl _ _ _ _ (Or.inl rfl) (KL.str Tryz.underlying117) Tryz.underlying125 _ _ rfl H _ _ rfl rfl trivial (λ_ _=>trivial) ?_;clear H;intro w' g i;have H:=ai g;have d:=ai<|One.below d i qbr;clear g i));go_ret;exact⟨rfl,H,d⟩
structure MV where
 (a b c d f g h:ea)
abbrev rdC s(t:jd)k(m:MV)sb:=
 #[.string s,Nv t.ah,Nv t.to,.string<|aq t,.string t.text,Nv k,m.a,m.b,m.c,m.d,Mv sb,m.f,m.g,m.h]
abbrev smL(rb:Nat):List (BA×ea):=[(uf,.func (.func 103) #[Pv rb] #[]),(G_,.func (.func 104) #[Pv rb] #[]),(mR,.func (.func 105) #[Pv rb] #[])]
structure RD w rb sb m s(t:jd)k:Prop where
 bx:Bx w rb (rdC s t k m sb)
 sm:MS jt w sb (smL rb)
 ne:sb≠rb
 la:Laid w
 h2:2<=rb
def Laid.ke(h:Laid w)(d:Ke rb w w')(h2:2<=rb):Laid w':=by
 have c:∀b o,b<2->w'.cell? ⟨b,o,fa⟩=w.cell? ⟨b,o,fa⟩:=λb o hb=>j6 (a:=⟨b,o,fa⟩) (d.block b (by have:=h.hz;omega) ae);exact⟨λj hj=>(c 1 j ae).trans<|h.words j hj,λj hj=>(c 0 j ae).trans<|h.signs j hj,jp h.hz d.size⟩
def RD.af{w w'}{rb sb}{m}{s}{t}{k}(h:RD w rb sb m s t k)(d:Bq w w'):RD w' rb sb m s t k:=
 ⟨h.bx.below d,h.sm.below d,h.ne,h.la.af d,h.h2⟩
def RD.ke{w w'}{rb sb}{m}{s}{t}{k}(h:RD w rb sb m s t k)(d:Ke rb w w'){t'}{k'}(g:Bx w' rb (rdC s t' k' m sb)):RD w' rb sb m s t' k':=
 ⟨g,h.sm.same<|d.block sb h.sm.lt h.ne,h.ne,h.la.ke d h.h2,h.h2⟩
def MS.sv[DecidableEq κ]{enc}{c}{L:List (κ×ea)}(h:MS enc w b L)(d:b≠c)(j:Nat)(v:ea):MS enc (w.setCell ⟨c,j,fa⟩ v) b L:=h.same<|jv _ _ _ _ d
abbrev zRd s:=#[.string s,Iv 0,Iv 0,.string ⟨#[]⟩,.string ⟨#[]⟩,Iv 0,.map fa,.map fa,.map fa,.map fa,.map fa,.map fa,.map fa,.map fa]
abbrev guV(f:Fl):ea:=.iface 114<|.agg #[Nv f.kind,Nv f.ah,Nv f.to]
abbrev bX(f:Fl):Ending:=.panicked [{v:=guV f,recovered:=ia}]
def ado(t:jd)(h:t.kind=6):eA t=⟨2,t.ah,t.to⟩:=by grind[eA]
def Bx.WU{v1' v2' v3' v4'}{x0 x5 x6 x7 x8 x9 x10 x11 x12 x13}(h:Bx w b #[x0,v1',v2',v3',v4',x5,x6,x7,x8,x9,x10,x11,x12,x13])v0 v1 v2 v3:
 Bx ((((w.setCell ⟨b,1,fa⟩ v0).setCell ⟨b,2,fa⟩ v1).setCell ⟨b,3,fa⟩ v2).setCell ⟨b,4,fa⟩ v3) b #[x0,v0,v1,v2,v3,x5,x6,x7,x8,x9,x10,x11,x12,x13]:=
 (((h.aW 1 v0 #[x0,v0,v2',v3',v4',x5,x6,x7,x8,x9,x10,x11,x12,x13] rfl ag).aW 2 v1 #[x0,v0,v1,v3',v4',x5,x6,x7,x8,x9,x10,x11,x12,x13] rfl ag).aW 3 v2 #[x0,v0,v1,v2,v4',x5,x6,x7,x8,x9,x10,x11,x12,x13] rfl ag).aW 4 v3 _ rfl ag
def Ba p:aa jl 56 #[.pointer<|some p] w λe w'=>∃b,e=.returned (Mv b)/\w.heap.size<=b/\MS jt w' b [(uf,.func (.func 103) #[.pointer<|some p] #[]),(G_,.func (.func 104) #[.pointer<|some p] #[]),(mR,.func (.func 105) #[.pointer<|some p] #[])]/\Bq w w':=
 (DY p).mono λe w' q=>⟨_,q.1,br _,q.2⟩
section
variable {m:MV}
def abj(h:RD w rb sb m s t k)i:aa jl 139 #[Pv rb,Iv i] w λe w'=>e=.returned (.agg #[Iv i,Nv k])/\Bq w w':=by
 have⟨c,f,z⟩:=h.bx.alloc<|Cv #[Iv 0,Iv 0] 90;go_wp2
 exact bodyPost_ret (v:=Av #[Iv i,Nv k]) (by simp[results,Tryz.results139,go_sem]) rfl ⟨rfl,bw _⟩
def vH(h:RD w rb sb m s t k):aa jl 61 #[Pv rb] w λe w'=>e=.returned (.agg #[Iv 3,Nv t.ah,Nv t.to])/\Bq w w':=by
 have⟨c,f,z⟩:=h.bx.alloc<|Cv #[Iv 0,Iv 0,Iv 0] 114;go_wp2
 go_region
 go_wp2
 exact bodyPost_ret (v:=Av #[Iv 3,Nv t.ah,Nv t.to]) (by simp[results,Tryz.results61,go_sem]) rfl ⟨rfl,(bw _).drew⟩
def Bx.lS{w}(h:Bx w b C):Bx w.drew b C:=h.below (ju _ _).drew
def Ke.yO rb w j v:Ke rb w (w.setCell ⟨rb,j,fa⟩ v):=⟨rfl,rfl,rfl,BL,λk _ hn=>jv _ _ _ _ hn⟩
def Ke.gd{rb}{b c}(h:Ke rb a b)(k:Bq b c):Ke rb a c:=h.trans<|Ke.of k
abbrev lZ(t:jd):Array ea:=#[Nv t.ah,Nv t.to,.string<|aq t,.string t.text]
def Bx.bU{w}(h:Bx w b C)(d:b≠b2)j v:Bx (w.setCell ⟨b2,j,fa⟩ v) b C:=
 h.same BL (jv _ _ _ _ d)
def Bx.agL{w}(h:Bx w b C)(d:b≠b2)v0 v1 v2 v3:Bx ((((w.setCell ⟨b2,0,fa⟩ v0).setCell ⟨b2,1,fa⟩ v1).setCell ⟨b2,2,fa⟩ v2).setCell ⟨b2,3,fa⟩ v3) b C:=
 (((h.bU d 0 v0).bU d 1 v1).bU d 2 v2).bU d 3 v3
def Ke.aex{rb}{w}(h:Ke rb a w)v0 v1 v2 v3:Ke rb a ((((w.setCell ⟨rb,1,fa⟩ v0).setCell ⟨rb,2,fa⟩ v1).setCell ⟨rb,3,fa⟩ v2).setCell ⟨rb,4,fa⟩ v3):=
 (((h.trans<|Ke.yO rb _ 1 v0).trans<|Ke.yO rb _ 2 v1).trans<|Ke.yO rb _ 3 v2).trans (Ke.yO rb _ 4 v3)
def Ke.Pd{rb}{w}(h:Ke rb a w)(d:a.heap.size<=b)v0 v1 v2 v3:Ke rb a ((((w.setCell ⟨b,0,fa⟩ v0).setCell ⟨b,1,fa⟩ v1).setCell ⟨b,2,fa⟩ v2).setCell ⟨b,3,fa⟩ v3):=
 (((h.oB d 0 v0).oB d 1 v1).oB d 2 v2).oB d 3 v3
def jU rb sb m s(t:jd)w e w':=
 Ke rb w w'/\(((aG s t.to).kind≠6/\e=.returned (dM t)/\RD w' rb sb m s (aG s t.to) t.to)\/((aG s t.to).kind=6/\e=bX (eA<|aG s t.to)))
def yP(h:RD w rb sb m s t k)(S:s.size<=1000)(U:t.to<=s.size):aa jl 62 #[Pv rb] w (jU rb sb m s t w):=by
 have hz:=h.bx.z;have d:rb≠w.heap.size:=ae;have ai_:rb≠w.heap.size+1:=ae;have x:=ai<|(((h.bx.aW 5 (Nv t.to) (rdC s t t.to m sb) rfl ag).alloc (Cv yQ 119)).alloc (Cv (lZ t) 119)).lS;have D:Hid (Bx ((((w.setCell ⟨rb,5,fa⟩<|Nv t.to).alloc<|Cv yQ 119).alloc<|Cv (lZ t) 119).drew) (w.heap.size+1)<|lZ t):=ai (by have:=(Bx.new ((w.setCell ⟨rb,5,fa⟩<|Nv t.to).alloc<|Cv yQ 119) (lZ t) 119).lS;simpa[j7]using this);have G:Hid (Bx ((((w.setCell ⟨rb,5,fa⟩<|Nv t.to).alloc<|Cv yQ 119).alloc<|Cv (lZ t) 119).drew) w.heap.size yQ):=ai (by have:=((Bx.new (w.setCell ⟨rb,5,fa⟩<|Nv t.to) yQ 119).alloc<|Cv (lZ t) 119).lS;simpa[j7]using this);have o:Hid (Ke rb w<|(((w.setCell ⟨rb,5,fa⟩<|Nv t.to).alloc<|Cv yQ 119).alloc<|Cv (lZ t) 119).drew):=ai<|(Ke.yO rb w 5<|Nv t.to).gd<|((bw _).alloc ag _).drew;have E:∀W,Laid W->aa jl 60 #[Sv s,Nv t.to] W (eQ (aG s t.to) W):=λW hW=>G' hW s t.to U S;have i:=λW(hW:Ke rb w W)=>h.la.ke hW h.h2;have⟨c,f,z⟩:=h.bx;have⟨c1,f1,z1⟩:=uh x;unfold jU;generalize aG s t.to=T at E⊢;by_cases l:T.kind=6
 .go_wp2
  go_region_dies
  all_goals(refine(E _<|i _ o).mono ?_;intro e y r;obtain⟨rfl,g⟩:=r.bad l;exact⟨rfl,o.gd g,Or.inr ⟨l,by rw[ado T l];rfl⟩⟩)
 .go_wp2
  go_region_with(go_at_call 60;refine(E _<|i _ o).mono ?_;intro e y r;obtain⟨rfl,g⟩:=r.ok l;have I:=ai<|o.gd g;have u:=ai<|x.below g;have J:=ai<|D.below g;have A:=ai<|G.below g;have⟨c2,f2,z2⟩:=uh u;have⟨d2,e2,y2⟩:=uh J;have⟨g2,h2,x2⟩:=uh A;clear g)
  all_goals(
   go_wp2_with fail;have hx:Bx y rb (rdC s t t.to m sb):=uh u;have F:=u.WU (Nv T.ah) (Nv T.to) (Sv<|aq T)<|Sv T.text;have K:=F.agL d (Nv t.ah) (Nv t.to) (Sv<|aq t)<|Sv t.text;have L:=((((A.bU d.symm 1<|Nv T.ah).bU d.symm 2<|Nv T.to).bU d.symm 3<|Sv<|aq T).bU d.symm 4<|Sv T.text).mS rfl (Nv t.ah) (Nv t.to) (Sv<|aq t) (Sv t.text);have B:=(I.aex (Nv T.ah) (Nv T.to) (Sv<|aq T)<|Sv T.text).Pd (b:=w.heap.size) (br _) (Nv t.ah) (Nv t.to) (Sv<|aq t)<|Sv t.text;obtain⟨O,_,_⟩:=L
   exact bodyPost_ret (v:=dM t) (by simp[results,Tryz.results62,go_sem,O,dM]) rfl ⟨B,Or.inl ⟨l,rfl,h.ke B K⟩⟩)
end
def jU.ok{m:MV}(h:jU rb sb m s t w e w')(o:(aG s t.to).kind≠6):e=.returned (.agg #[Nv t.ah,Nv t.to,.string<|aq t,.string t.text])/\Ke rb w w'/\RD w' rb sb m s (aG s t.to) t.to:=by
 obtain⟨d,⟨_,g,i⟩|⟨l,_⟩⟩:=h
 .exact⟨g,d,i⟩
 .exact absurd l o
def jU.bad{m:MV}(h:jU rb sb m s t w e w')(l:(aG s t.to).kind=6):e=bX (eA<|aG s t.to)/\Ke rb w w':=by
 obtain⟨d,⟨g,_⟩|⟨_,i⟩⟩:=h
 .exact absurd l g
 .exact⟨i,d⟩
def Ke.sA(h:Ke rb a w)(d:a.heap.size<=b)v0 v1 v2:Ke rb a (((w.setCell ⟨b,0,fa⟩ v0).setCell ⟨b,1,fa⟩ v1).setCell ⟨b,2,fa⟩ v2):=
 ((h.oB d 0 v0).oB d 1 v1).oB d 2 v2
def RD.set{m:MV}(h:RD w rb sb m s t k)(g:b≠rb)(i:b≠sb)(l:2<=b)j v:RD (w.setCell ⟨b,j,fa⟩ v) rb sb m s t k:=by
 have d:=Ke.yO b w j v;exact⟨h.bx.bU g.symm j v,h.sm.sv i.symm j v,h.ne,h.la.ke d l,h.h2⟩
def RD.mS{m:MV}(h:RD w rb sb m s t k)(d:b≠rb)(g:b≠sb)(i:2<=b)v0 v1 v2 v3:RD ((((w.setCell ⟨b,0,fa⟩ v0).setCell ⟨b,1,fa⟩ v1).setCell ⟨b,2,fa⟩ v2).setCell ⟨b,3,fa⟩ v3) rb sb m s t k:=
 (((h.set d g i 0 v0).set d g i 1 v1).set d g i 2 v2).set d g i 3 v3
def RD.Ti{m:MV}(h:RD w rb sb m s t k)(d:b≠rb)(g:b≠sb)(i:2<=b)v0 v1 v2:RD (((w.setCell ⟨b,0,fa⟩ v0).setCell ⟨b,1,fa⟩ v1).setCell ⟨b,2,fa⟩ v2) rb sb m s t k:=
 ((h.set d g i 0 v0).set d g i 1 v1).set d g i 2 v2
def Bx.Ha(h:Bx w b C)(d:Ke rb w w')(g:b≠rb):Bx w' b C:=h.same d.size<|d.block b h.z g
section
variable {m:MV}
def RD.new_ne(h:RD w rb sb m s t k):w.heap.size≠rb/\w.heap.size≠sb/\2<=w.heap.size:=by
 have h1:=h.bx.z;have h2:=h.sm.lt;have h3:=h.la.hz;omega
def jV(h:RD w rb sb m s t k)(B:s.size<=1000)(D:t.to<=s.size)kd(hkd:((aq t).toList==kd.toList)=ga):aa jl 38 #[Pv rb,.string kd] w (jU rb sb m s t w):=by
 have⟨u,E,F⟩:=h.new_ne;have l:=h.af<|bw<|Cv yQ 119;have G:=Bx.new w yQ 119;have x:=Ke.of (rb:=rb)<|(ju _ w).alloc (br _)<|Cv yQ 119;have⟨c,f,z⟩:=l.bx;by_cases i:(aG s t.to).kind=6
 .go_in;go_wp2_with(go_at_call 62;refine(yP l B D).mono ?_;intro e I o;obtain⟨rfl,d⟩:=o.bad i;have r:=ai<|x.trans d;clear d);exact⟨rfl,r,Or.inr ⟨i,rfl⟩⟩
 .go_in;go_wp2_with(go_at_call 62;refine(yP l B D).mono ?_;intro e I o;obtain⟨rfl,d,y⟩:=o.ok i;have r:=ai<|x.trans d;have A:=ai<|G.Ha d u;have J:=ai y;have⟨g,gf,gz⟩:=uh A;clear d y);have K:=A.mS rfl (Nv t.ah) (Nv t.to) (Sv<|aq t) (Sv t.text);obtain⟨L,fF,zF⟩:=K;exact bodyPost_ret (v:=dM t) (by simp[results,Tryz.results38,go_sem,L,dM]) rfl ⟨r.Pd (br _) _ _ _ _,Or.inl ⟨i,rfl,J.mS u E F _ _ _ _⟩⟩
def DZ(h:RD w rb sb m s t k)kd(hkd:((aq t).toList==kd.toList)=ia)(o:t.kind≠6):aa jl 38 #[Pv rb,.string kd] w λe w'=>e=bX (eA t)/\Ke rb w w':=by
 have d:=h.af<|bw<|Cv yQ 119;have i:=Ke.of (rb:=rb)<|(Below.refl _ w).alloc (br _)<|Cv yQ 119;have⟨c,f,z⟩:=d.bx;go_in;go_wp2_with(go_at_call 61;refine(vH d).mono ?_;rintro e w1⟨rfl,g⟩;have l:=ai<|i.gd g;clear g);exact⟨rfl,by rw[eA,if_neg o];rfl,l⟩
def WV(h:RD w rb sb m s t k)(u:s.size<=1000)(x:t.to<=s.size)kd(hkd:((aq t).toList==kd.toList)=ga):aa jl 145 #[Pv rb,.string kd] w λe w'=>Ke rb w w'/\(((aG s t.to).kind≠6/\e=.returned (.bool ga)/\RD w' rb sb m s (aG s t.to) t.to)\/((aG s t.to).kind=6/\e=bX (eA<|aG s t.to))):=by
 have⟨c,f,z⟩:=h.bx;have o:=ai h;by_cases g:(aG s t.to).kind=6
 .go_in;go_wp2_with(go_at_call 62;refine(yP o u x).mono ?_;intro e y i;obtain⟨rfl,d⟩:=i.bad g;have l:=ai d;clear d);exact⟨rfl,l,Or.inr ⟨g,rfl⟩⟩
 .go_in;go_wp2_with(go_at_call 62;refine(yP o u x).mono ?_;intro e y i;obtain⟨rfl,d,r⟩:=i.ok g;have l:=ai d;have A:=ai r;clear d r);go_ret;exact⟨l,Or.inl ⟨g,rfl,A⟩⟩
def abk(h:RD w rb sb m s t k)kd(hkd:((aq t).toList==kd.toList)=ia):aa jl 145 #[Pv rb,.string kd] w λe w'=>e=.returned (.bool ia)/\w'=w:=by
 have⟨c,f,z⟩:=h.bx;go_wp2
 go_ret;exact⟨rfl,rfl⟩
end
def p_(s:BA):=∃x r,s.toList=x::r/\Pu.AU x.toNat=ga
structure gh(t:jd):Prop where
 kd:t.kind=1\/t.kind=2\/t.kind=3\/t.kind=4\/t.kind=5\/t.kind=6\/t.kind=7
 s5:t.kind=5->t.text.size<=5
 v3:t.kind=3->∃r,t.text.toList=39::r
 v2:t.kind=2->p_ t.text
def Mg(h:Pu.fe s=ga):s.size<=5:=by
 rw[Pu.fe]at h;rw[List.any_eq_true]at h;obtain⟨x,hx,d⟩:=h;rw[beq_iff_eq]at d;have:s.toList.length<=5:=by
  rw[<-d];clear d;revert x;simp[Pu.words,ja];decide
 rw[ja]at this;simpa using this
def iY{i}(hi:i<s.size)(hj:i<j):(s.extract i j).toList=s[i]::(s.extract (i+1) j).toList:=by
 rw[ja,ja,j5,j5];apply List.ext_getElem?;intro k
 cases k with
 |zero=>
  simp;rw[jx ae];simp;rw[Array.getElem?_eq_getElem WW];rfl
 |succ k=>
  simp;by_cases d:k+1<j-i
  .rw[jx d,jx ae];simp;congr 1;omega
  .rw[List.getElem?_take_eq_none ae,List.getElem?_take_eq_none ae]
def WX s i(d:i<s.size):gh (jf s i):=by
 rw[jf];have r:∀a b:Nat,(s.extract a b).size<=b-a:=λa b=>by simp[j3];omega
 repeat' split
 all_goals refine⟨by simp[ji],?_,?_,?_⟩
 all_goals intro q
 all_goals try(exfalso;simp[ji]at q;done)
 .rename_i h;exact Mg h
 .rename_i h2;have g:=jj s jh i;have l:jh (Pu.at_ s i)=ga:=by rw[jh];simp[h2]
  have o:i<Pu.aK s jh i:=by rw[Pu.fJ d l];exact jm (Nat.lt_succ_self i)<|jj s jh<|i+1
  exact⟨_,_,iY d o,by rw[<-Pu.nE d];exact h2⟩
 .rename_i h3 h4;have l:s[i].toNat=39:=by rw[<-Pu.nE d];exact h3.1
  have g:=jj s jh<|i+1;have o:s[i]=39:=UInt8.toNat_inj.1 l;exact⟨_,by rw[<-o];exact iY d ae⟩
 .exact jp (r _ _) ae
 .exact jp (r _ _) ae
theorem Mh s p:gh (aG s p):=by
 rw[aG];split
 .rename_i h;exact WX s _ h
 .exact⟨qBr,qBr,qBr,qBr⟩
theorem yR s p:(aG s p).to<=s.size:=by
 rw[aG];split
 .rename_i h;exact(jk s _ h).2
 .simp[Pu.fD]
def Cg s:∀k,k<(jc s 0).length->(jc s 0).drop k=jc s (aF (jc s 0) k)/\aF (jc s 0) k<=s.size:=by
 intro k
 induction k with
 |zero=>intro _;exact⟨by simp[aF],by simp[aF]⟩|succ k ih=>
  intro hk;have⟨l,o⟩:=ih ae;have d:=l8 s (aF (jc s 0) k) o;rw[<-l]at d;have r:(jc s 0).drop k=tk (jc s 0) k::(jc s 0).drop (k+1):=by
   rw[<-Hb ae];exact jy ae
  have hl:((jc s 0).drop<|k+1).length≠0:=bQ;rw[r]at d;split at d
  .grind
  .injection d with g i;rw[<-g]at i;refine⟨?_,?_⟩
   .rw[i];simp[aF]
   .simp only[aF,Nat.add_sub_cancel];rw[if_neg ae,g];exact yR s _
theorem kR s k(g:k<(jc s 0).length):tk (jc s 0) k=aG s (aF (jc s 0) k):=by
 have⟨i,l⟩:=Cg s k g;have d:=l8 s (aF (jc s 0) k) l;rw[<-i]at d;have o:(jc s 0).drop k=tk (jc s 0) k::(jc s 0).drop (k+1):=by
  rw[<-Hb g];exact jy g
 rw[o]at d;split at d
 .rename_i h7;injection d with r _;rw[r];rw[aG]at h7⊢;split at h7
  .exfalso;revert h7;rw[jf];repeat' split
   all_goals simp[ji]
  .rename_i hn;rw[if_neg hn]
 .grind
def eY s k(hk:k<(jc s 0).length):gh (tk (jc s 0) k):=by grind[tk,kR,Mh]
def sB s k(hk:k<(jc s 0).length):(tk (jc s 0) k).to<=s.size:=by grind[tk,kR,yR]
def Pe s k(g:k<(jc s 0).length)(u:(tk (jc s 0) k).kind≠7):k+1<(jc s 0).length/\aG s (tk (jc s 0) k).to=tk (jc s 0) (k+1)/\aF (jc s 0) (k+1)=(tk (jc s 0) k).to:=by
 have i:aF (jc s 0) (k+1)=(tk (jc s 0) k).to:=by simp[aF]
 have⟨o,r⟩:=Cg s k g;have l:=l8 s (aF (jc s 0) k) r;rw[<-o,<-kR s k g,if_neg u]at l;have hne:jc s (tk (jc s 0) k).to≠[]:=by
  rw[l8 s _<|sB s k g];split<;>simp
 have d:k+1<(jc s 0).length:=by
  have:=congrArg jz l;simp at this;have h5:0<(jc s (tk (jc s 0) k).to).length:=BS;omega
 exact⟨d,by rw[<-i,<-kR s (k+1) d],i⟩
def iZ(h:t.kind=1):aq t=⟨#[108,111,119,32,110,97,109,101]⟩:=by grind[aq]
def hY(h:t.kind=2):aq t=⟨#[117,112,32,110,97,109,101]⟩:=by grind[aq]
def h_(h:t.kind=3):aq t=⟨#[97,32,118,97,114,105,97,98,108,101]⟩:=by grind[aq]
def i_(h:t.kind=4):aq t=⟨#[97,32,110,117,109,98,101,114]⟩:=by grind[aq]
def pB(h:t.kind=5):aq t=t.text:=by grind[aq]
def jr(h:t.kind=7):aq t=⟨#[116,104,101,32,101,110,100]⟩:=by grind[aq]
def WY(h:gh t)(g:t.kind≠6){kd}(i:kd.size<=2):((aq t).toList==kd.toList)=aT t kd:=by
 have hkl:kd.toList.length<=2:=by rw[ja];simpa using i
 have d:∀(l:BA),2<l.toList.length->(l.toList==kd.toList)=ia:=BS;rw[aT];obtain h|h|h|h|h|h|h:=h.kd
 .rw[iZ h,d _ qAp,h];rfl
 .rw[hY h,d _ qAp,h];rfl
 .rw[h_ h,d _ qAp,h];rfl
 .rw[i_ h,d _ qAp,h];rfl
 .rw[pB h,h];simp
 .exact absurd h g
 .rw[jr h,d _ qAp,h];rfl
def l9(h:gh t)(hk:t.kind≠6){kd:BA}(hs:5<kd.size)(g:t.kind=5):((aq t).toList==kd.toList)=ia:=by
 rw[<-Bool.not_eq_true,beq_iff_eq];intro e;have:aq t=t.text:=by rw[aq];simp[g]
 rw[this]at e;have h1:=h.s5 g;have d:=congrArg jz e;rw[ja,ja]at d;simp at d;omega
def D5(h:gh t)(g:t.kind≠6):((aq t).toList==G_.toList)=(t.kind==2):=by
 obtain d|d|d|d|d|d|d:=h.kd
 .rw[iZ d,d];simp[ja]
 .rw[hY d,d];simp[ja]
 .rw[h_ d,d];simp[ja]
 .rw[i_ d,d];simp[ja]
 .rw[l9 h g aD d];simp[d]
 .exact absurd d g
 .rw[jr d,d];simp[ja]
def WZ(h:gh t)(g:t.kind≠6):((aq t).toList==[116,104,101,32,101,110,100])=(t.kind==7):=by
 obtain d|d|d|d|d|d|d:=h.kd
 .rw[iZ d,d];simp[ja]
 .rw[hY d,d];simp[ja]
 .rw[h_ d,d];simp[ja]
 .rw[i_ d,d];simp[ja]
 .have:=l9 (kd:=⟨#[116,104,101,32,101,110,100]⟩) h g aD d;rw[show(ByteArray.mk #[116,104,101,32,101,110,100]).toList=[116,104,101,32,101,110,100]from toList_mk _]at this;rw[this];simp[d]
 .exact absurd d g
 .rw[jr d,d];simp[ja]
def Ch(h:gh t)(g:t.kind≠6)rb:ba (aq t) (smL rb)=if t.kind=3 then some (.func (.func 103) #[Pv rb] #[])else if t.kind=2 then some (.func (.func 104) #[Pv rb] #[])else if aT t mR=ga then some (.func (.func 105) #[Pv rb] #[])else fa:=by
 have i:∀(x:BA),(x=aq t)↔((aq t).toList==x.toList)=ga:=λx=>by
  rw[beq_iff_eq,ja,ja];constructor
  .intro q;rw[q]
  .intro q
   cases x;cases hq:aq t
   rw[hq]at q;simp at q;congr 1;exact q.symm
 rw[smL,ba];rw[ba];rw[ba];rw[ba];simp only[i];rw[D5 h g,WY h g (kd:=mR) aD];obtain d|d|d|d|d|d|d:=h.kd
 .have:((aq t).toList==uf.toList)=ia:=by rw[iZ d];simp[ja]
  rw[this];simp[d,aT]
 .have:((aq t).toList==uf.toList)=ia:=by rw[hY d];simp[ja]
  rw[this];simp[d]
 .have:((aq t).toList==uf.toList)=ga:=by rw[h_ d];simp[ja]
  rw[this];simp[d]
 .have:((aq t).toList==uf.toList)=ia:=by rw[i_ d];simp[ja]
  rw[this];simp[d,aT]
 .rw[l9 h g aD d];simp[d]
 .exact absurd d g
 .have:((aq t).toList==uf.toList)=ia:=by rw[jr d];simp[ja]
  rw[this];simp[d,aT]
def cA rb sb m s(t:jd)v w e w':=
 Ke rb w w'/\(((aG s t.to).kind≠6/\e=.returned v/\RD w' rb sb m s (aG s t.to) t.to)\/((aG s t.to).kind=6/\e=bX (eA<|aG s t.to)))
def cA.ok{m:MV}(h:cA rb sb m s t v w e w')(hk:(aG s t.to).kind≠6):e=.returned v/\Ke rb w w'/\RD w' rb sb m s (aG s t.to) t.to:=by grind[cA,aG]
def cA.bad{m:MV}(h:cA rb sb m s t v w e w')(hk:(aG s t.to).kind=6):e=bX (eA<|aG s t.to)/\Ke rb w w':=by grind[cA,aG,eA]
inductive PT(w:ca)(P:Nat->Prop):Nd->ea->Prop where
 |var(s:BA)(n f t a:Nat)(x y:Int)(hq:∃r,s.toList=39::r)(hx:x=(f:Int))(hy:y=((f+s.size:Nat):Int)):PT w P (.mk 16 s n [] f t a) (.iface 191<|.agg #[Iv x,Iv y,.string<|s.extract 1 s.size])
 |fn(s:BA)(n:Nat)(a b:Nd)(f t at_:Nat)(x y:Int)(va vb:ea)(ha:PT w P a va)(hb:PT w P b vb):PT w P (.mk 17 s n [a,b] f t at_) (.iface 228<|.agg #[Iv x,Iv y,va,vb])
 |pr(s:BA)(n:Nat)(a b:Nd)(f t at_:Nat)(x y:Int)(va vb:ea)(ha:PT w P a va)(hb:PT w P b vb):PT w P (.mk 6 s n [a,b] f t at_) (.iface 231<|.agg #[Iv x,Iv y,va,vb])
 |up(s:BA)(n:Nat)(L:List Nd)(f t at_:Nat)(x y x' y':Int)(sa:Option Addr)(sc:Nat)(vs:Nat->ea)(hu:p_ s)(bK:L=[]\/∃g,sa=some ⟨g,0,fa⟩/\P g/\g<w.heap.size/\∀i,i<L.length->w.cell? ⟨g,i,fa⟩=some (vs i))(hr:∀i(h:i<L.length),PT w P L[i]<|vs i)(hx:x'=(at_:Int))(hy:y'=((at_+s.size:Nat):Int)):
  PT w P (.mk 2 s n L f t at_) (.iface 230<|.agg #[Iv x,Iv y,Iv x',Iv y',.string s,.slice sa L.length sc])
theorem PT.move(h:PT w P nd v)(z:w.heap.size<=w'.heap.size)(A:∀b,P b->b<w.heap.size->w'.heap[b]? =w.heap[b]?)(l:∀b,P b->b<w.heap.size->Q b):PT w' Q nd v:=by
 induction h with
 |var s n f t a x y l hx hy=>exact .var s n f t a x y l hx hy|fn s n a b f t at_ x y va vb _ _ tK tM=>exact .fn s n a b f t at_ x y va vb tK tM|pr s n a b f t at_ x y va vb _ _ tK tM=>exact .pr s n a b f t at_ x y va vb tK tM|up s n L f t at_ x y x' y' sa sc vs hu bK hr hx hy ih=>
  refine .up s n L f t at_ x y x' y' sa sc vs hu ?_ ih hx hy;obtain r|⟨g,u,o,d,hc⟩:=bK
  .exact Or.inl r
  .refine Or.inr ⟨g,u,l g o d,jm d z,λi hi=>?_⟩;rw[j6 (a:=⟨g,i,fa⟩) (w:=w)<|A g o d];exact hc i hi
def PT.af(h:PT w P nd v)(d:Bq w w'):PT w' P nd v:=h.move d.size (λb _ hz=>d.block b hz)<|λ_ p _=>p
def PT.wide(h:PT w P nd v)(d:∀b,P b->Q b):PT w Q nd v:=h.move (br _) (λ_ _ _=>rfl)<|λb p _=>d b p
def Hg s i(l:i<s.size):(jf s i).to=(jf s i).ah+(jf s i).text.size:=by
 have d:=jk s i l;revert d;rw[jf];have g:∀k b:Nat,i<b->b<=s.size->(ji s i k b).to=(ji s i k b).ah+(ji s i k b).text.size:=λk b h1 h2=>by
  show b=i+(s.extract i b).size;rw[j3];omega
 repeat' split
 all_goals intro d
 all_goals exact g _ _ d.1 d.2
def adp s k(d:k<(jc s 0).length):(tk (jc s 0) k).to=(tk (jc s 0) k).ah+(tk (jc s 0) k).text.size:=by
 rw[kR s k d];rw[aG];split
 .rename_i h;exact Hg s _ h
 .simp[Pu.fD];rfl
def fin{α:Type}(T:List jd):Except Fl (α×Nat)->Except Fl (α×Nat)
 |.error f=>.error f|.ok (a,k)=>if(tk T k).kind=6 then .error (eA<|tk T k)else .ok (a,k)
def Bx.l_(h:Bx w b C)(o:C.size=3)v0 v1 v2:Bx (((w.setCell ⟨b,0,fa⟩ v0).setCell ⟨b,1,fa⟩ v1).setCell ⟨b,2,fa⟩ v2) b #[v0,v1,v2]:=by
 obtain⟨i,g,d,rfl⟩:∃i g d,C=#[i,g,d]:=by
  obtain⟨l⟩:=C
  match l,o with
  |[a,b,c],_=>grind
 exact((h.aW 0 v0 #[v0,g,d] rfl ag).aW 1 v1 #[v0,v1,d] rfl ag).aW 2 v2 #[v0,v1,v2] rfl ag
section
variable {m:MV}
abbrev zNm:Array ea:=#[Iv 0,Iv 0,.string ⟨#[]⟩]
def Mi(h:RD w rb sb m s t k)(B:s.size<=1000)(D:t.to<=s.size)kd(i:((aq t).toList==kd.toList)=ga):aa jl 135 #[Pv rb,.string kd] w (cA rb sb m s t (.agg #[Nv t.ah,Nv t.to,.string t.text]) w):=by
 have⟨u,E,F⟩:=h.new_ne;have x:=h.af<|bw<|Cv zNm 92;have G:=Bx.new w zNm 92;have y:=Ke.of (rb:=rb)<|(ju _ w).alloc (br _)<|Cv zNm 92;by_cases l:(aG s t.to).kind=6
 .go_in;go_wp2_with(go_at_call 38;refine(jV x B D kd i).mono ?_;intro e I o;obtain⟨rfl,d⟩:=o.bad l;have r:=ai<|y.trans d;clear d);exact⟨rfl,r,Or.inr ⟨l,rfl⟩⟩
 .go_in;go_wp2_with(go_at_call 38;refine(jV x B D kd i).mono ?_;intro e I o;obtain⟨rfl,d,z⟩:=o.ok l;have r:=ai<|(y.trans d).gd<|bw<|Cv (lZ t) 119;have A:=ai<|(G.Ha d u).alloc<|Cv (lZ t) 119;have J:=ai<|z.af<|bw<|Cv (lZ t) 119;have⟨g,gf,gz⟩:=uh A;clear d z);have K:=A.l_ rfl (Nv t.ah) (Nv t.to) (Sv t.text);obtain⟨L,fF,zF⟩:=K;exact bodyPost_ret (v:=Av #[Nv t.ah,Nv t.to,Sv t.text]) (by simp[results,Tryz.results135,go_sem,L]) rfl ⟨r.sA (br _) _ _ _,Or.inl ⟨l,rfl,J.Ti u E F _ _ _⟩⟩
def abl(h:RD w rb sb m s t k)kd(d:((aq t).toList==kd.toList)=ia)(r:t.kind≠6):aa jl 135 #[Pv rb,.string kd] w λe w'=>e=bX (eA t)/\Ke rb w w':=by
 have i:=h.af<|bw<|Cv zNm 92;have l:=Ke.of (rb:=rb)<|(Below.refl _ w).alloc (br _)<|Cv zNm 92;go_in;go_wp2_with(go_at_call 38;refine(DZ i kd d r).mono ?_;rintro e w1⟨rfl,g⟩;have o:=ai<|l.trans g;clear g);exact⟨rfl,rfl,o⟩
def jW(h:RD w rb sb m s t k)(E:s.size<=1000)(F:t.to<=s.size)(l:t.kind=3)(U:gh t):aa jl 136 #[Pv rb] w (cA rb sb m s t (.agg #[Nv t.ah,Nv t.to,.string<|t.text.extract 1 t.text.size]) w):=by
 have⟨z,G,I⟩:=h.new_ne;have A:=h.af<|bw<|Cv zNm 92;have J:=Bx.new w zNm 92;have B:=Ke.of (rb:=rb)<|(ju _ w).alloc (br _)<|Cv zNm 92;have i:((aq t).toList==uf.toList)=ga:=by rw[h_ l];simp[ja]
 have Bu:(1:Int)<=(t.text.size:Int):=by
  have⟨r,o⟩:=U.v3 l;have:=congrArg jz o;rw[ja]at this;simp at this;have e:t.text.size=t.text.data.size:=rfl;omega
 by_cases u:(aG s t.to).kind=6
 .go_in;go_wp2_with(go_at_call 38;refine(jV A E F uf i).mono ?_;intro e K x;obtain⟨rfl,d⟩:=x.bad u;have y:=ai<|B.trans d;clear d);exact⟨rfl,y,Or.inr ⟨u,rfl⟩⟩
 .go_in;go_wp2_with(go_at_call 38;refine(jV A E F uf i).mono ?_;intro e K x;obtain⟨rfl,d,o⟩:=x.ok u;have y:=ai<|(B.trans d).gd<|bw<|Cv (lZ t) 119;have D:=ai<|(J.Ha d z).alloc<|Cv (lZ t) 119;have L:=ai<|o.af<|bw<|Cv (lZ t) 119;have⟨g,gf,gz⟩:=uh D;clear d o);go_region;go_wp2_with fail;have O:=(D.l_ rfl (Nv t.ah) (Nv t.to) (Sv<|t.text.extract 1 t.text.size)).lS;obtain⟨S,fF,zF⟩:=O;exact bodyPost_ret (v:=Av #[Nv t.ah,Nv t.to,Sv<|t.text.extract 1 t.text.size]) (by simp[results,Tryz.results136,go_sem,S]) rfl ⟨(y.sA (br _) _ _ _).gd (Below.refl _ _).drew,Or.inl ⟨u,rfl,(L.Ti z G I _ _ _).af (Below.refl _ _).drew⟩⟩
def Tj(h:RD w rb sb m s t k)(x:s.size<=1000)(y:t.to<=s.size)(g:t.kind=3)(z:gh t):aa jl 103 #[Pv rb] w (cA rb sb m s t (.iface 191<|.agg #[Nv t.ah,Nv t.to,.string<|t.text.extract 1 t.text.size]) w):=by
 have r:=ai h;by_cases i:(aG s t.to).kind=6
 .go_in;go_wp2_with(go_at_call 136;refine(jW r x y g z).mono ?_;intro e A l;obtain⟨rfl,d⟩:=l.bad i;have o:=ai d;clear d);exact⟨rfl,o,Or.inr ⟨i,rfl⟩⟩
 .go_in;go_wp2_with(go_at_call 136;refine(jW r x y g z).mono ?_;intro e A l;obtain⟨rfl,d,u⟩:=l.ok i;have o:=ai d;have B:=ai u;clear d u);go_ret;exact⟨o.gd<|bw _,Or.inl ⟨i,rfl,B.af<|bw _⟩⟩
def Mk(h:RD w rb sb m s t k)(y:s.size<=1000)(z:t.to<=s.size)(r:t.kind=2):aa jl 104 #[Pv rb] w (cA rb sb m s t (.iface 230<|.agg #[Nv t.ah,Nv t.to,Nv t.ah,Nv t.to,.string t.text,.slice fa 0 0]) w):=by
 have u:=ai h;have d:((aq t).toList==G_.toList)=ga:=by rw[hY r];simp[ja]
 by_cases i:(aG s t.to).kind=6
 .go_in;go_wp2_with(go_at_call 135;refine(Mi u y z G_ d).mono ?_;intro e A l;obtain⟨rfl,g⟩:=l.bad i;have o:=ai g;clear g);exact⟨rfl,o,Or.inr ⟨i,rfl⟩⟩
 .go_in;go_wp2_with(go_at_call 135;refine(Mi u y z G_ d).mono ?_;intro e A l;obtain⟨rfl,g,x⟩:=l.ok i;have o:=ai g;have B:=ai x;clear g x);go_ret;exact⟨o.gd<|bw _,Or.inl ⟨i,rfl,B.af<|bw _⟩⟩
end
def ug{r}{a:α}(h:fin T r=.ok (a,k)):r=.ok (a,k)/\(tk T k).kind≠6:=by
 unfold fin at h;split at h
 .cases h
 .grind
theorem dn(a:α)(h:(tk T k).kind=6):fin T (.ok (a,k))=.error (eA<|tk T k):=by rw[fin];simp[h]
def kS(a:α)(h:(tk T k).kind≠6):fin T (.ok (a,k))=.ok (a,k):=by grind[tk,fin]
def aS{α:Type}(T:List jd)(g:M α):=∀k,(tk T k).kind=6->fin T (g k)=.error (eA<|tk T k)
theorem mT{m}{g:α->M β}{k'}{a}(h:fin T (m k)=.ok (a,k')):aI m g k=g a k':=by grind[fin,aI]
def b_{m}{g:α->M β}{f}(h:fin T (m k)=.error f)(hs:∀a,aS T<|g a):fin T (aI m g k)=.error f:=by grind[fin,aS,aI]
theorem eM(h:t.kind=6)s:aT t s=ia:=by grind[aT]
def W2(h:t.kind=6):aH t 1=ia:=by grind[aH,aQ,eM]
def qV(T:List jd)c:aS T (bt T c):=λk h=>by rw[bt];rw[eM h];rfl
theorem fK{m}{g:α->M β}(h:aS T m)(d:∀a,aS T<|g a):aS T (aI m g):=λk hk=>b_ (h k hk) d
def Hh(T:List jd)mk:aS T (oC T mk):=fK (qV T _) λ_ k h=>dn _ h
def Hi(T:List jd)p q:aS T (ap T p q 1):=λk h=>by
 rw[ap];rw[W2 h];rfl
def vI(T:List jd)p f a:aS T (lF T p f a):=by grind[aS,lF,eM,dn]
def Ci(T:List jd):∀n,aS T<|c_ T n
 |0=>λk h=>rfl|n+1=>λk h=>by
  rw[c_];refine b_ ?_<|λa=>vI T _ _ a;rw[fN];rw[if_neg<|by simp[h]];exact Hi T _ _ k h
def PT.iface{a}(h:PT w P a v):∃t x,v=.iface t (.agg x):=by
 cases h<;>exact⟨_,_,rfl⟩
def gV a b c d w:(Instr.field 119 (.agg #[a,b,c,d]) 0).run jl w=.ok (.agg #[a,b]) w:=qkr
def jX a b w:(Instr.field 90 (.agg #[a,b]) 0).run jl w=.ok a w:=qkr
def aey w:(zeroValue 208).run jl w=.ok .nilFunc w:=qkr
section
variable {m:MV}
def vJ{k}(h:(tk T k).kind=3\/(tk T k).kind=2):ap T p p 1 k=.ok (bD<|tk T k,k+1):=by
 have d:aT (tk T k) bT=ia:=by rw[aT];obtain h|h:=h<;>simp[h]
 rw[ap];rw[if_pos (by rw[aH,aQ];obtain h|h:=h<;>simp[h]),if_neg<|by simp[d]]
def uj(h:gh t):aH t 1=(t.kind==3||t.kind==2||aT t mR):=by
 show(aT t mR||_)=_;rw[if_pos rfl];rw[aQ];obtain h|h|h|h|h|h|h:=h.kd<;>simp[h,aT];repeat' split
 all_goals simp
def kT(o:Option ea)(z:ea):ea:=match o with|some v=>.tuple #[v,.bool ga]|none=>.tuple #[z,.bool ia]
def fid(t:jd):Nat:=if t.kind=3 then 103 else if t.kind=2 then 104 else 105
def W4(t:jd)args w:(callFunc (fid t) args).run jl w=.ok (.enter (fid t) args) w:=by
 rw[fid];split
 .kernel_rfl
 .split<;>kernel_rfl
def abm(i:gh t)(l:t.kind≠6)(o:aH t 1=ga):ba (aq t) (smL rb)=some (.func (.func<|fid t) #[Pv rb] #[]):=by
 rw[Ch i l];rw[uj i]at o;rw[fid];by_cases d:t.kind=3
 .simp[d]
 by_cases g:t.kind=2
 .simp[g]
 have:aT t mR=ga:=BS;simp[g,d,this]
def W5(g:gh t)(i:t.kind≠6)(d:aH t 1=ia):ba (aq t) (smL rb)=fa:=by
 rw[Ch g i];rw[uj g]at d;simp at d;simp[d]
end
abbrev zF:Array ea:=#[Iv 0,Iv 0,Iv 0]
def W6 a b c w:(Instr.typeAssert (.iface 114<|.agg #[a,b,c]) 20 114 ga).run jl w=.ok (.tuple #[.agg #[a,b,c],.bool ga]) w:=qkr
abbrev D6:BA:=⟨#[108,111,119,32,110,97,109,101]⟩
abbrev Ml:BA:=⟨#[97,32,110,117,109,98,101,114]⟩
abbrev rp rb:=Pv rb
abbrev oD(f rb:Nat):ea:=.func (.func f) #[rp rb] #[]
abbrev mM(f b:Nat):ea:=.func (.func f) #[] #[Pv b]
abbrev Tk(b c:Nat):ea:=.func (.func 148) #[] #[Pv b,Pv c]
abbrev Hj rb:=[(jY,oD 81 rb),(jZ,oD 82 rb)]
abbrev Pf rb:=[(wT,oD 83 rb),(jZ,oD 84 rb),(W7,oD 85 rb),(gW,oD 86 rb)]
abbrev sC rb b:=[(D6,mM 87 b),(G_,oD 89 rb),(Ml,mM 90 b),(dJ,mM 92 b),(cx,mM 94 b),(mR,oD 95 rb)]
abbrev qW rb b:=[(pR,oD 96 rb),(D6,mM 97 b),(G_,oD 98 rb),(Ml,mM 99 b),(dJ,mM 100 b),(cx,mM 101 b),(mR,oD 102 rb)]
def oE w N rb v L:=∃b,v=Mv b/\b<N/\b≠rb/\MS jt w b L
def gM w N rb b C:=b<N/\b≠rb/\Bx w b C
structure Maps w N rb(m:MV):Prop where
 d:oE w N rb m.a (Hj rb)
 wd:oE w N rb m.b (Pf rb)
 at_:∃x,gM w N rb x #[rp rb]/\oE w N rb m.c (sC rb x)
 pl:∃x,gM w N rb x #[rp rb]/\oE w N rb m.d (qW rb x)
 cm:∃x y,gM w N rb x #[rp rb]/\gM w N rb y #[oD 107 rb]/\oE w N rb m.f [(b8,Tk x y)]
 sm:∃x y x' y',gM w N rb x #[rp rb]/\gM w N rb y #[oD 108 rb]/\gM w N rb x' #[rp rb]/\gM w N rb y' #[oD 108 rb]/\oE w N rb m.g [(cY,Tk x y),(bM,Tk x' y')]
 pr:∃x y,gM w N rb x #[rp rb]/\gM w N rb y #[oD 109 rb]/\oE w N rb m.h [(cD,Tk x y)]
section
variable {m:MV}
theorem oE.move{L}(h:oE w N rb v L)(o:∀b,b<N->b≠rb->w'.heap[b]? =w.heap[b]?):oE w' N rb v L:=by
 obtain⟨b,i,d,g,l⟩:=h;exact⟨b,i,d,g,l.same<|o b d g⟩
theorem gM.move(h:gM w N rb b C)(d:w.heap.size<=w'.heap.size)(g:∀b,b<N->b≠rb->w'.heap[b]? =w.heap[b]?):gM w' N rb b C:=
 ⟨h.1,h.2.1,h.2.2.same d<|g b h.1 h.2.1⟩
theorem Maps.move(h:Maps w N rb m)(i:w.heap.size<=w'.heap.size)(g:∀b,b<N->b≠rb->w'.heap[b]? =w.heap[b]?):Maps w' N rb m:=by
 obtain⟨d,l,⟨o,r,u⟩,⟨x,y,b2⟩,⟨z,A,B,D,E⟩,⟨F,G,I,J,K,L,O,S,U⟩,⟨V,W,X,Y,Z⟩⟩:=h;exact⟨d.move g,l.move g,⟨o,r.move i g,u.move g⟩,⟨x,y.move i g,b2.move g⟩,⟨z,A,B.move i g,D.move i g,E.move g⟩,⟨F,G,I,J,K.move i g,L.move i g,O.move i g,S.move i g,U.move g⟩,⟨V,W,X.move i g,Y.move i g,Z.move g⟩⟩
structure Env w N rb sb m:Prop where
 sm:MS jt w sb (smL rb)
 la:Laid w
 h2:2<=rb
 hr:rb<N
 hs:sb<N
 ne:sb≠rb
 hN:N<=w.heap.size
 mp:Maps w N rb m
theorem Env.move(h:Env w N rb sb m)(d:w.heap.size<=w'.heap.size)(g:∀b,b<N->b≠rb->w'.heap[b]? =w.heap[b]?):Env w' N rb sb m:=by
 have c:∀b o,b<2->w'.cell? ⟨b,o,fa⟩=w.cell? ⟨b,o,fa⟩:=λb o q=>j6 (a:=⟨b,o,fa⟩) (g b (by have:=h.hr;have:=h.h2;omega) (by have:=h.h2;omega));exact⟨h.sm.same<|g sb h.hs h.ne,⟨λj hj=>(c 1 j ae).trans<|h.la.words j hj,λj hj=>(c 0 j ae).trans<|h.la.signs j hj,jp h.la.hz d⟩,h.h2,h.hr,h.hs,h.ne,jp h.hN d,h.mp.move d g⟩
def Env.ke(h:Env w N rb sb m)(d:Ke rb w w'):Env w' N rb sb m:=h.move d.size λb hb hn=>d.block b (jm hb h.hN) hn
end
structure SX w N rb sb m s k:Prop where
 bx:Bx w rb (rdC s (tk (jc s 0) k) (aF (jc s 0) k) m sb)
 ev:Env w N rb sb m
 lt:k<(jc s 0).length
 ok:(tk (jc s 0) k).kind≠6
def aC{α:Type}(R:ca->(Nat->Prop)->α->ea->Prop)N rb sb m s r w e w':=
 Ke rb w w'/\match fin (jc s 0) r with
  |.error f=>e=bX f|.ok (a,k)=>∃v,e=.returned v/\SX w' N rb sb m s k/\R w' (λb=>w.heap.size<=b) a v
section
variable {R:ca->(Nat->Prop)->α->ea->Prop} {m:MV}
def SX.rd(h:SX w N rb sb m s k):RD w rb sb m s (tk (jc s 0) k) (aF (jc s 0) k):=⟨h.bx,h.ev.sm,h.ev.ne,h.ev.la,h.ev.h2⟩
theorem SX.move(h:SX w N rb sb m s k)(d:w.heap.size<=w'.heap.size)(g:∀b,b<N->w'.heap[b]? =w.heap[b]?):SX w' N rb sb m s k:=
 ⟨h.bx.same d<|g rb h.ev.hr,h.ev.move d<|λb q _=>g b q,h.lt,h.ok⟩
def SX.af(h:SX w N rb sb m s k)(d:Bq w w'):SX w' N rb sb m s k:=h.move d.size λb q=>d.block b<|jm q h.ev.hN
def SX.z(h:SX w N rb sb m s k):rb<w.heap.size:=h.bx.z
def SX.of(h:RD w rb sb m s (tk (jc s 0) k) (aF (jc s 0) k))(d:Env w N rb sb m)(g:k<(jc s 0).length)(i:(tk (jc s 0) k).kind≠6):SX w N rb sb m s k:=⟨h.bx,d,g,i⟩
def aC.ok{r}(h:aC R N rb sb m s r w e w'){a}(hr:fin (jc s 0) r=.ok (a,k)):∃v,e=.returned v/\Ke rb w w'/\SX w' N rb sb m s k/\R w' (λb=>w.heap.size<=b) a v:=by grind[aC,fin]
def aC.bad{r}(h:aC R N rb sb m s r w e w'){f:Fl}(hr:fin (jc s 0) r=.error f):e=bX f/\Ke rb w w':=by grind[aC,fin]
def aC.fail{r}{f:Fl}(d:Ke rb w w')(h:fin (jc s 0) r=.error f):aC R N rb sb m s r w (bX f) w':=⟨d,by rw[h]⟩
def aC.stop{r}{mm}{g:β->M α}{f:Fl}(i:r=aI mm g j)(l:fin (jc s 0) (mm j)=.error f)(d:∀a,aS (jc s 0)<|g a)(o:Ke rb w w'):aC R N rb sb m s r w (bX f) w':=
 aC.fail o (by rw[i,b_ l d])
def aC.done{r}{a}(g:r=.ok (a,k))(i:Ke rb w w')(d:SX w' N rb sb m s k)(l:R w' (λb=>w.heap.size<=b) a v):aC R N rb sb m s r w (.returned v) w':=by
 refine⟨i,?_⟩;rw[g,kS _ d.ok];exact⟨v,rfl,d,l⟩
def aC.go{γ:Type}{post}{f}{args}{w0}{r}{mm}{g}{R':ca->(Nat->Prop)->γ->ea->Prop}(l:Hid (Ke rb w0 w))(o:Hid (r=aI mm g j))(y:aa jl f args w (aC R N rb sb m s (mm j) w))(i:∀a,aS (jc s 0)<|g a)(bad:∀f' w',aC R' N rb sb m s r w0 (bX f') w'->post (bX f') w')(ok:∀a k' v w',Hid (SX w' N rb sb m s k')->Hid (Ke rb w0 w')->Hid (r=g a k')->mm j=.ok (a,k')->w.heap.size<=w'.heap.size->Ke rb w w'->R w' (λb=>w.heap.size<=b) a v->post (.returned v) w'):aa jl f args w post:=by
 refine y.mono λe w' hp=>?_
 cases hA:fin (jc s 0) (mm j)with
 |error f'=>obtain⟨rfl,d⟩:=hp.bad hA;exact bad f' w'<|aC.stop o hA i<|l.trans d
 |ok p=>obtain⟨a,k'⟩:=p;obtain⟨v,rfl,d,u,x⟩:=hp.ok hA;exact ok a k' v w' u (l.trans d) (o.trans<|mT hA) (ug hA).1 d.size d x
def cA.x(h:cA rb sb m s (tk (jc s 0) k) v w e w')(i:SX w N rb sb m s k)(y:(tk (jc s 0) k).kind≠7){a}(z:R w' (λb=>w.heap.size<=b) a v):aC R N rb sb m s (.ok (a,k+1)) w e w':=by
 have⟨l,o,r⟩:=Pe s k i.lt y;rw[cA]at h;rw[o,<-r]at h;refine⟨h.1,?_⟩;rw[fin];obtain⟨d,g,u⟩|⟨d,g⟩:=h.2
 .simp only[if_neg d];exact⟨v,g,SX.of u (i.ev.ke h.1) l d,z⟩
 .grind
theorem sD(h:gh t)(i:t.kind≠6){kd}(l:kd.size<=5):((aq t).toList==kd.toList)=aT t kd:=by
 have hl:kd.toList.length<=5:=by rw[ja];simpa using l
 have g:∀x:List UInt8,5<x.length->(x==kd.toList)=ia:=λx hx=>by
  rw[beq_eq_false_iff_ne];intro e;rw[e]at hx;omega
 rw[aT];obtain d|d|d|d|d|d|d:=h.kd
 .rw[iZ d,g _ qBe];simp[d]
 .rw[hY d,g _ qBe];simp[d]
 .rw[h_ d,g _ qBe];simp[d]
 .rw[i_ d,g _ qBe];simp[d]
 .rw[pB d];simp[d]
 .exact absurd d i
 .rw[jr d,g _ qBe];simp[d]
def Ph{p:Prop}(h:p:=by
 obtain h'|h'|h'|h'|h'|h'|h':=h.kd
 .rw[iZ h'];simp[h',ja]
 .rw[hY h'];simp[h',ja]
 .rw[h_ h'];simp[h',ja]
 .rw[i_ h'];simp[h',ja]
 .rw[l9 h hk aD h'];simp[h']
 .exact absurd h' hk
 .rw[jr h'];simp[h',ja]):p:=h
def W8(h:gh t)(hk:t.kind≠6):((aq t).toList==D6.toList)=(t.kind==1):=by
 exact Ph
def W9(h:gh t)(hk:t.kind≠6):((aq t).toList==Ml.toList)=(t.kind==4):=by
 exact Ph
abbrev tkA(t:jd):ea:=.agg #[Nv t.ah,Nv t.to,.string<|aq t,.string t.text]
abbrev nmA(t:jd):ea:=.agg #[Nv t.ah,Nv t.to,.string t.text]
def Is{α:Type}u(_:ca)(_:Nat->Prop)(_:α)(v:ea):=v=u
def Mm(_:ca)(_:Nat->Prop)t v:=v=nmA t
def Hk{c}(h:aT t c=ga):t.kind≠7:=by grind[aT]
def W_(h:SX w N rb sb m s k)(l:s.size<=1000)c(hc:c.size<=5):aa jl 38 #[rp rb,.string c] w (aC (Is<|tkA<|tk (jc s 0) k) N rb sb m s (bt (jc s 0) c k) w):=by
 have i:=eY s k h.lt;have d:=sD i h.ok hc
 cases hi:aT (tk (jc s 0) k) c with
 |true=>
  rw[hi]at d;refine(jV h.rd l (sB s k h.lt) c d).mono λe w' hp=>?_;have g:cA rb sb m s (tk (jc s 0) k) (dM<|tk (jc s 0) k) w e w':=hp;have:=g.x (R:=Is<|tkA<|tk (jc s 0) k) h (Hk hi) (a:=()) rfl;rw[bt];rw[if_pos hi];exact this
 |false=>
  rw[hi]at d;refine(DZ h.rd c d h.ok).mono ?_;rintro e w'⟨rfl,g⟩;exact aC.fail g (by rw[bt];rw[hi];rfl)
def aez(h:SX w N rb sb m s k)(o:s.size<=1000)c(hc:c.size<=5)(i:aT (tk (jc s 0) k) c=ga):aa jl 145 #[rp rb,.string c] w (aC (Is<|.bool ga) N rb sb m s (.ok ((),k+1)) w):=by
 have l:=eY s k h.lt;have g:=sD l h.ok hc;rw[i]at g;refine(WV h.rd o (sB s k h.lt) c g).mono λe w' hp=>?_;have d:cA rb sb m s (tk (jc s 0) k) (.bool ga) w e w':=hp;exact d.x (R:=Is<|.bool ga) h (Hk i) rfl
def aeA(h:SX w N rb sb m s k)c(hc:c.size<=5)(d:aT (tk (jc s 0) k) c=ia):aa jl 145 #[rp rb,.string c] w λe w'=>e=.returned (.bool ia)/\w=w':=
 (abk h.rd c (by rw[sD (eY s k h.lt) h.ok hc];exact d)).mono λe w' q=>⟨q.1,q.2.symm⟩
def uk(h:SX w N rb sb m s k)(l:s.size<=1000)n c(hc:n=1/\c=D6\/n=2/\c=G_):aa jl 135 #[rp rb,.string c] w (aC Mm N rb sb m s (dk (jc s 0) n k) w):=by
 have g:=eY s k h.lt;have d:((aq<|tk (jc s 0) k).toList==c.toList)=((tk (jc s 0) k).kind==n):=by
  obtain⟨rfl,rfl⟩|⟨rfl,rfl⟩:=hc
  .exact W8 g h.ok
  .exact D5 g h.ok
 cases hi:((tk (jc s 0) k).kind==n)with
 |true=>
  rw[hi]at d;have hn:(tk (jc s 0) k).kind=n:=WW;refine(Mi h.rd l (sB s k h.lt) c d).mono λe w' hp=>?_;have:=hp.x (R:=Mm) h (by obtain⟨rfl,_⟩|⟨rfl,_⟩:=hc<;>omega) (a:=tk (jc s 0) k) rfl;rw[dk];rw[if_pos hi];exact this
 |false=>
  rw[hi]at d;refine(abl h.rd c d h.ok).mono ?_;rintro e w'⟨rfl,i⟩;exact aC.fail i (by rw[dk];rw[hi];rfl)
def abn(h:SX w N rb sb m s k)i:aa jl 139 #[rp rb,Iv i] w λe w'=>e=.returned (.agg #[Iv i,.int .i64 ((aF (jc s 0) k:Nat):Int)])/\Bq w w':=abj h.rd i
def Hl(g:Nat->α):aS T λk=>.ok (g k,k):=λ_ h=>dn _ h
theorem qX T n(hn:n≠6):aS T (dk T n):=λk h=>by rw[dk];rw[if_neg (by simp[h];omega)];rfl
end
def mU rb f:aa jl 106 #[rp rb,oD f rb] w λe w'=>∃x y,e=.returned (Tk x y)/\w.heap.size<=x/\w.heap.size<=y/\Bx w' x #[rp rb]/\Bx w' y #[oD f rb]/\Bq w w':=by
 go_wp2
 go_ret;refine⟨w.heap.size,w.heap.size+1,rfl,br _,Nat.le_succ _,(Bx.new w #[rp rb] _).alloc _,?_,(bw _).alloc ag _⟩;have:=Bx.new (w.alloc<|Cv #[rp rb] 71) #[oD f rb] 196;simpa using this
def Xa rb:(aa jl 52 #[rp rb] w λe w'=>∃b,e=.returned (Mv b)/\w.heap.size<=b/\MS jt w' b (Hj rb)/\Bq w w')/\
 aa jl 53 #[rp rb] w λe w'=>∃b,e=.returned (Mv b)/\w.heap.size<=b/\MS jt w' b (Pf rb)/\Bq w w':=by
 have H:=Ma.new (w:=w);have d:=(ju w.heap.size w).alloc (br _)<|.map #[] 0;refine⟨?_,?_⟩;all_goals
  go_in
  go_wp2_with((refine aV _ rfl _ _ _ _ (Or.inl rfl) (KL.str Tryz.underlying117) (by first|exact Tryz.underlying122|exact Tryz.underlying123) _ _ rfl H _ _ rfl rfl trivial (λ_ _=>trivial) ?_;clear H;intro w' g i;have H:=ai g;have d:=ai<|One.below d i qbr;clear g i));go_ret;exact⟨_,rfl,br _,H,d⟩
def Xb rb:(aa jl 54 #[rp rb] w λe w'=>∃b x,e=.returned (Mv b)/\w.heap.size<=b/\w.heap.size<=x/\Bx w' x #[rp rb]/\MS jt w' b (sC rb x)/\Bq w w')/\
 aa jl 55 #[rp rb] w λe w'=>∃b x,e=.returned (Mv b)/\w.heap.size<=b/\w.heap.size<=x/\Bx w' x #[rp rb]/\MS jt w' b (qW rb x)/\Bq w w':=by
 have H:Hid (MS Sv ((w.alloc<|Cv #[rp rb] 71).alloc<|.map #[] 0) (w.heap.size+1) []):=ai (by have:=Ma.new (w:=w.alloc<|Cv #[rp rb] 71);simpa using this);have g:=ai<|((ju w.heap.size w).alloc (br _)<|Cv #[rp rb] 71).alloc ag<|.map #[] 0;have d:=ai<|(Bx.new w #[rp rb] 71).alloc<|.map #[] 0;have⟨o,r,u⟩:=uh d;refine⟨?_,?_⟩;all_goals
  go_in
  go_wp2_with((refine aV _ rfl _ _ _ _ (Or.inl rfl) (KL.str Tryz.underlying117) (by first|exact Tryz.underlying123|exact Tryz.underlying124) _ _ rfl H _ _ rfl rfl trivial (λ_ _=>trivial) ?_;clear H;intro w' l i;have H:=ai l;have g:=ai<|One.below g i ag;have d:=ai<|d.one i ag;have⟨o,r,u⟩:=uh d;clear l i));go_ret;exact⟨_,_,rfl,ag,br _,d,H,g⟩
def Xc rb:(aa jl 57 #[rp rb] w λe w'=>∃b x0 y0,e=.returned (Mv b)/\w.heap.size<=b/\Bx w' x0 #[rp rb]/\Bx w' y0 #[oD 107 rb]/\w.heap.size<=x0/\w.heap.size<=y0/\MS jt w' b [(b8,Tk x0 y0)]/\Bq w w')/\
 aa jl 59 #[rp rb] w λe w'=>∃b x0 y0,e=.returned (Mv b)/\w.heap.size<=b/\Bx w' x0 #[rp rb]/\Bx w' y0 #[oD 109 rb]/\w.heap.size<=x0/\w.heap.size<=y0/\MS jt w' b [(cD,Tk x0 y0)]/\Bq w w':=by
 have H:=Ma.new (w:=w);have d:=(ju w.heap.size w).alloc (br _)<|.map #[] 0;refine⟨?_,?_⟩;all_goals
  go_in
  go_wp;first|refine(mU rb 107).mono ?_|refine(mU rb 109).mono ?_
  intro e w1 A;obtain⟨x0,y0,rfl,o,r,u,x,y⟩:=A;have g:=jm H.lt o;have i:=jm H.lt r;have H:=H.below y;have d:=d.trans<|y.mono d.size;go_wp2_with(refine aV _ rfl _ _ _ _ (Or.inl rfl) (KL.str Tryz.underlying117) Tryz.underlying126 _ _ rfl H _ _ rfl rfl trivial (λ_ _=>trivial) ?_;clear H;intro w' z l;have H:=ai z;have d:=ai<|One.below d l qbr;have u:=ai<|u.one l<|jq g;have x:=ai<|x.one l<|jq i;clear z l);go_ret;exact⟨_,_,_,rfl,br _,u,x,jo g,jo i,H,d⟩
def Mn rb:aa jl 58 #[rp rb] w λe w'=>∃b x0 y0 x1 y1,e=.returned (Mv b)/\w.heap.size<=b/\Bx w' x0 #[rp rb]/\Bx w' y0 #[oD 108 rb]/\w.heap.size<=x0/\w.heap.size<=y0/\Bx w' x1 #[rp rb]/\Bx w' y1 #[oD 108 rb]/\w.heap.size<=x1/\w.heap.size<=y1/\MS jt w' b [(cY,Tk x0 y0),(bM,Tk x1 y1)]/\Bq w w':=by
 have H:=Ma.new (w:=w);have d:=(Below.refl w.heap.size w).alloc (br _)<|.map #[] 0;go_in;go_wp;refine(mU rb 108).mono ?_;intro e w1 D;obtain⟨x0,y0,rfl,i,l,G,I,o⟩:=D;have r:=Nat.lt_of_lt_of_le H.lt i;have u:=Nat.lt_of_lt_of_le H.lt l;have x:=ai G;have y:=ai I;have H:=H.below o;have d:=d.trans<|o.mono d.size;go_wp2_with(refine aV _ rfl _ _ _ _ (Or.inl rfl) (KL.str Tryz.underlying117) Tryz.underlying126 _ _ rfl H _ _ rfl rfl trivial (λ_ _=>trivial) ?_;clear H;intro w' z g;have H:=ai z;have d:=ai<|One.below d g qbr;have x:=ai<|x.one g<|Nat.ne_of_gt r;have y:=ai<|y.one g<|Nat.ne_of_gt u;clear z g);refine(mU rb 108).mono ?_;intro e w2 D;obtain⟨x1,y1,rfl,i,l,E,F,o⟩:=D;have A:=Nat.lt_of_lt_of_le H.lt i;have B:=Nat.lt_of_lt_of_le H.lt l;have x:=x.below o;have y:=y.below o;have H:=H.below o;have d:=d.trans<|o.mono d.size;go_wp2_with(refine aV _ rfl _ _ _ _ (Or.inl rfl) (KL.str Tryz.underlying117) Tryz.underlying126 _ _ rfl H _ _ rfl rfl trivial (λ_ _=>trivial) ?_;clear H;intro w' z g;have H:=ai z;have d:=ai<|One.below d g qbr;have x:=ai<|x.one g<|Nat.ne_of_gt r;have y:=ai<|y.one g<|Nat.ne_of_gt u;have E:=ai<|E.one g<|Nat.ne_of_gt A;have F:=ai<|F.one g<|Nat.ne_of_gt B;clear z g);go_ret
 exact⟨_,_,_,_,_,rfl,br _,x,y,jo r,jo u,E,F,jo A,jo B,H,d⟩
def ul(h:t.kind=6)sort:aH t sort=ia:=by
 have d:aQ t=0:=by rw[aQ];simp[h,eM h]
 rw[aH];rw[eM h,d];repeat' split
 all_goals rfl
def mV p q sort:aS T (ap T p q sort):=λk h=>by rw[ap];rw[ul h];rfl
def vM p q sort f a:aS T (gN T p q sort f a):=λk h=>by
 rw[gN];rw[eM h,eM h];rw[if_neg ag,if_neg ag];exact Hh T _ k h
theorem jA(sm:M Nd)(sort:Nat):∀f x,aS T<|da T sm sort f x
 |0,x=>λk h=>dn _ h|f+1,x=>λk h=>by unfold da;rw[ul h];exact dn _ h
def Hm(d:aS T sm):aS T (fN T sm sort):=λk h=>by
 rw[fN];rw[if_neg<|by simp[h]];exact d k h
def pC:∀n,aS T<|dG T n
 |0=>λk h=>rfl|n+1=>Hm<|mV _ _ _
def oF(d:aS T p)sort f:aS T (dD T p q sort f):=λk h=>by
 rw[dD];rw[eM h,if_neg ag];exact b_ (d k h) λa=>vM _ _ _ _ a
def vN(sm:M Nd)(fr:Nat):∀f x,aS T<|gi T sm fr f x
 |0,x=>λk h=>dn _ h|f+1,x=>λk h=>by unfold gi;rw[ul h];exact dn _ h
def oG(sm:M Nd)(fr:Nat):∀f x,aS T<|gO T sm fr f x
 |0,x=>λk h=>dn _ h|f+1,x=>λk h=>by unfold gO;rw[eM h];exact dn _ h
def qY(sm:M Nd)(fr:Nat):∀f x,aS T<|nS T sm fr f x
 |0,x=>λk h=>dn _ h|f+1,x=>λk h=>by unfold nS;rw[eM h,eM h,if_neg ag];exact dn _ h
def mW(d:aS T sm):aS T (cd T sm):=λk h=>b_ (d k h) λa=>vN _ _ _ a
def qZ(d:aS T sm):aS T (dN T sm):=λk h=>b_ (d k h) λa=>oG _ _ _ a
def Cj(d:aS T sm):aS T (q_ T sm):=λk h=>b_ (d k h) λa=>qY _ _ _ a
def Hn sum fr(x:Nd):=λk1=>if aT (tk T k1) b8=ga then aI sum (λy k'=>.ok (.mk 7 b8 0 [x,y] fr (aF T k') fr,k')) (k1+1)else .ok (x,k1)
def vO sum fr x:aS T (Hn (T:=T) sum fr x):=λk h=>by rw[Hn];rw[eM h];exact dn _ h
def abo sum k:nF T sum k=aI sum (Hn (T:=T) sum (tk T k).ah) k:=rfl
def Mo{sum}(d:aS T sum):aS T (nF T sum):=λk h=>b_ (d k h) λa=>vO _ _ a
def mX:∀n,aS T<|bi T n
 |0=>λk h=>rfl|n+1=>λk h=>by
  unfold bi;rw[eM h,eM h,eM h,eM h];exact Mo (Cj<|qZ<|mW<|mV _ _ _) k h
def Tl e:aS T (rf T e):=λk h=>by
 rw[rf,aI];rw[show bt T wT k=.error (eA<|tk T k) by rw[bt];rw[eM h];rfl];rfl
def qF:M Unit:=λk=>.ok ((),k+1)
def uo(h:aT (tk T k) mR=ga):ap T p q sort k=aI (bt T mR) (λ_=>dD T p q sort (tk T k).ah) k:=by
 have d:=h;rw[ap,aI,bt];rw[if_pos (by rw[aH];simp[d]),if_pos d,if_pos h]
def Mp(d:sort≠1)(h:aT (tk T k) bH=ga):dD T p q sort f k=aI qF (λ_ j=>.ok (.mk 5 cX 0 [] f (aF T j) f,j)) k:=by
 rw[dD];rw[if_pos ⟨d,h⟩];rfl
def yS(h:aT (tk T k) bH=ia):dD T p q sort f k=aI p (gN T p q sort f) k:=by
 rw[dD];rw[if_neg<|by simp[h]]
def oH{a:Nd}(h:aT (tk T k) db=ga):gN T p q sort f a k=aI qF (λ_=>aI p λb=>aI (bt T bH) λ_ j=>.ok (.mk 6 cX 0 [a,b] f (aF T j) f,j)) k:=by rw[gN];rw[if_pos h];rfl
def Ho{a:Nd}(d:aT (tk T k) db=ia)(h:aT (tk T k) mY=ga):gN T p q 3 f a k=aI qF (λ_=>aI q λb=>aI (bt T bH) λ_ j=>.ok (.mk 14 cX 0 [a,b] f (aF T j) f,j)) k:=by rw[gN];rw[if_neg<|by simp[d],if_pos ⟨rfl,h⟩];rfl
def vQ{a:Nd}(i:aT (tk T k) db=ia)(h:sort=3->aT (tk T k) mY=ia):gN T p q sort f a k=aI (bt T bH) (λ_ j=>.ok (a,j)) k:=by
 rw[gN];rw[if_neg<|by simp[i],if_neg (by rintro⟨g,d⟩;rw[h g]at d;cases d)];rfl
end Go.Proofs.YtonaidfgokhmoaaGreatDoor

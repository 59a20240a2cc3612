import Derived.Deep.CutRange
import Derived.Deep.RegionLaw
import Derived.LaidMore
import Derived.Test.YtfnkchdeheeiiaaGreatDoorTie
import Derived.Test.YtfnkchdeheeiiaaGreatDoorCPure
import Derived.Test.YtfnkchdeheeiiaaGreatDoorCLd0
import Derived.Test.YtfnkchdeheeiiaaGreatDoorCKit
set_option linter.all false
set_option maxRecDepth 100000
set_option maxHeartbeats 800000
namespace Go.Proofs.YtfnkchdeheeiiaaGreatDoor
open _root_.Nat renaming le_trans->ja,lt_of_lt_of_le->jc
open Go Proofs.Tryz
variable {C:Array Value} {s:BA} {ns:List BA} {N b kb nb:Nat} {K:Nat->Option Un.Ty} {P Q S:Nat->Prop} {R:Nat->Un.Ty} {hv iv nv:Value} {a c w w':World}
section
open Go.RowKit Un
structure P10(w:World):Prop where
 c:∀j,j<10->w.cell? ⟨1,j,none⟩=some (.int .u64 ((10^j:Nat):Int))
 z:1<w.heap.size
end
section
open Go.ChangeShapes Go.WideShapes Go.ChangeAt Go.WideMaps Go.WideElems Go.RowKit
def own:ownKnob Tryz.prog.godebug=none:=qkr
def gWords:Tryz.prog.globalNamed "assay/reader.words" =some 2:=qkr
def gSigns:Tryz.prog.globalNamed "assay/reader.signs" =some 0:=qkr
def aeZ:(Tryz.prog.globals[2]?).map (·.type)=some 403:=qkr
def ae0:(Tryz.prog.globals[0]?).map (·.type)=some 403:=qkr
def O6:List (String×DataW Unit):=Rows.agreeRow.laid
def UA os args:laidMetH Tryz.prog O6 ((World.doorLaid Tryz.prog 72 os).forCall (λ_ _=>0) ⟨#[],args,[]⟩).memory:=
 laidMetH_of_parts3 (fuel:=8) (laidMet_of_run' 8 qkr qkr) qkr qkr
def Z3{W}(h:laidMetH Tryz.prog O6 W):Laid W:=by
 rw[MakeChecks.laidMetH_plain _ _ _ qkr]at h;obtain⟨ps,⟨g0,t0,cs0,f0,p0,q0,hg0,ht0,hv0,hd0,⟨g1,t1,cs1,f1,p1,q1,hg1,ht1,Jy,Od,⟨g2,t2,cs2,f2,p2,q2,Rw,ht2,TE,hd2,⟨g3,t3,cs3,f3,p3,q3,hg3,ht3,hv3,hd3,⟨g4,t4,cs4,f4,p4,q4,hg4,ht4,hv4,hd4,⟨g5,t5,cs5,f5,p5,q5,hg5,ht5,hv5,hd5,⟨g6,t6,cs6,f6,p6,q6,Il,ht6,hv6,hd6,_,_⟩,_⟩,_⟩,_⟩,_⟩,_⟩,_⟩,_,_⟩:=h;obtain rfl:=Option.some.inj<|gWords.symm.trans hg5;obtain rfl:=Option.some.inj<|gSigns.symm.trans Il;obtain rfl:=Option.some.inj<|aeZ.symm.trans ht5;obtain rfl:=Option.some.inj<|ae0.symm.trans ht6;have hw:=xE Pu.words Tryz.underlying403 Tryz.underlying9 strCells hd5;have hs:=xE signs Tryz.underlying403 Tryz.underlying9 strCells hd6;have c1:∀j,j<13->W.cell? ⟨2,j,none⟩=some (Sv<|Pu.jK j):=λj hj=>by
  rw[World.var?_cell hg5 hv5 j];have:=hw j hj;rw[Array.getElem?_toList]at this;exact this
 have c0:∀j,j<13->W.cell? ⟨0,j,none⟩=some (Sv<|cK j):=λj hj=>by
  rw[World.var?_cell Il hv6 j];have:=hs j hj;rw[Array.getElem?_toList]at this;exact this
 exact⟨c1,c0,World.block_lt_of_cell? _ _<|c1 0 ae⟩
end
section
open Go.RowKit Un
structure TV where
 n:Int
 s:BA
 la:Option Addr
 ll:Nat
 lc:Nat
def TV.l(x:TV):List Value:=[Iv x.n,.string x.s,.slice x.la x.ll x.lc]
def at3(w:World)g i(x:TV):=∀j,j<3->w.cell? ⟨g,i*3+j,none⟩=(x.l)[j]?
def DP(s:BA):=∃x r,s.toList=x::r/\Pu.zE x.toNat=true/\(∀y∈r,Pu.aZ y.toNat=true)
def Te c n:=c.size<=1000/\(c=ot\/c=lT->n=2)/\(c=ot\/c=lT\/DP c)
def XC(rk:Nat->Nat):Ty->Nat
 |.var n=>rk n+1|.aH _ _=>0
def _root_.Go.RowKit.Below.drewN{B}(h:Below B a w)n:Below B a (w.drewN n):=⟨h.os,h.tape,h.output,h.size,h.block⟩
def parts:Ty->List Ty
 |.var _=>[]|.aH _ l=>l
def lE(v:Nat):∀(l:List Ty),bK v l↔∃t,t∈l/\aD v t
 |[]=>by simp[bK]|a::l=>by simp[bK,lE v l]
def bZ{v}{L}:bK v (aS R L)↔∃j,∃h:j<L.length,aD v<|sub R L[j]:=by
 rw[lE,gY];constructor
 .rintro⟨t,ht,ho⟩;obtain⟨u,hu,rfl⟩:=List.mem_map.1 ht;obtain⟨j,hj,rfl⟩:=List.getElem_of_mem hu;exact⟨j,hj,ho⟩
 .grind
section
variable {rk:Nat->Nat}
open Classical in
end
def rq{base}{e}{size}{v}{n}{xs}(h:w.ownsRow base e size v n xs)(hb:∀g,v.ownBlock=some g->w'.heap[g]? =w.heap[g]?):w'.ownsRow base e size v n xs:=by
 obtain⟨h1,h2⟩:=h;refine⟨h1,?_⟩;obtain h2|⟨g,cap,mL,hv,hg,hh,r⟩:=h2
 .exact Or.inl h2
 .exact Or.inr ⟨g,cap,mL,hv,hg,by rw[hb g (by rw[hv];rfl)];exact hh,r⟩
structure Fr(S:Nat->Prop)(w w':World):Prop where
 os:w'.os=w.os
 tape:w'.tape=w.tape
 output:w'.output=w.output
 size:w.heap.size<=w'.heap.size
 block:∀k,k<w.heap.size->¬S k->w'.heap[k]? =w.heap[k]?
def Fr.refl S w:Fr S w w:=⟨rfl,rfl,rfl,br _,λ_ _ _=>rfl⟩
def Fr.of(h:Bq w w'):Fr S w w':=⟨h.os,h.tape,h.output,h.size,λk hk _=>h.block k hk⟩
def Fr.trans{S}{a b c}(h:Fr S a b)(k:Fr S b c):Fr S a c:=
 ⟨k.os.trans h.os,k.tape.trans h.tape,k.output.trans h.output,ja h.size k.size,λi hi hn=>(k.block i (jc hi h.size) hn).trans<|h.block i hi hn⟩
def Fr.low{b}(h:Fr S a b)(k:Below a.heap.size b c):Fr S a c:=
 ⟨k.os.trans h.os,k.tape.trans h.tape,k.output.trans h.output,ja h.size k.size,λi hi hn=>(k.block i hi).trans<|h.block i hi hn⟩
def Fr.set(h:Fr S a w)(hb:S b\/a.heap.size<=b)j u:Fr S a (w.setCell ⟨b,j,none⟩ u):=
 ⟨h.os,h.tape,h.output,by simpa[World.setCell]using h.size,λk hk hn=>by
  rw[Below.heap_setCell _ _ _ _ (by show k≠b;rintro rfl;obtain hb|hb:=hb;exact hn hb;omega)];exact h.block k hk hn⟩
def Fr.drewN(h:Fr S a w)n:Fr S a (w.drewN n):=⟨h.os,h.tape,h.output,h.size,h.block⟩
def Fr.drew(h:Fr S a w):Fr S a w.drew:=⟨h.os,h.tape,h.output,h.size,h.block⟩
def Bx.fr(h:Bx w b C)(hb:Fr S w w')(hn:¬S b):Bx w' b C:=h.same hb.size<|hb.block b h.z hn
def KB(hv iv:Value)b:=hv.ownBlock=some b\/iv.ownBlock=some b
def filter_lt{p q:Nat->Bool}:∀{l:List Nat}(_:∀i,q i=true->p i=true){m:Nat}(_:m∈l)(_:p m=true)(_:q m=false),(l.filter q).length<(l.filter p).length
 |[],_,_,h,_,_=>tP|x::l,hi,m,h,hp,hq=>by
   have hle:∀l:List Nat,(l.filter q).length<=(l.filter p).length:=by
    intro l
    induction l with
    |nil=>simp|cons y l ih=>
     simp only[List.filter_cons];split
     .rename_i hy;simp[hi y hy];exact ih
     .grind
   simp only[List.filter_cons];obtain rfl|h:=List.mem_cons.1 h
   .grind
   .have ih:=filter_lt (l:=l) hi h hp hq;split
    .rename_i hx;simp[hi x hx];exact ih
    .grind
def iw{P}{ops}{o}{a}{K}{Q}{E:Prop}(hg:o.guard=none)s x t(qB:o.op=Op.call {callee:=Callee.builtin Builtin.append,args:=#[s,x],argTypes:=#[t,t]})base e i z size bytes(h1:P.underlying t=some (.slice e))(h2:P.info? e=some i)(h3:i.zero=some z)(h4:i.size=size)(h5:i.bytes=bytes)(h6:z.cells.size=size)(h7:0<size)v n xs(hs:a.eval s=v)(gT:w.ownsRow base e size v n xs)ad m c news(hx:a.eval x=.slice (some ad) m c)(hn:news.length=m*size)(hc:∀j u,news[j]? =some u->w.cell? (ad.add j)=some u)(h1c:∀u∈news,u.oneCell'=true)(b1:n+m<=maxLen)(b2:(n+m)*bytes<=140737488355328)(uo:base<=w.heap.size)(hK:∀v' w',w'.ownsRow base e size v' (n+m) (xs++news)->w.grownBy w' v.ownBlock->(v'.ownBlock=v.ownBlock\/v'.ownBlock=some w.heap.size)->K (a.put o.dst v') w'):
 if Region.wanted o (yielded ops a.tmps)=true then Oper.wp P o a w K Q else E:=by
 have hw:Region.wanted o (yielded ops a.tmps)=true:=by simp[Region.wanted,hg]
 rw[if_pos hw];have⟨v',w',kJ,r1,r2,_,r4⟩:=run_append_own_at (P:=P) w base t o.type e i z size bytes h1 h2 h3 h4 h5 h6 h7 v n xs gT ad m c news hn hc h1c b1 b2 uo;rw[Oper.wp];simp[execOp,qB,resolve,invoke,builtin,hs,hx,kJ,Result.andThen];exact hK v' w' r1 r2 r4
theorem toList_inj{a b:BA}(h:a.toList=b.toList):a=b:=by
 rw[ByteArray.toList_eq,ByteArray.toList_eq]at h;exact ByteArray.ext<|Array.ext' h
def GY{α:Type}(L:List α)j(h:j<L.length):L=L.take j++L[j]::L.drop (j+1):=by simp_all
section
variable {lv:Value}
def ix(s:BA):List BA->Nat
 |[]=>0|a::l=>if a.toList=s.toList then 0 else ix s l+1
end
def nV s ns:=if ix s ns<ns.length then ns else ns++[s]
theorem JY{s:BA}:∀{ns:List BA},s∈ns->ix s ns<ns.length
 |[],h=>tP|a::ns,h=>by
   simp only[ix];split
   .simp
   .rename_i ne;obtain e|h:=List.mem_cons.1 h
    .exact absurd (by rw[e]) ne
    .have:=JY h;simp;omega
def O7{p:Prop}(h:p:=by
 rename_i e;exact absurd (List.mem_cons.2<|Or.inl (toList_inj e).symm) h):p:=h
theorem XD{s:BA}:∀{ns:List BA},¬s∈ns->ix s ns=ns.length
 |[],_=>rfl|a::ns,h=>by
   simp only[ix];split
   .exact O7
   .rw[XD<|λk=>h<|List.mem_cons_of_mem _ k];simp
def NJ{s:BA}:∀{ns:List BA},¬s∈ns->ix s (ns++[s])=ns.length
 |[],_=>by simp[ix]|a::ns,h=>by
   simp only[List.cons_append,ix];split
   .exact O7
   .rw[NJ<|λk=>h<|List.mem_cons_of_mem _ k];simp
def MQ(h:s∈ns):nV s ns=ns:=by grind[nV,JY]
def Wn(h:¬s∈ns):nV s ns=ns++[s]:=by grind[nV,XD]
def eX k s:=if k=17 then ot else if k=6 then lT else s
mutual
def aI(ns:List BA):Nd->Ty×List BA
 |.mk k s _ L _ _ _=>if k=16 then(.var<|ix s (nV s ns)+1,nV s ns)else(.aH (eX k s) (aA ns L).1,(aA ns L).2)
def aA(ns:List BA):List Nd->List Ty×List BA
 |[]=>([],ns)|x::l=>((aI ns x).1::(aA (aI ns x).2 l).1,(aA (aI ns x).2 l).2)
end
inductive qW:Nd->Prop where
 |var(s:BA)(n f t a:Nat):qW (.mk 16 s n [] f t a)
 |two(k:Nat)(s:BA)(n:Nat)(x y:Nd)(f t a:Nat)(hk:k=17\/k=6)(hx:qW x)(hy:qW y):qW (.mk k s n [x,y] f t a)
 |up(s:BA)(n:Nat)(L:List Nd)(f t a:Nat)(hw:∀n,Te s n)(hl:L.length<=1001)(hL:∀i(h:i<L.length),qW L[i]):qW (.mk 2 s n L f t a)
def Fr.trans'{T}{b}(h:Fr S a b)(k:Fr T b c)(hT:∀x,T x->S x\/a.heap.size<=x):Fr S a c:=
 ⟨k.os.trans h.os,k.tape.trans h.tape,k.output.trans h.output,ja h.size k.size,λi hi hn=>(k.block i (jc hi h.size) (λt=>by obtain t|t:=hT i t;exact hn t;omega)).trans (h.block i hi hn)⟩
def Fr.zL(h:Fr S a w)(hb:S b\/a.heap.size<=b)(v0 v1 v2:Value):Fr S a (((w.setCell ⟨b,0,none⟩ v0).setCell ⟨b,1,none⟩ v1).setCell ⟨b,2,none⟩ v2):=
 ((h.set hb 0 v0).set hb 1 v1).set hb 2 v2
def Bx.ack{b2}(h:Bx w b C)(hn:b≠b2)v0 v1 v2:Bx (((w.setCell ⟨b2,0,none⟩ v0).setCell ⟨b2,1,none⟩ v1).setCell ⟨b2,2,none⟩ v2) b C:=
 ((h.mQ hn 0 v0).mQ hn 1 v1).mQ hn 2 v2
def GG s ns:ns.length<=(nV s ns).length:=by rw[nV];split<;>simp
mutual
def XE:∀(nd:Nd)(ns:List BA),ns.length<=(aI ns nd).2.length
 |.mk k s n L f t a,ns=>by
  simp only[aI];split
  .exact GG s ns
  .exact sZ L ns
def sZ:∀(L:List Nd)(ns:List BA),ns.length<=(aA ns L).2.length
 |[],ns=>by simp[aA]|x::l,ns=>by simp only[aA];exact ja (XE x ns)<|sZ l _
end
mutual
def cnt:Nd->Nat
 |.mk k _ _ L _ _ _=>(if k=16 then 1 else 0)+ahi L
def ahi:List Nd->Nat
 |[]=>0|x::l=>cnt x+ahi l
end
mutual
def nm(M:List BA):Nd->Ty
 |.mk k s _ L _ _ _=>if k=16 then .var (ix s M+1)else .aH (eX k s) (nmL M L)
def nmL(M:List BA):List Nd->List Ty
 |[]=>[]|x::l=>nm M x::nmL M l
end
def tr(M1 M2:List BA)i:=ix (M1.getD (i-1) ⟨#[]⟩) M2+1
section
def Ux c n(h0: -9223372036854775808<=c)(h1:c<=9223372036854775807)(hn:0<n)(hn2:n<=1000):Cq 21 #[Iv c,Iv n] w λe w'=>∃r:Int,e=.returned (Iv r)/\0<=r/\r<n/\w'=w:=by
 by_cases hc:c<0
 .go_enter func21,ntmps21
  go_wp2
  go_ret;refine⟨_,rfl,?_,?_,rfl⟩
  .show 0<=-((c+1).tmod n);rw[<-Int.neg_tmod];exact Int.tmod_nonneg _ ae
  .show-((c+1).tmod n)<n;rw[<-Int.neg_tmod];exact Int.tmod_lt_of_pos _ hn
 .have hc':decide (c<0)=false:=bQ;go_enter func21,ntmps21
  go_wp2
  go_ret;exact⟨_,rfl,Int.emod_nonneg _ ae,Int.emod_lt_of_pos _ hn,rfl⟩
variable {xb len cap:Nat} {p:Option Addr} {r:Nat->Int}
end
end
def wO:joinedFacts Tryz.prog 8 Tryz.f8 Rows.countedSpec Rows.countedRow=true:=by
 rw[joinedFacts];exact(eY (eY (eY (eY (eY (eY (eY (eY (eY (eY (eY (eY (eY (eY (eY (eY (eY (eY (eY (eY (eY (eY (eY (eY (eY (eY (eY (eY (eY (eY (eY J9 Cs) Nb) J_) J') Ka) cp6) Kc) cp8) Kd) Fb) Fc) Fe) Ff) Fg) Fh) Fi) Fk) Fm) Fo) Fp) Fq) Fu) Fw) aio) aip) Fx) Fy) qkr) Fz) FC) FD)
end Go.Proofs.YtfnkchdeheeiiaaGreatDoor

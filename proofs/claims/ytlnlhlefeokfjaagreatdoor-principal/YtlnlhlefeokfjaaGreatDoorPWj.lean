import Derived.Deep.CutRange
import Derived.Deep.RegionLaw
import Derived.LaidMore
import Derived.Test.YtlnlhlefeokfjaaGreatDoorTie
import Derived.Test.YtlnlhlefeokfjaaGreatDoorPPure
import Derived.Test.YtlnlhlefeokfjaaGreatDoorPLd0
import Derived.Test.YtlnlhlefeokfjaaGreatDoorPKit
set_option linter.all false
set_option maxRecDepth 100000
set_option maxHeartbeats 1600000
namespace Go.Proofs.YtlnlhlefeokfjaaGreatDoor
open _root_.Nat renaming lt_of_lt_of_le->ja,le_trans->jc
open Go.Proofs.Tryz renaming prog->jd,underlying9->jf
open _root_.List renaming mem_cons_of_mem->jh,cons_append->ji
open Go Proofs.Tryz
variable {C:Array Value} {s:BA} {ns:List BA} {A N b base cap kb len n nb:Nat} {K:Nat->Option Un.Ty} {P Q S:Nat->Prop} {R:Nat->Un.Ty} {p:Option Addr} {hv iv nv:Value} {a w w':World}
section
open Go.RowKit Un
structure P10(w:World):Prop where
 c:∀j,j<10->w.cell? ⟨1,j,none⟩=some (.int .u64 ((10^j:Nat):Int))
 z:1<w.heap.size
end
section
open Go.ChangeShapes Go.WideShapes Go.ChangeAt Go.WideMaps Go.WideElems Go.RowKit
def own:ownKnob Tryz.prog.godebug=none:=qkr
def laidOut:laidOutB jd=true:=qkr
def gWords:Tryz.prog.globalNamed "assay/reader.words" =some 2:=qkr
def gSigns:Tryz.prog.globalNamed "assay/reader.signs" =some 0:=qkr
def ahM:(Tryz.prog.globals[2]?).map (·.type)=some 320:=qkr
def ahN:(Tryz.prog.globals[0]?).map (·.type)=some 320:=qkr
def S7:List (String×DataW Unit):=Rows.principalRow.laid
def abm os args:laidMetH jd S7 ((World.doorLaid jd 72 os).forCall (λ_ _=>0) ⟨#[],args,[]⟩).memory:=
 laidMetH_of_parts3 (fuel:=8) (laidMet_of_run' 8 qkr qkr) qkr qkr
def aea{W}(h:laidMetH jd S7 W):Laid W:=by
 rw[MakeChecks.laidMetH_plain _ _ _ qkr]at h;obtain⟨ps,⟨g0,t0,cs0,f0,p0,q0,hg0,ht0,hv0,hd0,⟨g1,t1,cs1,f1,p1,q1,hg1,ht1,NG,BW,⟨g2,t2,cs2,f2,p2,q2,VQ,ht2,UL,ZA,⟨g3,t3,cs3,f3,p3,q3,hg3,ht3,hv3,hd3,⟨g4,t4,cs4,f4,p4,q4,hg4,ht4,hv4,hd4,⟨g5,t5,cs5,f5,p5,q5,hg5,ht5,hv5,hd5,⟨g6,t6,cs6,f6,p6,q6,Js,ht6,hv6,hd6,_,_⟩,_⟩,_⟩,_⟩,_⟩,_⟩,_⟩,_,_⟩:=h;obtain rfl:=Option.some.inj<|gWords.symm.trans hg5;obtain rfl:=Option.some.inj<|gSigns.symm.trans Js;obtain rfl:=Option.some.inj<|ahM.symm.trans ht5;obtain rfl:=Option.some.inj<|ahN.symm.trans ht6;have hw:=Ap Pu.words Tryz.underlying320 jf strCells hd5;have hs:=Ap signs Tryz.underlying320 jf strCells hd6;have c1:∀j,j<13->W.cell? ⟨2,j,none⟩=some (Sv<|Pu.kS j):=λj hj=>by
  rw[World.var?_cell hg5 hv5 j];have:=hw j hj;rw[Array.getElem?_toList]at this;exact this
 have c0:∀j,j<13->W.cell? ⟨0,j,none⟩=some (Sv<|cQ j):=λj hj=>by
  rw[World.var?_cell Js hv6 j];have:=hs j hj;rw[Array.getElem?_toList]at this;exact this
 exact⟨c1,c0,World.block_lt_of_cell? _ _<|c1 0 ae⟩
end
section
open Go.RowKit Un
structure TV where
 n:Int
 s:BA
 la:Option Addr
 ll:Nat
 lc:Nat
def TV.l(x:TV):List Value:=[Iv x.n,.string x.s,.slice x.la x.ll x.lc]
def at3(w:World)g i(x:TV):=∀j,j<3->w.cell? ⟨g,i*3+j,none⟩=(x.l)[j]?
def CQ(s:BA):=∃x r,s.toList=x::r/\Pu.Ax x.toNat=true/\(∀y∈r,Pu.aY y.toNat=true)
def DZ c n:=c.size<=4/\(c=m9\/c=lq->n=2)/\(c=m9\/c=lq\/CQ c)
def far(rk:Nat->Nat):Ty->Nat
 |.var n=>rk n+1|.aJ _ _=>0
def _root_.Go.RowKit.Below.drewN{B}(h:Below B a w)n:Below B a (w.drewN n):=⟨h.os,h.tape,h.output,h.size,h.block⟩
def Bx.drewN{w}{b}{C}(h:Bx w b C)n:Bx (w.drewN n) b C:=h.below<|(Below.refl _ _).drewN n
section
def abn c n(h0: -9223372036854775808<=c)(h1:c<=9223372036854775807)(hn:0<n)(IC:n<=1000):Cq 16 #[Iv c,Iv n] w λe w'=>∃r:Int,e=.returned (Iv r)/\0<=r/\r<n/\w'=w:=by
 by_cases hc:c<0
 .go_enter func16,ntmps16
  go_wp2
  go_ret;refine⟨_,rfl,?_,?_,rfl⟩
  .show 0<=-((c+1).tmod n);rw[<-Int.neg_tmod];exact Int.tmod_nonneg _ ae
  .show-((c+1).tmod n)<n;rw[<-Int.neg_tmod];exact Int.tmod_lt_of_pos _ hn
 .have hc':decide (c<0)=false:=bD;go_enter func16,ntmps16
  go_wp2
  go_ret;exact⟨_,rfl,Int.emod_nonneg _ ae,Int.emod_lt_of_pos _ hn,rfl⟩
structure Src w xb p len cap(r:Nat->Int)(A:Nat):Prop where
 b:Bx w xb #[.slice p len cap,.int .i64 (A:Int)]
 a:A<=len
 l:(len:Int)<=9223372036854775807
 c:∀i,i<len->∃g o,p=some ⟨g,o,none⟩/\g<w.heap.size/\g≠xb/\w.cell? ⟨g,o+i,none⟩=some (.int .i64<|r i)
 r:∀i,i<len->-9223372036854775808<=r i/\r i<=9223372036854775807
variable {xb:Nat} {r:Nat->Int}
def Src.ke{w}{A':Nat}(h:Src w xb p len cap r A)(hk:Ke xb w w')(hb:Bx w' xb #[.slice p len cap,.int .i64 (A':Int)])(ha:A'<=len):Src w' xb p len cap r A':=by
 refine⟨hb,ha,h.l,λi hi=>?_,h.r⟩;have⟨g,o,e,hg,cR,hc⟩:=h.c i hi;exact⟨g,o,e,ja hg hk.size,cR,(World.cell?_of_block (a:=⟨g,o+i,none⟩) (w:=w)<|hk.block g hg cR).trans hc⟩
def Src.af{w}(h:Src w xb p len cap r A)(hb:Bq w w'):Src w' xb p len cap r A:=h.ke (Ke.of hb) (h.b.below hb) h.a
def tD xb p len cap r w w':=∃A,Src w' xb p len cap r A/\Ke xb w w'
def qC(h:Src w xb p len cap r A)n(hn:0<n)(IC:n<=1000):Cq 12 #[Pv xb,Iv n] w λe w'=>∃q:Int,e=.returned (Iv q)/\0<=q/\q<n/\tD xb p len cap r w w':=by
 have⟨c0,f0,z0⟩:=h.b;have hl:=h.l;have ha:=h.a;by_cases hA:A<len
 .have hA':decide ((len:Int)<=(A:Int))=false:=bD;obtain⟨g,o,rfl,hg,cR,hc⟩:=h.c A hA;have⟨r0,r1⟩:=h.r A hA;have hA2:(A:Int)<(len:Int):=ae;go_enter func12,ntmps12
  go_wp2
  go_quiet(fail)
  go_wp2
  go_quiet(fail);go_wp2_with fail;refine(abn (r A) n r0 r1 hn IC).mono ?_;rintro e w'⟨q,rfl,q0,q1,rfl⟩
  go_wp2
  go_ret;have e1:((A+1:Nat):Int)=(A:Int)+1:=ae;have hk:∀m,Ke xb w<|(w.drewN m).setCell ⟨xb,1,none⟩<|Iv<|(A:Int)+1:=λm=>(Ke.of<|(Below.refl _ _).drewN m).set 1 _;exact⟨q,rfl,q0,q1,A+1,h.ke (hk _) (by rw[e1];exact(h.b.drewN _).vF 1 _ _ rfl ag) ae,hk _⟩
 .have hA':decide ((len:Int)<=(A:Int))=true:=bD;go_enter func12,ntmps12
  go_wp2
  go_quiet(fail)
  go_wp2
  go_ret;have hk:∀m,Ke xb w<|w.drewN m:=λm=>Ke.of<|(Below.refl _ _).drewN m;exact⟨0,rfl,ae,hn,A,h.ke (hk _) (h.b.drewN _) h.a,hk _⟩
def Raw(w:World)(p:Option Addr)len(r:Nat->Int):=
 ∀i,i<len->(∃g o,p=some ⟨g,o,none⟩/\g<w.heap.size/\w.cell? ⟨g,o+i,none⟩=some (Iv<|r i))/\-9223372036854775808<=r i/\r i<=9223372036854775807
def Txt(w:World)g n(f:Nat->BA):=∀j,j<n->w.cell? ⟨g,j,none⟩=some (.string<|f j)
def z_(h:Src w xb p len cap r A){g lc}{f}(ht:Txt w g n f)(hg:g<w.heap.size)(Xg:g≠xb)(hn:0<n)(IC:n<=1000):
 Cq 14 #[Pv xb,.slice (some ⟨g,0,none⟩) n lc] w λe w'=>∃j,j<n/\e=.returned (.string<|f j)/\tD xb p len cap r w w':=by
 have HC:=qC h (n:Int) ae ae;go_enter func14,ntmps14;go_wp2_with fail;refine HC.mono ?_;rintro e w'⟨q,rfl,q0,q1,A',HS,HK⟩;obtain⟨j,rfl⟩:∃j:Nat,q=j:=⟨q.toNat,ae⟩;have hj:j<n:=ae;have c1:=(World.cell?_of_block (a:=⟨g,j,none⟩) (w:=w)<|HK.block g hg Xg).trans<|ht j hj
 go_wp2
 go_ret;exact⟨j,hj,rfl,A',HS,HK⟩
end
end
section
open Go.ChangeShapes Go.WideShapes Go.ChangeAt Go.WideMaps Go.WideElems Go.RowKit
def Bh:Tryz.prog.underlying 22=some (.slice 3):=qkr
def abo{H:Type}{enc}{fuel}{x:DataW H×List MemPlace}(h:DataW.trod enc jd w base (λ_=>true) true fuel 22 [.slice p len cap]=some x):(len:Int)<=9223372036854775807/\∃r,Raw w p len r:=by
 obtain⟨e,_⟩|⟨a,amY,ahJ,zs,e,_,hl,hm,hz,_,bQ,hwz⟩:=open_ints Bh Tryz.underlying3 Zc h
 .simp at e;obtain⟨rfl,rfl,rfl⟩:=e;exact⟨ag,λ_=>0,λi hi=>ae⟩
 .simp at e;obtain⟨rfl,rfl,rfl⟩:=e;simp only[if_true]at hz;refine⟨by simp only[maxLen]at hm;omega,λi=>zs.getD i 0,λi hi=>?_⟩;have Xv:i<zs.length:=ae;obtain⟨g,o,sp⟩:=a;have W4:sp=none:=by simpa[Addr.add]using World.cell?_spot (bQ 0 ae)
  subst W4;have hc:=bQ i Xv;rw[add_plain]at hc;have hw:=hwz (zs.getD i 0) (by rw[List.getD_eq_getElem?_getD,List.getElem?_eq_getElem Xv];exact List.getElem_mem _);have e1:IntKind.i64.min= -9223372036854775808:=rfl;have e2:IntKind.i64.max=9223372036854775807:=rfl;simp only[Lit.wf,Bool.and_eq_true,decide_eq_true_eq,e1,e2]at hw;exact⟨⟨g,o,rfl,World.block_lt_of_cell? _ _ hc,hc⟩,hw.1,hw.2⟩
end
section
open Go.RowKit Un
def parts:Ty->List Ty
 |.var _=>[]|.aJ _ l=>l
def mR(v:Nat):∀(l:List Ty),bX v l↔∃t,t∈l/\aB v t
 |[]=>by simp[bX]|a::l=>by simp[bX,mR v l]
def bN{v}{L}:bX v (aP R L)↔∃j,∃h:j<L.length,aB v<|sub R L[j]:=by
 rw[mR,iI];constructor
 .rintro⟨t,ht,ho⟩;obtain⟨u,hu,rfl⟩:=List.mem_map.1 ht;obtain⟨j,hj,rfl⟩:=List.getElem_of_mem hu;exact⟨j,hj,ho⟩
 .grind
section
variable {rk:Nat->Nat}
open Classical in
end
def tH{e}{size}{v}{xs}(h:w.ownsRow base e size v n xs)(hb:∀g,v.ownBlock=some g->w'.heap[g]? =w.heap[g]?):w'.ownsRow base e size v n xs:=by
 obtain⟨h1,h2⟩:=h;refine⟨h1,?_⟩;obtain h2|⟨g,cap,l_,hv,hg,hh,r⟩:=h2
 .exact Or.inl h2
 .exact Or.inr ⟨g,cap,l_,hv,hg,by rw[hb g (by rw[hv];rfl)];exact hh,r⟩
structure Fr(S:Nat->Prop)(w w':World):Prop where
 os:w'.os=w.os
 tape:w'.tape=w.tape
 output:w'.output=w.output
 size:w.heap.size<=w'.heap.size
 block:∀k,k<w.heap.size->¬S k->w'.heap[k]? =w.heap[k]?
def Fr.refl S w:Fr S w w:=⟨rfl,rfl,rfl,br _,λ_ _ _=>rfl⟩
def Fr.of(h:Bq w w'):Fr S w w':=⟨h.os,h.tape,h.output,h.size,λk hk _=>h.block k hk⟩
def Fr.trans{S}{a b c}(h:Fr S a b)(k:Fr S b c):Fr S a c:=
 ⟨k.os.trans h.os,k.tape.trans h.tape,k.output.trans h.output,jc h.size k.size,λi hi hn=>(k.block i (ja hi h.size) hn).trans<|h.block i hi hn⟩
def Fr.low{S:Nat->Prop}{a b c:World}(h:Fr S a b)(k:Below a.heap.size b c):Fr S a c:=
 ⟨k.os.trans h.os,k.tape.trans h.tape,k.output.trans h.output,jc h.size k.size,λi hi hn=>(k.block i hi).trans<|h.block i hi hn⟩
def Fr.set(h:Fr S a w)(hb:S b\/a.heap.size<=b)j u:Fr S a (w.setCell ⟨b,j,none⟩ u):=
 ⟨h.os,h.tape,h.output,by simpa[World.setCell]using h.size,λk hk hn=>by
  rw[Below.heap_setCell _ _ _ _ (by show k≠b;rintro rfl;obtain hb|hb:=hb;exact hn hb;omega)];exact h.block k hk hn⟩
def Fr.drewN(h:Fr S a w)n:Fr S a (w.drewN n):=⟨h.os,h.tape,h.output,h.size,h.block⟩
def Fr.drew(h:Fr S a w):Fr S a w.drew:=⟨h.os,h.tape,h.output,h.size,h.block⟩
def Bx.fr(h:Bx w b C)(hb:Fr S w w')(hn:¬S b):Bx w' b C:=h.same hb.size<|hb.block b h.z hn
def KB(hv iv:Value)b:=hv.ownBlock=some b\/iv.ownBlock=some b
def filter_lt{p q:Nat->Bool}:∀{l:List Nat}(_:∀i,q i=true->p i=true){m:Nat}(_:m∈l)(_:p m=true)(_:q m=false),(l.filter q).length<(l.filter p).length
 |[],_,_,h,_,_=>yl|x::l,hi,m,h,hp,hq=>by
   have hle:∀l:List Nat,(l.filter q).length<=(l.filter p).length:=by
    intro l
    induction l with
    |nil=>simp|cons y l ih=>
     simp only[List.filter_cons];split
     .rename_i hy;simp[hi y hy];exact ih
     .grind
   simp only[List.filter_cons];obtain rfl|h:=List.mem_cons.1 h
   .grind
   .have ih:=filter_lt (l:=l) hi h hp hq;split
    .rename_i hx;simp[hi x hx];exact ih
    .grind
def iW{P}{ops}{o}{a}{K}{Q}{E:Prop}(hg:o.guard=none)s x t(sG:o.op=Op.call {callee:=Callee.builtin Builtin.append,args:=#[s,x],argTypes:=#[t,t]})base e i z size bytes(h1:P.underlying t=some (.slice e))(h2:P.info? e=some i)(h3:i.zero=some z)(h4:i.size=size)(h5:i.bytes=bytes)(h6:z.cells.size=size)(h7:0<size)v n xs(hs:a.eval s=v)(iT:w.ownsRow base e size v n xs)ad m c news(hx:a.eval x=.slice (some ad) m c)(hn:news.length=m*size)(hc:∀j u,news[j]? =some u->w.cell? (ad.add j)=some u)(h1c:∀u∈news,u.oneCell'=true)(b1:n+m<=maxLen)(b2:(n+m)*bytes<=140737488355328)(ru:base<=w.heap.size)(hK:∀v' w',w'.ownsRow base e size v' (n+m) (xs++news)->w.grownBy w' v.ownBlock->(v'.ownBlock=v.ownBlock\/v'.ownBlock=some w.heap.size)->K (a.put o.dst v') w'):
 if Region.wanted o (yielded ops a.tmps)=true then Oper.wp P o a w K Q else E:=by
 have hw:Region.wanted o (yielded ops a.tmps)=true:=by simp[Region.wanted,hg]
 rw[if_pos hw];have⟨v',w',lQ,r1,r2,_,r4⟩:=run_append_own_at (P:=P) w base t o.type e i z size bytes h1 h2 h3 h4 h5 h6 h7 v n xs iT ad m c news hn hc h1c b1 b2 ru;rw[Oper.wp];simp[execOp,sG,resolve,invoke,builtin,hs,hx,lQ,Result.andThen];exact hK v' w' r1 r2 r4
def toList_inj{a b:BA}(h:a.toList=b.toList):a=b:=by
 rw[ByteArray.toList_eq,ByteArray.toList_eq]at h;exact ByteArray.ext<|Array.ext' h
def La{α:Type}(L:List α)j(h:j<L.length):L=L.take j++L[j]::L.drop (j+1):=by simp_all
section
variable {lv:Value}
def ix(s:BA):List BA->Nat
 |[]=>0|a::l=>if a.toList=s.toList then 0 else ix s l+1
end
def oV s ns:=if ix s ns<ns.length then ns else ns++[s]
theorem abp{s:BA}:∀{ns:List BA},s∈ns->ix s ns<ns.length
 |[],h=>yl|a::ns,h=>by
   simp only[ix];split
   .simp
   .rename_i ne;obtain e|h:=List.mem_cons.1 h
    .exact absurd (by rw[e]) ne
    .have:=abp h;simp;omega
def S9{p:Prop}(h:p:=by
 rename_i e;exact absurd (List.mem_cons.2<|Or.inl (toList_inj e).symm) h):p:=h
theorem abq{s:BA}:∀{ns:List BA},¬s∈ns->ix s ns=ns.length
 |[],_=>rfl|a::ns,h=>by
   simp only[ix];split
   .exact S9
   .rw[abq<|λk=>h<|jh _ k];simp
def GK{s:BA}:∀{ns:List BA},¬s∈ns->ix s (ns++[s])=ns.length
 |[],_=>by simp[ix]|a::ns,h=>by
   simp only[ji,ix];split
   .exact S9
   .rw[GK<|λk=>h<|jh _ k];simp
def RT(h:s∈ns):oV s ns=ns:=by grind[oV,abp]
def KI(h:¬s∈ns):oV s ns=ns++[s]:=by grind[oV,abq]
def g_ k s:=if k=17 then m9 else if k=6 then lq else s
mutual
def aI(ns:List BA):Nd->Ty×List BA
 |.mk k s _ L _ _ _=>if k=16 then(.var<|ix s (oV s ns)+1,oV s ns)else(.aJ (g_ k s) (aG ns L).1,(aG ns L).2)
def aG(ns:List BA):List Nd->List Ty×List BA
 |[]=>([],ns)|x::l=>((aI ns x).1::(aG (aI ns x).2 l).1,(aG (aI ns x).2 l).2)
end
inductive ot:Nd->Prop where
 |var(s:BA)(n f t a:Nat):ot (.mk 16 s n [] f t a)
 |two(k:Nat)(s:BA)(n:Nat)(x y:Nd)(f t a:Nat)(hk:k=17\/k=6)(hx:ot x)(hy:ot y):ot (.mk k s n [x,y] f t a)
 |up(s:BA)(n:Nat)(L:List Nd)(f t a:Nat)(hw:∀n,DZ s n)(hl:L.length<=1001)(hL:∀i(h:i<L.length),ot L[i]):ot (.mk 2 s n L f t a)
def Fr.trans'{T}{b c}(h:Fr S a b)(k:Fr T b c)(hT:∀x,T x->S x\/a.heap.size<=x):Fr S a c:=
 ⟨k.os.trans h.os,k.tape.trans h.tape,k.output.trans h.output,jc h.size k.size,λi hi hn=>(k.block i (ja hi h.size) (λt=>by obtain t|t:=hT i t;exact hn t;omega)).trans (h.block i hi hn)⟩
def Fr.Gn(h:Fr S a w)(hb:S b\/a.heap.size<=b)(v0 v1 v2:Value):Fr S a (((w.setCell ⟨b,0,none⟩ v0).setCell ⟨b,1,none⟩ v1).setCell ⟨b,2,none⟩ v2):=
 ((h.set hb 0 v0).set hb 1 v1).set hb 2 v2
def Bx.afH{b2}(h:Bx w b C)(hn:b≠b2)v0 v1 v2:Bx (((w.setCell ⟨b2,0,none⟩ v0).setCell ⟨b2,1,none⟩ v1).setCell ⟨b2,2,none⟩ v2) b C:=
 ((h.qX hn 0 v0).qX hn 1 v1).qX hn 2 v2
def Lc s ns:ns.length<=(oV s ns).length:=by rw[oV];split<;>simp
mutual
def abr:∀(nd:Nd)(ns:List BA),ns.length<=(aI ns nd).2.length
 |.mk k s n L f t a,ns=>by
  simp only[aI];split
  .exact Lc s ns
  .exact v_ L ns
def v_:∀(L:List Nd)(ns:List BA),ns.length<=(aG ns L).2.length
 |[],ns=>by simp[aG]|x::l,ns=>by simp only[aG];exact jc (abr x ns)<|v_ l _
end
mutual
def cnt:Nd->Nat
 |.mk k _ _ L _ _ _=>(if k=16 then 1 else 0)+akk L
def akk:List Nd->Nat
 |[]=>0|x::l=>cnt x+akk l
end
mutual
def Hv:∀(nd:Nd)(ns:List BA),aI ns (er nd)=aI ns nd
 |.mk k s n L f t a,ns=>by simp only[er,aI,LU L ns]
def LU:∀(l:List Nd)(ns:List BA),aG ns (vH l)=aG ns l
 |[],ns=>rfl|x::l,ns=>by simp only[vH,aG,Hv x ns,LU l]
end
mutual
def nm(M:List BA):Nd->Ty
 |.mk k s _ L _ _ _=>if k=16 then .var (ix s M+1)else .aJ (g_ k s) (nmL M L)
def nmL(M:List BA):List Nd->List Ty
 |[]=>[]|x::l=>nm M x::nmL M l
end
def abc{s:BA}:∀{a b:List BA},a<+:b->s∈a->ix s b=ix s a
 |[],b,h,hs=>by simp at hs|x::a,b,h,hs=>by
   obtain⟨r,rfl⟩:=h;simp only[ji,ix];split
   .rfl
   .rename_i ne;obtain e|hs:=List.mem_cons.1 hs
    .exact absurd (by rw[e]) ne
    .rw[abc (List.prefix_append a r) hs]
def tr(M1 M2:List BA)i:=ix (M1.getD (i-1) ⟨#[]⟩) M2+1
end
def vO:joinedFacts jd 3 Tryz.f3 Rows.principalSpec Rows.principalRow=true:=by
 rw[joinedFacts];exact(fI (fI (fI (fI (fI (fI (fI (fI (fI (fI (fI (fI (fI (fI (fI (fI (fI (fI (fI (fI (fI (fI (fI (fI (fI (fI (fI (fI (fI (fI (fI FU FT) Rc) FV) FX) FY) cp6) FZ) cp8) F_) Cm) Cn) Co) Cp) Cr) Cs) Ct) Cu) Cw) Cx) Cy) Cz) CA) CB) alF) alG) CC) CF) qkr) CG) CH) CI)
end Go.Proofs.YtlnlhlefeokfjaaGreatDoor

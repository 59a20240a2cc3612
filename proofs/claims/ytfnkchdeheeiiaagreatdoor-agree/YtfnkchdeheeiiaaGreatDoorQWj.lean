import Derived.Deep.CutRange
import Derived.Deep.RegionLaw
import Derived.LaidMore
import Derived.Test.YtfnkchdeheeiiaaGreatDoorTie
import Derived.Test.YtfnkchdeheeiiaaGreatDoorQPure
import Derived.Test.YtfnkchdeheeiiaaGreatDoorQLd0
import Derived.Test.YtfnkchdeheeiiaaGreatDoorQKit
set_option linter.all false
set_option maxRecDepth 100000
set_option maxHeartbeats 1600000
namespace Go.Proofs.YtfnkchdeheeiiaaGreatDoor
open _root_.Nat renaming lt_of_lt_of_le->ja,le_trans->jc
open Go.Proofs.Tryz renaming prog->jd,underlying9->jf
open Go Go.RowKit Proofs.Tryz
variable {C:Array Value} {s:BA} {ns:List BA} {A N b base cap kb len n nb:Nat} {K:Nat->Option Un.Ty} {P Q S:Nat->Prop} {R:Nat->Un.Ty} {p:Option Addr} {hv iv nv:Value} {a c w w':World}
section
open Un
structure P10(w:World):Prop where
 c:∀j,j<10->w.cell? ⟨1,j,none⟩=some (.int .u64 ((10^j:Nat):Int))
 z:1<w.heap.size
end
section
open Go.ChangeShapes Go.WideShapes Go.ChangeAt Go.WideMaps Go.WideElems
def own:ownKnob Tryz.prog.godebug=none:=qkr
def laidOut:laidOutB jd=true:=qkr
def gWords:Tryz.prog.globalNamed "assay/reader.words" =some 2:=qkr
def gSigns:Tryz.prog.globalNamed "assay/reader.signs" =some 0:=qkr
def ahw:(Tryz.prog.globals[2]?).map (·.type)=some 403:=qkr
def ahx:(Tryz.prog.globals[0]?).map (·.type)=some 403:=qkr
def RZ:List (String×DataW Unit):=Rows.agreeRow.laid
def aaX os args:laidMetH jd RZ ((World.doorLaid jd 72 os).forCall (λ_ _=>0) ⟨#[],args,[]⟩).memory:=
 laidMetH_of_parts3 (fuel:=8) (laidMet_of_run' 8 qkr qkr) qkr qkr
def ad1{W}(h:laidMetH jd RZ W):Laid W:=by
 rw[MakeChecks.laidMetH_plain _ _ _ qkr]at h;obtain⟨ps,⟨g0,t0,cs0,f0,p0,q0,hg0,ht0,hv0,hd0,⟨g1,t1,cs1,f1,p1,q1,hg1,ht1,Mk,MN,⟨g2,t2,cs2,f2,p2,q2,Vh,ht2,Tx,hd2,⟨g3,t3,cs3,f3,p3,q3,hg3,ht3,hv3,hd3,⟨g4,t4,cs4,f4,p4,q4,hg4,ht4,hv4,hd4,⟨g5,t5,cs5,f5,p5,q5,hg5,ht5,hv5,hd5,⟨g6,t6,cs6,f6,p6,q6,KO,ht6,hv6,hd6,_,_⟩,_⟩,_⟩,_⟩,_⟩,_⟩,_⟩,_,_⟩:=h;obtain rfl:=Option.some.inj<|gWords.symm.trans hg5;obtain rfl:=Option.some.inj<|gSigns.symm.trans KO;obtain rfl:=Option.some.inj<|ahw.symm.trans ht5;obtain rfl:=Option.some.inj<|ahx.symm.trans ht6;have hw:=zJ Pu.words Tryz.underlying403 jf strCells hd5;have hs:=zJ signs Tryz.underlying403 jf strCells hd6;have c1:∀j,j<13->W.cell? ⟨2,j,none⟩=some (Sv<|Pu.kR j):=λj hj=>by
  rw[World.var?_cell hg5 hv5 j];have:=hw j hj;rw[Array.getElem?_toList]at this;exact this
 have c0:∀j,j<13->W.cell? ⟨0,j,none⟩=some (Sv<|cX j):=λj hj=>by
  rw[World.var?_cell KO hv6 j];have:=hs j hj;rw[Array.getElem?_toList]at this;exact this
 exact⟨c1,c0,World.block_lt_of_cell? _ _<|c1 0 ae⟩
end
section
open Un
structure TV where
 n:Int
 s:BA
 la:Option Addr
 ll:Nat
 lc:Nat
def TV.l(x:TV):List Value:=[Iv x.n,.string x.s,.slice x.la x.ll x.lc]
def at3(w:World)g i(x:TV):=∀j,j<3->w.cell? ⟨g,i*3+j,none⟩=(x.l)[j]?
def Yb c n:=c.size<=1000/\(c=qJ\/c=nO->n=2)
def far(rk:Nat->Nat):Ty->Nat
 |.var n=>rk n+1|.aK _ _=>0
def _root_.Go.RowKit.Below.drewN{B}(h:Below B a w)n:Below B a (w.drewN n):=⟨h.os,h.tape,h.output,h.size,h.block⟩
def Bx.drewN{w}{b}{C}(h:Bx w b C)n:Bx (w.drewN n) b C:=h.below<|(Below.refl _ _).drewN n
section
def ahy c n(h0: -9223372036854775808<=c)(h1:c<=9223372036854775807)(hn:0<n)(hn2:n<=1000):Cq 21 #[Iv c,Iv n] w λe w'=>∃r:Int,e=.returned (Iv r)/\0<=r/\r<n/\w'=w:=by
 by_cases hc:c<0
 .go_enter func21,ntmps21
  go_wp2
  go_ret;refine⟨_,rfl,?_,?_,rfl⟩
  .show 0<=-((c+1).tmod n);rw[<-Int.neg_tmod];exact Int.tmod_nonneg _ ae
  .show-((c+1).tmod n)<n;rw[<-Int.neg_tmod];exact Int.tmod_lt_of_pos _ hn
 .have hc':decide (c<0)=false:=bP;go_enter func21,ntmps21
  go_wp2
  go_ret;exact⟨_,rfl,Int.emod_nonneg _ ae,Int.emod_lt_of_pos _ hn,rfl⟩
structure Src w xb p len cap(r:Nat->Int)(A:Nat):Prop where
 b:Bx w xb #[.slice p len cap,.int .i64 (A:Int)]
 a:A<=len
 l:(len:Int)<=9223372036854775807
 c:∀i,i<len->∃g o,p=some ⟨g,o,none⟩/\g<w.heap.size/\g≠xb/\w.cell? ⟨g,o+i,none⟩=some (.int .i64<|r i)
 r:∀i,i<len->-9223372036854775808<=r i/\r i<=9223372036854775807
variable {xb:Nat} {r:Nat->Int}
def Src.ke{w}{A':Nat}(h:Src w xb p len cap r A)(hk:Ke xb w w')(hb:Bx w' xb #[.slice p len cap,.int .i64 (A':Int)])(ha:A'<=len):Src w' xb p len cap r A':=by
 refine⟨hb,ha,h.l,λi hi=>?_,h.r⟩;have⟨g,o,e,hg,df,hc⟩:=h.c i hi;exact⟨g,o,e,ja hg hk.size,df,(World.cell?_of_block (a:=⟨g,o+i,none⟩) (w:=w)<|hk.block g hg df).trans hc⟩
def Src.af{w}(h:Src w xb p len cap r A)(hb:Bq w w'):Src w' xb p len cap r A:=h.ke (Ke.of hb) (h.b.below hb) h.a
def xZ xb p len cap r w w':=∃A,Src w' xb p len cap r A/\Ke xb w w'
def x_(h:Src w xb p len cap r A)n(hn:0<n)(hn2:n<=1000):Cq 22 #[Pv xb,Iv n] w λe w'=>∃q:Int,e=.returned (Iv q)/\0<=q/\q<n/\xZ xb p len cap r w w':=by
 have⟨c0,f0,z0⟩:=h.b;have hl:=h.l;have ha:=h.a;by_cases hA:A<len
 .have hA':decide ((len:Int)<=(A:Int))=false:=bP;obtain⟨g,o,rfl,hg,df,hc⟩:=h.c A hA;have⟨r0,r1⟩:=h.r A hA;have hA2:(A:Int)<(len:Int):=ae;go_enter func22,ntmps22
  go_wp2
  go_quiet(fail)
  go_wp2
  go_quiet(fail);go_wp2_with fail;refine(ahy (r A) n r0 r1 hn hn2).mono ?_;rintro e w'⟨q,rfl,q0,q1,rfl⟩
  go_wp2
  go_ret;have e1:((A+1:Nat):Int)=(A:Int)+1:=ae;have hk:∀m,Ke xb w<|(w.drewN m).setCell ⟨xb,1,none⟩<|Iv<|(A:Int)+1:=λm=>(Ke.of<|(Below.refl _ _).drewN m).set 1 _;exact⟨q,rfl,q0,q1,A+1,h.ke (hk _) (by rw[e1];exact(h.b.drewN _).rK 1 _ _ rfl ag) ae,hk _⟩
 .have hA':decide ((len:Int)<=(A:Int))=true:=bP;go_enter func22,ntmps22
  go_wp2
  go_quiet(fail)
  go_wp2
  go_ret;have hk:∀m,Ke xb w<|w.drewN m:=λm=>Ke.of<|(Below.refl _ _).drewN m;exact⟨0,rfl,ae,hn,A,h.ke (hk _) (h.b.drewN _) h.a,hk _⟩
def Raw(w:World)(p:Option Addr)len(r:Nat->Int):=
 ∀i,i<len->(∃g o,p=some ⟨g,o,none⟩/\g<w.heap.size/\w.cell? ⟨g,o+i,none⟩=some (Iv<|r i))/\-9223372036854775808<=r i/\r i<=9223372036854775807
def Txt(w:World)g n(f:Nat->BA):=∀j,j<n->w.cell? ⟨g,j,none⟩=some (.string<|f j)
def ML(h:Src w xb p len cap r A){g lc}{f}(ht:Txt w g n f)(hg:g<w.heap.size)(W8:g≠xb)(hn:0<n)(hn2:n<=1000):
 Cq 30 #[Pv xb,.slice (some ⟨g,0,none⟩) n lc] w λe w'=>∃j,j<n/\e=.returned (.string<|f j)/\xZ xb p len cap r w w':=by
 have HC:=x_ h (n:Int) ae ae;go_enter func30,ntmps30;go_wp2_with fail;refine HC.mono ?_;rintro e w'⟨q,rfl,q0,q1,A',HS,HK⟩;obtain⟨j,rfl⟩:∃j:Nat,q=j:=⟨q.toNat,ae⟩;have hj:j<n:=ae;have c1:=(World.cell?_of_block (a:=⟨g,j,none⟩) (w:=w)<|HK.block g hg W8).trans<|ht j hj
 go_wp2
 go_ret;exact⟨j,hj,rfl,A',HS,HK⟩
end
end
section
open Go.ChangeShapes Go.WideShapes Go.ChangeAt Go.WideMaps Go.WideElems
def AB:Tryz.prog.underlying 22=some (.slice 3):=qkr
def aaY{H:Type}{enc}{fuel}{x:DataW H×List MemPlace}(h:DataW.trod enc jd w base (λ_=>true) true fuel 22 [.slice p len cap]=some x):(len:Int)<=9223372036854775807/\∃r,Raw w p len r:=by
 obtain⟨e,_⟩|⟨a,amE,ahk,zs,e,_,hl,hm,hz,_,b8,hwz⟩:=open_ints AB Tryz.underlying3 YB h
 .simp at e;obtain⟨rfl,rfl,rfl⟩:=e;exact⟨ag,λ_=>0,λi hi=>ae⟩
 .simp at e;obtain⟨rfl,rfl,rfl⟩:=e;simp only[if_true]at hz;refine⟨by simp only[maxLen]at hm;omega,λi=>zs.getD i 0,λi hi=>?_⟩;have Xh:i<zs.length:=ae;obtain⟨g,o,sp⟩:=a;have hsp:sp=none:=by simpa[Addr.add]using World.cell?_spot (b8 0 ae)
  subst hsp;have hc:=b8 i Xh;rw[add_plain]at hc;have hw:=hwz (zs.getD i 0) (by rw[List.getD_eq_getElem?_getD,List.getElem?_eq_getElem Xh];exact List.getElem_mem _);have e1:IntKind.i64.min= -9223372036854775808:=rfl;have e2:IntKind.i64.max=9223372036854775807:=rfl;simp only[Lit.wf,Bool.and_eq_true,decide_eq_true_eq,e1,e2]at hw;exact⟨⟨g,o,rfl,World.block_lt_of_cell? _ _ hc,hc⟩,hw.1,hw.2⟩
end
section
open Un
def parts:Ty->List Ty
 |.var _=>[]|.aK _ l=>l
def mH(v:Nat):∀(l:List Ty),bY v l↔∃t,t∈l/\aA v t
 |[]=>by simp[bY]|a::l=>by simp[bY,mH v l]
def bR{v}{L}:bY v (aT R L)↔∃j,∃h:j<L.length,aA v<|sub R L[j]:=by
 rw[mH,iH];constructor
 .rintro⟨t,ht,ho⟩;obtain⟨u,hu,rfl⟩:=List.mem_map.1 ht;obtain⟨j,hj,rfl⟩:=List.getElem_of_mem hu;exact⟨j,hj,ho⟩
 .grind
section
variable {rk:Nat->Nat}
open Classical in
end
def sY{e}{size}{v}{xs}(h:w.ownsRow base e size v n xs)(hb:∀g,v.ownBlock=some g->w'.heap[g]? =w.heap[g]?):w'.ownsRow base e size v n xs:=by
 obtain⟨h1,h2⟩:=h;refine⟨h1,?_⟩;obtain h2|⟨g,cap,l7,hv,hg,hh,r⟩:=h2
 .exact Or.inl h2
 .exact Or.inr ⟨g,cap,l7,hv,hg,by rw[hb g (by rw[hv];rfl)];exact hh,r⟩
structure Fr(S:Nat->Prop)(w w':World):Prop where
 os:w'.os=w.os
 tape:w'.tape=w.tape
 output:w'.output=w.output
 size:w.heap.size<=w'.heap.size
 block:∀k,k<w.heap.size->¬S k->w'.heap[k]? =w.heap[k]?
def Fr.refl S w:Fr S w w:=⟨rfl,rfl,rfl,br _,λ_ _ _=>rfl⟩
def Fr.of(h:Bq w w'):Fr S w w':=⟨h.os,h.tape,h.output,h.size,λk hk _=>h.block k hk⟩
def Fr.trans{S}{a b c}(h:Fr S a b)(k:Fr S b c):Fr S a c:=
 ⟨k.os.trans h.os,k.tape.trans h.tape,k.output.trans h.output,jc h.size k.size,λi hi hn=>(k.block i (ja hi h.size) hn).trans<|h.block i hi hn⟩
def Fr.low{b}(h:Fr S a b)(k:Below a.heap.size b c):Fr S a c:=
 ⟨k.os.trans h.os,k.tape.trans h.tape,k.output.trans h.output,jc h.size k.size,λi hi hn=>(k.block i hi).trans<|h.block i hi hn⟩
def Fr.set(h:Fr S a w)(hb:S b\/a.heap.size<=b)j u:Fr S a (w.setCell ⟨b,j,none⟩ u):=
 ⟨h.os,h.tape,h.output,by simpa[World.setCell]using h.size,λk hk hn=>by
  rw[Below.heap_setCell _ _ _ _ (by show k≠b;rintro rfl;obtain hb|hb:=hb;exact hn hb;omega)];exact h.block k hk hn⟩
def Fr.drewN(h:Fr S a w)n:Fr S a (w.drewN n):=⟨h.os,h.tape,h.output,h.size,h.block⟩
def Fr.drew(h:Fr S a w):Fr S a w.drew:=⟨h.os,h.tape,h.output,h.size,h.block⟩
def Bx.fr(h:Bx w b C)(hb:Fr S w w')(hn:¬S b):Bx w' b C:=h.same hb.size<|hb.block b h.z hn
def KB(hv iv:Value)b:=hv.ownBlock=some b\/iv.ownBlock=some b
def filter_lt{p q:Nat->Bool}:∀{l:List Nat}(_:∀i,q i=true->p i=true){m:Nat}(_:m∈l)(_:p m=true)(_:q m=false),(l.filter q).length<(l.filter p).length
 |[],_,_,h,_,_=>vR|x::l,hi,m,h,hp,hq=>by
   have hle:∀l:List Nat,(l.filter q).length<=(l.filter p).length:=by
    intro l
    induction l with
    |nil=>simp|cons y l ih=>
     simp only[List.filter_cons];split
     .rename_i hy;simp[hi y hy];exact ih
     .grind
   simp only[List.filter_cons];obtain rfl|h:=List.mem_cons.1 h
   .grind
   .have ih:=filter_lt (l:=l) hi h hp hq;split
    .rename_i hx;simp[hi x hx];exact ih
    .grind
def iT{P}{ops}{o}{a}{K}{Q}{E:Prop}(hg:o.guard=none)s x t(r_:o.op=Op.call {callee:=Callee.builtin Builtin.append,args:=#[s,x],argTypes:=#[t,t]})base e i z size bytes(h1:P.underlying t=some (.slice e))(h2:P.info? e=some i)(h3:i.zero=some z)(h4:i.size=size)(h5:i.bytes=bytes)(h6:z.cells.size=size)(h7:0<size)v n xs(hs:a.eval s=v)(fS:w.ownsRow base e size v n xs)ad m c news(hx:a.eval x=.slice (some ad) m c)(hn:news.length=m*size)(hc:∀j u,news[j]? =some u->w.cell? (ad.add j)=some u)(h1c:∀u∈news,u.oneCell'=true)(b1:n+m<=maxLen)(b2:(n+m)*bytes<=140737488355328)(qW:base<=w.heap.size)(hK:∀v' w',w'.ownsRow base e size v' (n+m) (xs++news)->w.grownBy w' v.ownBlock->(v'.ownBlock=v.ownBlock\/v'.ownBlock=some w.heap.size)->K (a.put o.dst v') w'):
 if Region.wanted o (yielded ops a.tmps)=true then Oper.wp P o a w K Q else E:=by
 have hw:Region.wanted o (yielded ops a.tmps)=true:=by simp[Region.wanted,hg]
 rw[if_pos hw];have⟨v',w',lN,r1,r2,_,r4⟩:=run_append_own_at (P:=P) w base t o.type e i z size bytes h1 h2 h3 h4 h5 h6 h7 v n xs fS ad m c news hn hc h1c b1 b2 qW;rw[Oper.wp];simp[execOp,r_,resolve,invoke,builtin,hs,hx,lN,Result.andThen];exact hK v' w' r1 r2 r4
theorem toList_inj{a b:BA}(h:a.toList=b.toList):a=b:=by
 rw[ByteArray.toList_eq,ByteArray.toList_eq]at h;exact ByteArray.ext<|Array.ext' h
def JZ{α:Type}(L:List α)j(h:j<L.length):L=L.take j++L[j]::L.drop (j+1):=by simp_all
section
variable {lv:Value}
def ix(s:BA):List BA->Nat
 |[]=>0|a::l=>if a.toList=s.toList then 0 else ix s l+1
end
def qP s ns:=if ix s ns<ns.length then ns else ns++[s]
theorem MH{s:BA}:∀{ns:List BA},s∈ns->ix s ns<ns.length
 |[],h=>vR|a::ns,h=>by
   simp only[ix];split
   .simp
   .rename_i ne;obtain e|h:=List.mem_cons.1 h
    .exact absurd (by rw[e]) ne
    .have:=MH h;simp;omega
def R7{p:Prop}(h:p:=by
 rename_i e;exact absurd (List.mem_cons.2<|Or.inl (toList_inj e).symm) h):p:=h
theorem aaZ{s:BA}:∀{ns:List BA},¬s∈ns->ix s ns=ns.length
 |[],_=>rfl|a::ns,h=>by
   simp only[ix];split
   .exact R7
   .rw[aaZ<|λk=>h<|List.mem_cons_of_mem _ k];simp
def QO{s:BA}:∀{ns:List BA},¬s∈ns->ix s (ns++[s])=ns.length
 |[],_=>by simp[ix]|a::ns,h=>by
   simp only[List.cons_append,ix];split
   .exact R7
   .rw[QO<|λk=>h<|List.mem_cons_of_mem _ k];simp
def Px(h:s∈ns):qP s ns=ns:=by grind[qP,MH]
def ZU(h:¬s∈ns):qP s ns=ns++[s]:=by grind[qP,aaZ]
def iR k s:=if k=17 then qJ else if k=6 then nO else s
mutual
def bt(ns:List BA):Nd->Ty×List BA
 |.mk k s _ L _ _ _=>if k=16 then(.var<|ix s (qP s ns)+1,qP s ns)else(.aK (iR k s) (aF ns L).1,(aF ns L).2)
def aF(ns:List BA):List Nd->List Ty×List BA
 |[]=>([],ns)|x::l=>((bt ns x).1::(aF (bt ns x).2 l).1,(aF (bt ns x).2 l).2)
end
inductive yW:Nd->Prop where
 |var(s:BA)(n f t a:Nat):yW (.mk 16 s n [] f t a)
 |two(k:Nat)(s:BA)(n:Nat)(x y:Nd)(f t a:Nat)(hk:k=17\/k=6)(hx:yW x)(hy:yW y):yW (.mk k s n [x,y] f t a)
 |up(s:BA)(n:Nat)(L:List Nd)(f t a:Nat)(hw:∀n,Yb s n)(hl:L.length<=1001)(hL:∀i(h:i<L.length),yW L[i]):yW (.mk 2 s n L f t a)
def Fr.trans'{T}{b}(h:Fr S a b)(k:Fr T b c)(hT:∀x,T x->S x\/a.heap.size<=x):Fr S a c:=
 ⟨k.os.trans h.os,k.tape.trans h.tape,k.output.trans h.output,jc h.size k.size,λi hi hn=>(k.block i (ja hi h.size) (λt=>by obtain t|t:=hT i t;exact hn t;omega)).trans (h.block i hi hn)⟩
def Bx.ae6{b2}(h:Bx w b C)(hn:b≠b2)v0 v1 v2:Bx (((w.setCell ⟨b2,0,none⟩ v0).setCell ⟨b2,1,none⟩ v1).setCell ⟨b2,2,none⟩ v2) b C:=
 ((h.oe hn 0 v0).oe hn 1 v1).oe hn 2 v2
def JM s ns:ns.length<=(qP s ns).length:=by rw[qP];split<;>simp
mutual
def aa0:∀(nd:Nd)(ns:List BA),ns.length<=(bt ns nd).2.length
 |.mk k s n L f t a,ns=>by
  simp only[bt];split
  .exact JM s ns
  .exact uS L ns
def uS:∀(L:List Nd)(ns:List BA),ns.length<=(aF ns L).2.length
 |[],ns=>by simp[aF]|x::l,ns=>by simp only[aF];exact jc (aa0 x ns)<|uS l _
end
mutual
def cnt:Nd->Nat
 |.mk k _ _ L _ _ _=>(if k=16 then 1 else 0)+ajU L
def ajU:List Nd->Nat
 |[]=>0|x::l=>cnt x+ajU l
end
mutual
def nm(M:List BA):Nd->Ty
 |.mk k s _ L _ _ _=>if k=16 then .var (ix s M+1)else .aK (iR k s) (nmL M L)
def nmL(M:List BA):List Nd->List Ty
 |[]=>[]|x::l=>nm M x::nmL M l
end
def tr(M1 M2:List BA)i:=ix (M1.getD (i-1) ⟨#[]⟩) M2+1
end
end Go.Proofs.YtfnkchdeheeiiaaGreatDoor

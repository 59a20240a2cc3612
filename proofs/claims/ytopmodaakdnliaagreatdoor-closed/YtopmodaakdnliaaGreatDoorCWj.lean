import Derived.Deep.RegionLaw
import Derived.LaidMore
import Derived.Test.YtopmodaakdnliaaGreatDoorTie
import Derived.Test.YtopmodaakdnliaaGreatDoorCPure
import Derived.Test.YtopmodaakdnliaaGreatDoorCLd0
import Derived.Test.YtopmodaakdnliaaGreatDoorCKit
set_option linter.all false
set_option maxRecDepth 100000
set_option maxHeartbeats 4000000
namespace Go.Proofs.YtopmodaakdnliaaGreatDoor
open Go.World renaming cell?_of_block->ja,setCell->jc
open _root_.Nat renaming lt_of_lt_of_le->jd,le_trans->jf,zero_le->jh
open _root_.List renaming getD_eq_getElem?_getD->ji,mem_cons_of_mem->jj,getElem_of_mem->jk,getElem_mem->jl
open Go.RowKit.Below renaming refl->jm,heap_setCell->jo
open Go.Proofs.Tryz renaming prog->jq,underlying9->jt
open Go Go.RowKit Proofs.Tryz
variable {C:Array Value} {s:BA} {ns:List BA} {A B N b base cap g i kb len n nb o vc:Nat} {K:Nat->Option Un.Ty} {P Q S:Nat->Prop} {R:Nat->Un.Ty} {p sa:Option Addr} {hv iv nv:Value} {a c w w':World}
section
open Un
structure P10(w:World):Prop where
 c:∀j,j<10->w.cell? ⟨2,j,none⟩=some (.int .u64 ((10^j:Nat):Int))
 z:2<w.heap.size
end
section
open Go.ChangeShapes Go.WideShapes Go.ChangeAt Go.WideMaps Go.WideElems
def own:ownKnob Tryz.prog.godebug=none:=qkr
def laidOut:laidOutB jq=true:=qkr
def gWords:Tryz.prog.globalNamed "assay/reader.words" =some 1:=qkr
def gSigns:Tryz.prog.globalNamed "assay/reader.signs" =some 0:=qkr
def ai4:(Tryz.prog.globals[1]?).map (·.type)=some 349:=qkr
def ai5:(Tryz.prog.globals[0]?).map (·.type)=some 349:=qkr
def Ut:List (String×DataW Unit):=Rows.closedRow.laid
def acW os args:laidMetH jq Ut ((World.doorLaid jq 72 os).forCall (λ_ _=>0) ⟨#[],args,[]⟩).memory:=
 laidMetH_of_parts3 (fuel:=8) (laidMet_of_run' 8 qkr qkr) qkr qkr
def afy{W}(h:laidMetH jq Ut W):Laid W:=by
 rw[MakeChecks.laidMetH_plain _ _ _ qkr]at h;obtain⟨ps,⟨g0,t0,cs0,f0,p0,q0,hg0,ht0,hv0,XP,⟨g1,t1,cs1,f1,p1,q1,hg1,ht1,WV,II,⟨g2,t2,cs2,f2,p2,q2,JM,ht2,hv2,hd2,⟨g3,t3,cs3,f3,p3,q3,hg3,ht3,hv3,hd3,⟨g4,t4,cs4,f4,p4,q4,hg4,ht4,hv4,hd4,⟨g5,t5,cs5,f5,p5,q5,hg5,ht5,hv5,hd5,⟨g6,t6,cs6,f6,p6,q6,I8,ht6,hv6,hd6,_,_⟩,_⟩,_⟩,_⟩,_⟩,_⟩,_⟩,_,_⟩:=h;obtain rfl:=Option.some.inj<|gWords.symm.trans hg5;obtain rfl:=Option.some.inj<|gSigns.symm.trans I8;obtain rfl:=Option.some.inj<|ai4.symm.trans ht5;obtain rfl:=Option.some.inj<|ai5.symm.trans ht6;have hw:=zQ Pu.words Tryz.underlying349 jt strCells hd5;have hs:=zQ signs Tryz.underlying349 jt strCells hd6;have c1:∀j,j<13->W.cell? ⟨1,j,none⟩=some (Sv<|Pu.j_ j):=λj hj=>by
  rw[World.var?_cell hg5 hv5 j];have:=hw j hj;rw[Array.getElem?_toList]at this;exact this
 have c0:∀j,j<13->W.cell? ⟨0,j,none⟩=some (Sv<|cP j):=λj hj=>by
  rw[World.var?_cell I8 hv6 j];have:=hs j hj;rw[Array.getElem?_toList]at this;exact this
 exact⟨c1,c0,World.block_lt_of_cell? _ _<|c1 0 ae⟩
end
section
open Un
structure TV where
 n:Int
 s:BA
 la:Option Addr
 ll:Nat
 lc:Nat
def TV.l(x:TV):List Value:=[Iv x.n,.string x.s,.slice x.la x.ll x.lc]
def at3(w:World)g i(x:TV):=∀j,j<3->w.cell? ⟨g,i*3+j,none⟩=(x.l)[j]?
def EG(s:BA):=∃x r,s.toList=x::r/\Pu.Bv x.toNat=true/\(∀y∈r,Pu.aV y.toNat=true)
def MD c n:=c.size<=4/\(c=pH\/c=o6->n=2)/\(c=pH\/c=o6\/EG c)
def ZL(rk:Nat->Nat):Ty->Nat
 |.var n=>rk n+1|.aM _ _=>0
def Bx.pI(h:Bx w b C)(hC:C.size=3)(v0 v1 v2:Value):Bx (((w.setCell ⟨b,0,none⟩ v0).setCell ⟨b,1,none⟩ v1).setCell ⟨b,2,none⟩ v2) b #[v0,v1,v2]:=by
 obtain⟨a0,a1,a2,rfl⟩:∃a0 a1 a2,C=#[a0,a1,a2]:=by
  obtain⟨l⟩:=C
  match l,hC with
  |[a,b,c],_=>exact⟨a,b,c,rfl⟩
 exact((h.mE 0 v0 #[v0,a1,a2] rfl ah).mE 1 v1 #[v0,v1,a2] rfl ah).mE 2 v2 #[v0,v1,v2] rfl ah
def _root_.Go.RowKit.Below.drewN(h:Below B a w)n:Below B a (w.drewN n):=⟨h.os,h.tape,h.output,h.size,h.block⟩
def Bx.drewN{w}{b}{C}(h:Bx w b C)n:Bx (w.drewN n) b C:=h.below<|(jm _ _).drewN n
def _root_.Go.RowKit.Below.pI(h:Below B a w)(hb:B<=b)(v0 v1 v2:Value):Below B a (((w.setCell ⟨b,0,none⟩ v0).setCell ⟨b,1,none⟩ v1).setCell ⟨b,2,none⟩ v2):=
 ((h.setCell hb v0).setCell hb v1).setCell hb v2
section
def P8 c n(h0: -9223372036854775808<=c)(h1:c<=9223372036854775807)(hn:0<n)(Mm:n<=1000):Cq 4 #[Iv c,Iv n] w λe w'=>∃r:Int,e=.returned (Iv r)/\0<=r/\r<n/\w'=w:=by
 by_cases hc:c<0
 .go_enter func4,ntmps4
  go_wp2
  go_ret;refine⟨_,rfl,?_,?_,rfl⟩
  .show 0<=-((c+1).tmod n);rw[<-Int.neg_tmod];exact Int.tmod_nonneg _ ae
  .show-((c+1).tmod n)<n;rw[<-Int.neg_tmod];exact Int.tmod_lt_of_pos _ hn
 .have hc':decide (c<0)=false:=bi;go_enter func4,ntmps4
  go_wp2
  go_ret;exact⟨_,rfl,Int.emod_nonneg _ ae,Int.emod_lt_of_pos _ hn,rfl⟩
structure Src w xb p len cap(r:Nat->Int)(A:Nat):Prop where
 b:Bx w xb #[.slice p len cap,.int .i64 (A:Int)]
 a:A<=len
 l:(len:Int)<=9223372036854775807
 c:∀i,i<len->∃g o,p=some ⟨g,o,none⟩/\g<w.heap.size/\g≠xb/\w.cell? ⟨g,o+i,none⟩=some (.int .i64<|r i)
 r:∀i,i<len->-9223372036854775808<=r i/\r i<=9223372036854775807
variable {xb:Nat} {r:Nat->Int}
def Src.ke{w}{A':Nat}(h:Src w xb p len cap r A)(hk:Ke xb w w')(hb:Bx w' xb #[.slice p len cap,.int .i64 (A':Int)])(ha:A'<=len):Src w' xb p len cap r A':=by
 refine⟨hb,ha,h.l,λi hi=>?_,h.r⟩;have⟨g,o,e,hg,cJ,hc⟩:=h.c i hi;exact⟨g,o,e,jd hg hk.size,cJ,(ja (a:=⟨g,o+i,none⟩) (w:=w)<|hk.block g hg cJ).trans hc⟩
def Src.af{w}(h:Src w xb p len cap r A)(hb:Bq w w'):Src w' xb p len cap r A:=h.ke (Ke.of hb) (h.b.below hb) h.a
def FK xb p len cap r w w':=∃A,Src w' xb p len cap r A/\Ke xb w w'
def yp(h:Src w xb p len cap r A)n(hn:0<n)(Mm:n<=1000):Cq 5 #[Pv xb,Iv n] w λe w'=>∃q:Int,e=.returned (Iv q)/\0<=q/\q<n/\FK xb p len cap r w w':=by
 have⟨c0,f0,z0⟩:=h.b;have hl:=h.l;have ha:=h.a;by_cases hA:A<len
 .have hA':decide ((len:Int)<=(A:Int))=false:=bi;obtain⟨g,o,rfl,hg,cJ,hc⟩:=h.c A hA;have⟨r0,r1⟩:=h.r A hA;have hA2:(A:Int)<(len:Int):=ae;go_enter func5,ntmps5
  go_wp2
  go_quiet(fail)
  go_wp2
  go_quiet(fail);go_wp2_with fail;refine(P8 (r A) n r0 r1 hn Mm).mono ?_;rintro e w'⟨q,rfl,q0,q1,rfl⟩
  go_wp2
  go_ret;have e1:((A+1:Nat):Int)=(A:Int)+1:=ae;have hk:∀m,Ke xb w<|(w.drewN m).setCell ⟨xb,1,none⟩<|Iv<|(A:Int)+1:=λm=>(Ke.of<|(jm _ _).drewN m).set 1 _;exact⟨q,rfl,q0,q1,A+1,h.ke (hk _) (by rw[e1];exact(h.b.drewN _).mE 1 _ _ rfl ah) ae,hk _⟩
 .have hA':decide ((len:Int)<=(A:Int))=true:=bi;go_enter func5,ntmps5
  go_wp2
  go_quiet(fail)
  go_wp2
  go_ret;have hk:∀m,Ke xb w<|w.drewN m:=λm=>Ke.of<|(jm _ _).drewN m;exact⟨0,rfl,ae,hn,A,h.ke (hk _) (h.b.drewN _) h.a,hk _⟩
def Raw(w:World)(p:Option Addr)len(r:Nat->Int):=
 ∀i,i<len->(∃g o,p=some ⟨g,o,none⟩/\g<w.heap.size/\w.cell? ⟨g,o+i,none⟩=some (Iv<|r i))/\-9223372036854775808<=r i/\r i<=9223372036854775807
def Txt(w:World)g n(f:Nat->BA):=∀j,j<n->w.cell? ⟨g,j,none⟩=some (.string<|f j)
def aaN(h:Src w xb p len cap r A){lc}{f}(ht:Txt w g n f)(hg:g<w.heap.size)(X8:g≠xb)(hn:0<n)(Mm:n<=1000):
 Cq 8 #[Pv xb,.slice (some ⟨g,0,none⟩) n lc] w λe w'=>∃j,j<n/\e=.returned (.string<|f j)/\FK xb p len cap r w w':=by
 have HC:=yp h (n:Int) ae ae;go_enter func8,ntmps8;go_wp2_with fail;refine HC.mono ?_;rintro e w'⟨q,rfl,q0,q1,A',HS,HK⟩;obtain⟨j,rfl⟩:∃j:Nat,q=j:=⟨q.toNat,ae⟩;have hj:j<n:=ae;have c1:=(World.cell?_of_block (a:=⟨g,j,none⟩) (w:=w)<|HK.block g hg X8).trans<|ht j hj
 go_wp2
 go_ret;exact⟨j,hj,rfl,A',HS,HK⟩
end
end
section
open Go.ChangeShapes Go.WideShapes Go.ChangeAt Go.WideMaps Go.WideElems
def Bi:Tryz.prog.underlying 22=some (.slice 3):=qkr
def acX{H:Type}{enc}{fuel}{x:DataW H×List MemPlace}(h:DataW.trod enc jq w base (λ_=>true) true fuel 22 [.slice p len cap]=some x):(len:Int)<=9223372036854775807/\∃r,Raw w p len r:=by
 obtain⟨e,_⟩|⟨a,aoj,ai1,zs,e,_,hl,hm,hz,_,bX,hwz⟩:=open_ints Bi Tryz.underlying3 ZS h
 .simp at e;obtain⟨rfl,rfl,rfl⟩:=e;exact⟨ah,λ_=>0,λi hi=>ae⟩
 .simp at e;obtain⟨rfl,rfl,rfl⟩:=e;simp only[if_true]at hz;refine⟨by simp only[maxLen]at hm;omega,λi=>zs.getD i 0,λi hi=>?_⟩;have hiz:i<zs.length:=ae;obtain⟨g,o,sp⟩:=a;have Ii:sp=none:=by simpa[Addr.add]using World.cell?_spot (bX 0 ae)
  subst Ii;have hc:=bX i hiz;rw[add_plain]at hc;have hw:=hwz (zs.getD i 0) (by rw[ji,List.getElem?_eq_getElem hiz];exact jl _);have e1:IntKind.i64.min= -9223372036854775808:=rfl;have e2:IntKind.i64.max=9223372036854775807:=rfl;simp only[Lit.wf,Bool.and_eq_true,decide_eq_true_eq,e1,e2]at hw;exact⟨⟨g,o,rfl,World.block_lt_of_cell? _ _ hc,hc⟩,hw.1,hw.2⟩
end
section
open Un
def parts:Ty->List Ty
 |.var _=>[]|.aM _ l=>l
def lL(v:Nat):∀(l:List Ty),ck v l↔∃t,t∈l/\aG v t
 |[]=>by simp[ck]|a::l=>by simp[ck,lL v l]
def bI{v}{L}:ck v (ba R L)↔∃j,∃h:j<L.length,aG v<|sub R L[j]:=by
 rw[lL,iq];constructor
 .rintro⟨t,ht,ho⟩;obtain⟨u,hu,rfl⟩:=List.mem_map.1 ht;obtain⟨j,hj,rfl⟩:=jk hu;exact⟨j,hj,ho⟩
 .grind
section
variable {rk:Nat->Nat}
open Classical in
end
def lK{e}{size}{v}{xs}(h:w.ownsRow base e size v n xs)(hb:∀g,v.ownBlock=some g->w'.heap[g]? =w.heap[g]?):w'.ownsRow base e size v n xs:=by
 obtain⟨h1,h2⟩:=h;refine⟨h1,?_⟩;obtain h2|⟨g,cap,jL,hv,hg,hh,r⟩:=h2
 .exact Or.inl h2
 .exact Or.inr ⟨g,cap,jL,hv,hg,by rw[hb g (by rw[hv];rfl)];exact hh,r⟩
structure Fr(S:Nat->Prop)(w w':World):Prop where
 os:w'.os=w.os
 tape:w'.tape=w.tape
 output:w'.output=w.output
 size:w.heap.size<=w'.heap.size
 block:∀k,k<w.heap.size->¬S k->w'.heap[k]? =w.heap[k]?
def Fr.refl S w:Fr S w w:=⟨rfl,rfl,rfl,br _,λ_ _ _=>rfl⟩
def Fr.of(h:Bq w w'):Fr S w w':=⟨h.os,h.tape,h.output,h.size,λk hk _=>h.block k hk⟩
def Fr.trans{S}{a b c}(h:Fr S a b)(k:Fr S b c):Fr S a c:=
 ⟨k.os.trans h.os,k.tape.trans h.tape,k.output.trans h.output,jf h.size k.size,λi hi hn=>(k.block i (jd hi h.size) hn).trans<|h.block i hi hn⟩
def Fr.low{b}(h:Fr S a b)(k:Below a.heap.size b c):Fr S a c:=
 ⟨k.os.trans h.os,k.tape.trans h.tape,k.output.trans h.output,jf h.size k.size,λi hi hn=>(k.block i hi).trans<|h.block i hi hn⟩
def Fr.set(h:Fr S a w)(hb:S b\/a.heap.size<=b)j u:Fr S a (w.setCell ⟨b,j,none⟩ u):=
 ⟨h.os,h.tape,h.output,by simpa[jc]using h.size,λk hk hn=>by
  rw[jo _ _ _ _ (by show k≠b;rintro rfl;obtain hb|hb:=hb;exact hn hb;omega)];exact h.block k hk hn⟩
def Fr.drewN(h:Fr S a w)n:Fr S a (w.drewN n):=⟨h.os,h.tape,h.output,h.size,h.block⟩
def Fr.drew(h:Fr S a w):Fr S a w.drew:=⟨h.os,h.tape,h.output,h.size,h.block⟩
def Bx.fr(h:Bx w b C)(hb:Fr S w w')(hn:¬S b):Bx w' b C:=h.same hb.size<|hb.block b h.z hn
def KB(hv iv:Value)b:=hv.ownBlock=some b\/iv.ownBlock=some b
def opens(K:Nat->Option Ty)(N:Nat):Nat:=((List.range N).filter λi=>(K<|i+1).isNone).length
def filter_lt{p q:Nat->Bool}:∀{l:List Nat}(_:∀i,q i=true->p i=true){m:Nat}(_:m∈l)(_:p m=true)(_:q m=false),(l.filter q).length<(l.filter p).length
 |[],_,_,h,_,_=>xA|x::l,hi,m,h,hp,hq=>by
   have hle:∀l:List Nat,(l.filter q).length<=(l.filter p).length:=by
    intro l
    induction l with
    |nil=>simp|cons y l ih=>
     simp only[List.filter_cons];split
     .rename_i hy;simp[hi y hy];exact ih
     .grind
   simp only[List.filter_cons];obtain rfl|h:=List.mem_cons.1 h
   .grind
   .have ih:=filter_lt (l:=l) hi h hp hq;split
    .rename_i hx;simp[hi x hx];exact ih
    .grind
def fk{P}{ops}{o}{a}{K}{Q}{E:Prop}(hg:o.guard=none)s x t(tI:o.op=Op.call {callee:=Callee.builtin Builtin.append,args:=#[s,x],argTypes:=#[t,t]})base e i z size bytes(h1:P.underlying t=some (.slice e))(h2:P.info? e=some i)(h3:i.zero=some z)(h4:i.size=size)(h5:i.bytes=bytes)(h6:z.cells.size=size)(h7:0<size)v n xs(hs:a.eval s=v)(f_:w.ownsRow base e size v n xs)ad m c news(hx:a.eval x=.slice (some ad) m c)(hn:news.length=m*size)(hc:∀j u,news[j]? =some u->w.cell? (ad.add j)=some u)(h1c:∀u∈news,u.oneCell'=true)(b1:n+m<=maxLen)(b2:(n+m)*bytes<=140737488355328)(p7:base<=w.heap.size)(hK:∀v' w',w'.ownsRow base e size v' (n+m) (xs++news)->w.grownBy w' v.ownBlock->(v'.ownBlock=v.ownBlock\/v'.ownBlock=some w.heap.size)->K (a.put o.dst v') w'):
 if Region.wanted o (yielded ops a.tmps)=true then Oper.wp P o a w K Q else E:=by
 have hw:Region.wanted o (yielded ops a.tmps)=true:=by simp[Region.wanted,hg]
 rw[if_pos hw];have⟨v',w',lT,r1,r2,_,r4⟩:=run_append_own_at (P:=P) w base t o.type e i z size bytes h1 h2 h3 h4 h5 h6 h7 v n xs f_ ad m c news hn hc h1c b1 b2 p7;rw[Oper.wp];simp[execOp,tI,resolve,invoke,builtin,hs,hx,lT,Result.andThen];exact hK v' w' r1 r2 r4
def toList_inj{a b:BA}(h:a.toList=b.toList):a=b:=by
 rw[ByteArray.toList_eq,ByteArray.toList_eq]at h;exact ByteArray.ext<|Array.ext' h
def LN{α:Type}(L:List α)j(h:j<L.length):L=L.take j++L[j]::L.drop (j+1):=by simp_all
section
variable {lv:Value}
def ix(s:BA):List BA->Nat
 |[]=>0|a::l=>if a.toList=s.toList then 0 else ix s l+1
end
def pK s ns:=if ix s ns<ns.length then ns else ns++[s]
theorem acY{s:BA}:∀{ns:List BA},s∈ns->ix s ns<ns.length
 |[],h=>xA|a::ns,h=>by
   simp only[ix];split
   .simp
   .rename_i ne;obtain e|h:=List.mem_cons.1 h
    .exact absurd (by rw[e]) ne
    .have:=acY h;simp;omega
def yz{p:Prop}(h:p:=by
 rename_i e;exact absurd (List.mem_cons.2<|Or.inl (toList_inj e).symm) h):p:=h
theorem acZ{s:BA}:∀{ns:List BA},¬s∈ns->ix s ns=ns.length
 |[],_=>rfl|a::ns,h=>by
   simp only[ix];split
   .exact yz
   .rw[acZ<|λk=>h<|jj _ k];simp
def TI{s:BA}:∀{ns:List BA},¬s∈ns->ix s (ns++[s])=ns.length
 |[],_=>by simp[ix]|a::ns,h=>by
   simp only[List.cons_append,ix];split
   .exact yz
   .rw[TI<|λk=>h<|jj _ k];simp
def afg(h:s∈ns):pK s ns=ns:=by grind[pK,acY]
def acn(h:¬s∈ns):pK s ns=ns++[s]:=by grind[pK,acZ]
def w_ k s:=if k=17 then pH else if k=6 then o6 else s
mutual
def eJ(ns:List BA):Nd->Ty×List BA
 |.mk k s _ L _ _ _=>if k=16 then(.var<|ix s (pK s ns)+1,pK s ns)else(.aM (w_ k s) (bC ns L).1,(bC ns L).2)
def bC(ns:List BA):List Nd->List Ty×List BA
 |[]=>([],ns)|x::l=>((eJ ns x).1::(bC (eJ ns x).2 l).1,(bC (eJ ns x).2 l).2)
end
inductive Ll:Nd->Prop where
 |var(s:BA)(n f t a:Nat):Ll (.mk 16 s n [] f t a)
 |two(k:Nat)(s:BA)(n:Nat)(x y:Nd)(f t a:Nat)(hk:k=17\/k=6)(hx:Ll x)(hy:Ll y):Ll (.mk k s n [x,y] f t a)
 |up(s:BA)(n:Nat)(L:List Nd)(f t a:Nat)(hw:∀n,MD s n)(hl:L.length<=1001)(hL:∀i(h:i<L.length),Ll L[i]):Ll (.mk 2 s n L f t a)
def Fr.trans'{T}{b}(h:Fr S a b)(k:Fr T b c)(hT:∀x,T x->S x\/a.heap.size<=x):Fr S a c:=
 ⟨k.os.trans h.os,k.tape.trans h.tape,k.output.trans h.output,jf h.size k.size,λi hi hn=>(k.block i (jd hi h.size) (λt=>by obtain t|t:=hT i t;exact hn t;omega)).trans (h.block i hi hn)⟩
def Bx.aj9{b2}(h:Bx w b C)(hn:b≠b2)v0 v1 v2:Bx (((w.setCell ⟨b2,0,none⟩ v0).setCell ⟨b2,1,none⟩ v1).setCell ⟨b2,2,none⟩ v2) b C:=
 ((h.gE hn 0 v0).gE hn 1 v1).gE hn 2 v2
def LW s ns:ns.length<=(pK s ns).length:=by rw[pK];split<;>simp
mutual
def ac3:∀(nd:Nd)(ns:List BA),ns.length<=(eJ ns nd).2.length
 |.mk k s n L f t a,ns=>by
  simp only[eJ];split
  .exact LW s ns
  .exact u7 L ns
def u7:∀(L:List Nd)(ns:List BA),ns.length<=(bC ns L).2.length
 |[],ns=>by simp[bC]|x::l,ns=>by simp only[bC];exact jf (ac3 x ns)<|u7 l _
end
mutual
def cnt:Nd->Nat
 |.mk k _ _ L _ _ _=>(if k=16 then 1 else 0)+alV L
def alV:List Nd->Nat
 |[]=>0|x::l=>cnt x+alV l
end
end
namespace Ms
def kS:So->BA
 |.i=>⟨#[73,110,116]⟩|.b=>⟨#[66,111,111,108]⟩|.l=>⟨#[76]⟩|.p=>⟨#[44]⟩|.s=>⟨#[83]⟩
def Sk.kd:Sk->BA
 |.any=>⟨#[]⟩|.hd t _ _=>kS t
def Sk.pl:Sk->Nat
 |.any=>0|.hd _ n _=>n
def Sk.ps:Sk->List Sk
 |.any=>[]|.hd _ _ ps=>ps
def nL(a:Option Addr)(n c:Nat):Prop:=n<=c/\(a=none->c=0)
mutual
def SkM(w:World)(P:Nat->Prop):Sk->Nat->Nat->Prop
 |.any,g,o=>w.cell? ⟨g,o,none⟩=some (.string ⟨#[]⟩)/\w.cell? ⟨g,o+1,none⟩=some (Iv 0)/\∃pa pc,w.cell? ⟨g,o+2,none⟩=some (.slice pa 0 pc)/\nL pa 0 pc|.hd t n ps,g,o=>w.cell? ⟨g,o,none⟩=some (.string<|kS t)/\w.cell? ⟨g,o+1,none⟩=some (Nv n)/\∃pa pc,w.cell? ⟨g,o+2,none⟩=some (.slice pa ps.length pc)/\nL pa ps.length pc/\aS w P ps pa
def aS(w:World)(P:Nat->Prop):List Sk->Option Addr->Prop
 |[],_=>True|p::ps,a=>∃g o,a=some ⟨g,o,none⟩/\P g/\g<w.heap.size/\SkM w P p g o/\aS w P ps (some ⟨g,o+3,none⟩)
end
mutual
def SkM.mv(hs:w.heap.size<=w'.heap.size)(h:∀g,P g->g<w.heap.size->w'.heap[g]? =w.heap[g]?)(hq:∀g,P g->g<w.heap.size->Q g):∀p g o,P g->g<w.heap.size->SkM w P p g o->SkM w' Q p g o
 |.any,g,o,hg,hz,⟨q1,q2,pa,pc,q3,q4⟩=>by
  have e:∀o,w'.cell? ⟨g,o,none⟩=w.cell? ⟨g,o,none⟩:=λo=>ja (a:=⟨g,o,none⟩)<|h g hg hz;exact⟨(e _).trans q1,(e _).trans q2,pa,pc,(e _).trans q3,q4⟩
 |.hd t n ps,g,o,hg,hz,⟨q1,q2,pa,pc,q3,q4,q5⟩=>by
  have e:∀o,w'.cell? ⟨g,o,none⟩=w.cell? ⟨g,o,none⟩:=λo=>ja (a:=⟨g,o,none⟩)<|h g hg hz;exact⟨(e _).trans q1,(e _).trans q2,pa,pc,(e _).trans q3,q4,aS.mv hs h hq ps pa q5⟩
def aS.mv(hs:w.heap.size<=w'.heap.size)(h:∀g,P g->g<w.heap.size->w'.heap[g]? =w.heap[g]?)(hq:∀g,P g->g<w.heap.size->Q g):∀ps a,aS w P ps a->aS w' Q ps a
 |[],_,_=>trivial|p::ps,a,⟨g,o,e,hg,hz,q1,q2⟩=>⟨g,o,e,hq g hg hz,jd hz hs,SkM.mv hs h hq p g o hg hz q1,aS.mv hs h hq ps _ q2⟩
end
def aS.af{ps:List Sk}{a:Option Addr}(q:aS w P ps a)(hb:Bq w w'):aS w' P ps a:=aS.mv hb.size (λg _ hz=>hb.block g hz) (λ_ p _=>p) ps a q
def aS.up{ps:List Sk}{a:Option Addr}(q:aS w P ps a)(hq:∀g,P g->g<w.heap.size->Q g):aS w Q ps a:=aS.mv (br _) (λ_ _ _=>rfl) hq ps a q
def aS.Ey{ps:List Sk}{a:Option Addr}(q:aS w P ps a)(hn:∀g,P g->g≠b)(j:Nat)(u:Value):aS (w.setCell ⟨b,j,none⟩ u) P ps a:=aS.mv yG (λg p _=>jo _ _ _ _<|hn g p) (λ_ p _=>p) ps a q
def aS.drop{p:Sk}{ps:List Sk}(q:aS w P (p::ps) (some ⟨g,o,none⟩)):aS w P ps (some ⟨g,o+3,none⟩):=by
 obtain⟨_,_,e,_,_,_,q⟩:=q
 cases e
 exact q
def aS.take:∀{ps:List Sk}{a:Option Addr}(n:Nat),aS w P ps a->aS w P (ps.take n) a
 |[],_,n,q=>by simpa using q|_::_,_,0,_=>by simp[aS]|_::_,_,n+1,q=>by obtain⟨g,o,e,h1,h2,h3,q⟩:=q;rw[List.take_succ_cons];exact⟨g,o,e,h1,h2,h3,aS.take n q⟩
def aS.agr:∀{ps:List Sk}{g o:Nat}(n:Nat),aS w P ps (some ⟨g,o,none⟩)->aS w P (ps.drop n) (some ⟨g,o+n*3,none⟩)
 |[],_,_,n,_=>by simp[aS]|_::_,_,_,0,q=>by simpa using q|_::_,g,o,n+1,q=>by
  have:=aS.agr n q.drop
  rwa[show o+3+n*3=o+(n+1)*3 by omega]at this
def aS.ptr{ps:List Sk}{a:Option Addr}(q:aS w P ps a)(h:0<ps.length):∃g o,a=Option.some ⟨g,o,none⟩/\P g/\g<w.heap.size:=by
 match ps,q with
 |_::_,q=>obtain⟨g,o,e,h1,h2,_⟩:=q;exact⟨g,o,e,h1,h2⟩
def aS.at:∀{ps:List Sk}{g o:Nat}(i:Nat)(h:i<ps.length),aS w P ps (some ⟨g,o,none⟩)->SkM w P ps[i] g (o+i*3)/\P g/\g<w.heap.size
 |p::ps,g,o,0,_,q=>by obtain⟨_,_,e,h1,h2,h3,_⟩:=q;cases e;exact⟨by simpa using h3,h1,h2⟩
 |p::ps,g,o,i+1,h,q=>by
  have:=aS.at (ps:=ps) (o:=o+3) i xB q.drop;rw[show o+(i+1)*3=o+3+i*3 by omega];simpa using this
def SkM.cells{p:Sk}(q:SkM w P p g o):w.cell? ⟨g,o,none⟩=some (.string p.kd)/\w.cell? ⟨g,o+1,none⟩=some (Nv p.pl)/\∃pa pc,w.cell? ⟨g,o+2,none⟩=some (.slice pa p.ps.length pc)/\nL pa p.ps.length pc/\aS w P p.ps pa:=by
 cases p with
 |any=>obtain⟨q1,q2,pa,pc,q3,q4⟩:=q;exact⟨q1,q2,pa,pc,q3,q4,trivial⟩
 |hd t n ps=>exact q
end Ms
def NG(c:Bool):Cq 62 #[.bool c] w λe w'=>e=.returned (.agg #[.string<|Ms.kS .b,Iv<|if c then 1 else 0])/\Bq w w':=by
 have B0:=Bx.new w #[Sv ⟨#[]⟩,Iv 0] 119;obtain⟨c0,f0,z0⟩:=B0
 cases c
 .go_enter func62,ntmps62
  go_wp2
  exact bodyPost_ret (v:=Av #[Sv<|Ms.kS .b,Iv 0]) (by simp[results,Tryz.results62,go_sem,Ms.kS]) rfl ⟨rfl,bw _⟩
 .go_enter func62,ntmps62
  go_wp2
  exact bodyPost_ret (v:=Av #[Sv<|Ms.kS .b,Iv 1]) (by simp[results,Tryz.results62,go_sem,Ms.kS]) rfl ⟨rfl,bw _⟩
namespace Ms
def Ya(w:World)(P:Nat->Prop)(sa:Option Addr)(M:List (So×Nat)):Prop:=M=[]\/∃g,sa=some ⟨g,0,none⟩/\P g/\g<w.heap.size/\∀i(h:i<M.length),w.cell? ⟨g,i*2,none⟩=some (.string<|kS M[i].1)/\w.cell? ⟨g,i*2+1,none⟩=some (Nv<|M[i].2)
def Ya.af{M:List (So×Nat)}(h:Ya w P sa M)(k:Bq w w'):Ya w' P sa M:=by
 refine h.imp id ?_;rintro⟨g,e,hp,hg,hc⟩;refine⟨g,e,hp,jd hg k.size,λi hi=>⟨?_,?_⟩⟩
 .rw[ja (a:=⟨g,i*2,none⟩)<|k.block g hg];exact(hc i hi).1
 .rw[ja (a:=⟨g,i*2+1,none⟩)<|k.block g hg];exact(hc i hi).2
def ai8{t u:So}(h:kS t=kS u):t=u:=by
 have:=congrArg ByteArray.size h
 cases t<;>cases u<;>first|rfl|(cases this;done)|(have:=congrArg (λb:BA=>b.data.toList) h;cases this)
end Ms
section
variable {sc:Nat} {l:List (Ms.So×Nat)}
def UD{p:Prop}(h:p:=by
 go_wp2
 go_region
 go_wp2
 go_roundg(l.length-(j+1))
 case measure=>rw[uh bE];omega
 case rel=>exact uh step _ (jm _ _).drew):p:=h
def ac5(h:Ms.Ya w P sa l)(hl:l.length<=1000000000)(v:Ms.So×Nat):Cq 131 #[.slice sa l.length sc,.agg #[.string<|Ms.kS v.1,Nv v.2]] w λe w'=>∃k,e=.returned (Iv k)/\decide (0<=k)=decide (v∈l)/\Bq w w':=by
 have⟨hb,B⟩:=Hu w #[Sv<|Ms.kS v.1,Nv v.2] 119;obtain⟨W,hW⟩:∃W,W=w.alloc (Cv #[Sv<|Ms.kS v.1,Nv v.2] 119):=⟨_,rfl⟩;rw[<-hW]at hb B;have h':=h.af hb;go_enter func131,ntmps131;go_wp2_with fail;rw[<-hW];go_loopg[8] l.length (λgk c wr=>∃j:Nat,Hid (gk=l.length-j)/\j<=l.length/\c=Nv j/\Bq W wr/\Hid (∀i(hi:i<l.length),i<j->l[i]≠v))
 case atStart=>exact⟨0,ai ah,jh _,rfl,jm _ _,ai<|λi _ hi=>absurd hi ae⟩
 case round=>
  obtain⟨j,bE,hj,rfl,K,qB⟩:=hrel;by_cases aI:j<l.length
  .have hd:(j:Int)<(l.length:Int):=ae;obtain⟨g,rfl,_,mn,bX⟩:=(h'.af K).resolve_left<|λe=>qBs;have⟨c1,c2⟩:=bX j aI;have⟨b1,b2,b3⟩:=B.below K;by_cases HV:v=l[j]
   .generalize hx:l[j]=x at*;subst HV
    go_wp2
    go_region
    go_wp2
    go_ret;refine⟨j,rfl,?_,hb.trans<|(K.drew).mono hb.size⟩;have:v∈l:=by rw[<-hx];exact jl aI
    simp[this]
   .have more:¬((v.2:Int)=(l[j].2:Int))\/¬(Ms.kS v.1).toList=(Ms.kS l[j].1).toList:=by
     by_cases q:v.2=l[j].2
     .exact .inr λe=>HV (Prod.ext (Ms.ai8<|iD (by rw[e];simp)) q)
     .exact .inl λe=>q ae
    have step:∀W',Bq wr W'->∃j':Nat,Hid (l.length-(j+1)=l.length-j')/\j'<=l.length/\Iv ((j:Int)+1)=Nv j'/\Bq W W'/\Hid (∀i(hi:i<l.length),i<j'->l[i]≠v):=λW' k=>by
     refine⟨j+1,ai rfl,ae,d_,K.trans<|k.mono K.size,ai λi hi hij=>?_⟩;by_cases e:i=j
     .subst e;exact Ne.symm HV
     .exact qB i hi ae
    have step:=ai step;generalize hx:l[j]=x at*;by_cases hk:(Ms.kS v.1).toList=(Ms.kS x.1).toList
    .have cJ:=more.resolve_right λq=>q hk;exact UD
    .clear more;exact UD
  .have hd:decide ((j:Int)<(l.length:Int))=false:=bi;have ej:j=l.length:=ae;subst ej
   go_wp2
   go_ret;refine⟨-1,rfl,?_,hb.trans<|K.mono hb.size⟩;have:v∉l:=λq=>by
    have⟨i,hi,e⟩:=jk q;exact qB i hi hi e
   simp[this]
def wN(h:Ms.Ya w P sa l)(hl:l.length<=1000000000)(v:Ms.So×Nat):Cq 100 #[.slice sa l.length sc,.agg #[.string<|Ms.kS v.1,Nv v.2]] w λe w'=>e=.returned (.bool<|decide (v∈l))/\Bq w w':=by
 obtain⟨W,hW⟩:∃W,W=w.alloc (Cv #[Sv<|Ms.kS v.1,Nv v.2] 119):=⟨_,rfl⟩;have hb:Bq w W:=by rw[hW];exact bw _
 have B:Bx W w.heap.size #[Sv<|Ms.kS v.1,Nv v.2]:=by rw[hW];exact Bx.new _ _ _
 have HC:=ac5 (sc:=sc) (h.af hb) hl v;obtain⟨b1,b2,b3⟩:=B;go_enter func100,ntmps100;subst hW;go_wp2_with fail;refine HC.mono ?_;rintro e w1⟨k,rfl,HK,cU⟩
 go_wp2
 go_ret;refine⟨?_,hb.trans<|cU.mono hb.size⟩;rw[<-HK];rfl
end
def TG(a:Int):Cq 79 #[Iv a] w λe w'=>e=.returned (.bool false)/\w'=w:=by
 go_enter func79,ntmps79
 go_wp2
 go_ret;exact⟨ah,rfl⟩
def Xc(a b:Int):Cq 42 #[Iv a,Iv b] w λe w'=>∃k,e=.returned (Iv k)/\w'=w:=by
 have h1:decide (a<b)=true\/(decide (a<b)=false/\(decide (b<a)=true\/decide (b<a)=false)):=by
  by_cases h:a<b
  .exact .inl xB
  .exact .inr ⟨xB,by by_cases h:b<a;exact .inl xB;exact .inr xB⟩
 go_enter func42,ntmps42;go_wp2_with fail;refine(TG a).mono ?_;rintro e w1⟨rfl,rfl⟩;go_wp2_with fail;refine(TG b).mono ?_;rintro e w1⟨rfl,rfl⟩;obtain h|⟨h,h2|h2⟩:=h1
 .go_wp2
  go_ret;exact⟨_,rfl,rfl⟩
 .go_wp2
  go_ret;exact⟨_,rfl,rfl⟩
 .go_wp2
  go_ret;exact⟨_,rfl,rfl⟩
def anp{a b:Int}(h0:w.cell? ⟨g,0,none⟩=some (Iv a))(h1:w.cell? ⟨g,1,none⟩=some (Iv b)):Cq 41 #[.slice (some ⟨g,0,none⟩) 2 2] w λe w'=>∃k,e=.returned (Iv k)/\w'=w:=by
 go_enter func41,ntmps41
 go_wp2
 go_loopg[8] 2 (λgk c wr=>∃j:Nat,Hid (gk=2-j)/\j<=2/\c=Nv j/\wr=w)
 case atStart=>exact⟨0,ai rfl,jh _,rfl,rfl⟩
 case round=>
  obtain⟨j,bE,hj,rfl,rfl⟩:=hrel;by_cases aI:j<2
  .have hd:(j:Int)<2:=ae;obtain⟨x,hx⟩:∃x:Int,wr.cell? ⟨g,j,none⟩=some (Iv x):=by
    obtain rfl|rfl:j=0\/j=1:=ae
    .exact⟨a,h0⟩
    .exact⟨b,h1⟩
   clear h0 h1;by_cases hz:x=0
   .subst hz
    go_wp2
    go_roundg(2-(j+1))
    case measure=>rw[uh bE];omega
    case rel=>exact⟨j+1,ai rfl,ae,d_,rfl⟩
   .have IA:(x==0)=false:=by simpa using hz
    go_wp2
    go_ret;exact⟨_,rfl,rfl⟩
  .have hd:decide ((j:Int)<2)=false:=bi
   go_wp2
   go_ret;exact⟨_,rfl,rfl⟩
def aaw(k f t:Int)(s:BA):Cq 36 #[Iv k,.agg #[Iv f,Iv t],.string s] w λe w'=>e=.returned (.agg #[Iv k,Iv f,Iv t,.string s])/\Bq w w':=by
 have B:=Bx.new w #[Iv f,Iv t] 69;have⟨b1,b2,b3⟩:=B.alloc<|Cv #[Iv 0,Iv 0,Iv 0,Sv ⟨#[]⟩] 45;go_enter func36,ntmps36
 go_wp2
 exact bodyPost_ret (v:=Av #[Iv k,Iv f,Iv t,Sv s]) (by simp[results,Tryz.results36,go_sem]) rfl ⟨rfl,(bw _).alloc ah _⟩
def Xd(k f t k' f' t':Int)(s s':BA):Cq 22 #[.agg #[Iv k,Iv f,Iv t,.string s],.agg #[Iv k',Iv f',Iv t',.string s']] w λe w'=>∃r,e=.returned (Iv r)/\Bq w w':=by
 have⟨b1,b2,b3⟩:=(Bx.new w #[Iv k,Iv f,Iv t,Sv s] 45).alloc<|Cv #[Iv k',Iv f',Iv t',Sv s'] 45;have hb:Bq w ((w.alloc<|Cv #[Iv k,Iv f,Iv t,Sv s] 45).alloc<|Cv #[Iv k',Iv f',Iv t',Sv s'] 45):=(bw _).alloc ah _;obtain⟨W,hW⟩:∃W,W=(w.alloc<|Cv #[Iv k,Iv f,Iv t,Sv s] 45).alloc (Cv #[Iv k',Iv f',Iv t',Sv s'] 45):=⟨_,rfl⟩;obtain⟨c1,c2,c3⟩:Bx W (w.heap.size+1) #[Iv k',Iv f',Iv t',Sv s']:=by rw[hW];have:=Bx.new (w.alloc<|Cv #[Iv k,Iv f,Iv t,Sv s] 45) #[Iv k',Iv f',Iv t',Sv s'] 45;simpa using this
 rw[<-hW]at b1 b2 b3 hb;go_enter func22,ntmps22
 go_upto_region 1 with fail
 rw[<-hW];clear hW;have x1:W.cell? ⟨w.heap.size,1,none⟩=some (Iv f):=b1 1;have x2:W.cell? ⟨w.heap.size,2,none⟩=some (Iv t):=b1 2;have x3:W.cell? ⟨w.heap.size+1,1,none⟩=some (Iv f'):=c1 1;have x4:W.cell? ⟨w.heap.size+1,2,none⟩=some (Iv t'):=c1 2;have HB:=ai hb;clear b1 b2 c1 c2 hb
 go_region_held3(λw'=>w'.cell? ⟨w.heap.size,1,none⟩=some (Iv f)/\w'.cell? ⟨w.heap.size,2,none⟩=some (Iv t)/\w'.cell? ⟨w.heap.size+1,1,none⟩=some (Iv f')/\w'.cell? ⟨w.heap.size+1,2,none⟩=some (Iv t')) (first|go_keep|(simp[*];done)) (first
  |(go_at_call 42;refine(Xc _ _).mono ?_;rintro e w1⟨r1,rfl,rfl⟩)
  |(go_at_call 41;refine(anp ((Bx.new W #[_,_] _).drew.c 0)<|(Bx.new W #[_,_] _).drew.c 1).mono ?_;rintro e w1⟨r2,rfl,rfl⟩))
 all_goals(
  go_wp2
  go_ret
  exact⟨_,rfl,((uh HB).alloc (uh HB).size _).drew⟩)
def V9{c:Int}(h:w.cell? ⟨b,0,none⟩=some (Iv c))(n:Int):Cq 97 #[Iv n,Pv b] w λe w'=>e=.returned (Iv c)/\w'=w:=by
 go_enter func97,ntmps97
 go_wp2
 go_ret;exact⟨rfl,rfl⟩
def IP(n:Nat)(v:Value):Cq 56 #[Nv n,v] w λe w'=>e=.returned (.iface 201<|.agg #[Iv 0,Iv 0,.bool<|(n:Int)==1])/\w'=w:=by
 go_enter func56,ntmps56
 go_wp2
 go_ret;exact⟨rfl,rfl⟩
def B7(n:Int)(v:Value):Cq 58 #[Iv n,v] w λe w'=>e=.returned (.iface 206<|.agg #[Iv 0,Iv 0,Iv n])/\w'=w:=by
 go_enter func58,ntmps58
 go_wp2
 go_ret;exact⟨rfl,rfl⟩
def IQ{n:Int}{tx ty:TypeId}{x y:Value}(h0:w.cell? ⟨g,0,none⟩=some (.iface tx x))(h1:w.cell? ⟨g,1,none⟩=some (.iface ty y)):Cq 59 #[Iv n,.slice (some ⟨g,0,none⟩) 2 vc] w λe w'=>e=.returned (.iface 208<|.agg #[Iv 0,Iv 0,.iface tx x,.iface ty y])/\Bq w w':=by
 go_enter func59,ntmps59
 go_wp2
 go_quiet(fail)
 go_wp2
 go_ret;exact⟨rfl,(jm _ _).drewN _⟩
namespace Ms
structure Wn where
 k:Int
 f:Int
 t:Int
 s:BA
structure UC(w:World)(g n:Nat)(c:Nat->Value):Prop where
 z:g<w.heap.size
 f:∀o,w.frozen? ⟨g,o,none⟩=false
 c:∀o,o<n->w.cell? ⟨g,o,none⟩=some (c o)
def UC.set{c:Nat->Value}(h:UC w g n c)(ho:o<n)(v:Value):UC (w.setCell ⟨g,o,none⟩ v) g n λp=>if p=o then v else c p:=by
 refine⟨by simpa[jc]using h.z,λp=>by rw[World.frozen?_setCell];exact h.f p,λp hp=>?_⟩;by_cases e:p=o
 .subst e;rw[World.cell?_setCell_same _ _ _<|h.c p ho,if_pos rfl]
 .rw[World.cell?_setCell_other _ _ _ _ (by intro q;injection q with _ q;exact e q.symm),if_neg e];exact h.c p hp
def Wn.at(x:Wn)(j:Nat):Value:=if j=0 then Iv x.k else if j=1 then Iv x.f else if j=2 then Iv x.t else .string x.s
def cW(L:Nat->Wn)(o:Nat):Value:=(L<|o/4).at<|o%4
abbrev iU(w:World)(g i:Nat)(x:Wn):World:=(((w.setCell ⟨g,i*4,none⟩<|Iv x.k).setCell ⟨g,i*4+1,none⟩<|Iv x.f).setCell ⟨g,i*4+2,none⟩<|Iv x.t).setCell ⟨g,i*4+3,none⟩<|.string x.s
def UC.four{L:Nat->Wn}(h:UC w g (n*4) (cW L))(hi:i<n)(x:Wn):UC (iU w g i x) g (n*4) (cW λp=>if p=i then x else L p):=by
 have h':=(((h.set (o:=i*4) ae<|Iv x.k).set (o:=i*4+1) ae<|Iv x.f).set (o:=i*4+2) ae<|Iv x.t).set (o:=i*4+3) ae<|Sv x.s;refine⟨h'.z,h'.f,λo ho=>(h'.c o ho).trans<|congrArg some ?_⟩;have e:o=o/4*4+o%4:=ae;have hj:o%4=0\/o%4=1\/o%4=2\/o%4=3:=ae;simp only[cW,Wn.at];by_cases q:o/4=i
 .obtain j|j|j|j:=hj
  .rw[if_neg ae,if_neg ae,if_neg ae,if_pos ae];simp[j,q]
  .rw[if_neg ae,if_neg ae,if_pos ae];simp[j,q]
  .rw[if_neg ae,if_pos ae];simp[j,q]
  .rw[if_pos ae];simp[j,q]
 .rw[if_neg ae,if_neg ae,if_neg ae,if_neg ae,if_neg q]
end Ms
namespace Ms
def Wn.no:Wn:=⟨0,0,0,⟨#[]⟩⟩
abbrev WnL(w:World)(g:Nat)(xs:List Wn):Prop:=UC w g (xs.length*4)<|cW λi=>xs.getD i Wn.no
section
variable {c:Nat->Value} {xs:List Wn}
def UC.same(h:UC w g n c)(hs:w.heap.size<=w'.heap.size)(hb:w'.heap[g]? =w.heap[g]?):UC w' g n c:=
 ⟨jd h.z hs,λo=>by rw[World.frozen?_of_block (a:=⟨g,o,none⟩) (w:=w) hb];exact h.f o,λo ho=>by rw[ja (a:=⟨g,o,none⟩) (w:=w) hb];exact h.c o ho⟩
def UC.low(h:UC w g n c)(k:Bq w w'):UC w' g n c:=h.same k.size<|k.block g h.z
def WnL.at(h:WnL w g xs){i:Nat}(hi:i<xs.length):w.cell? ⟨g,i*4,none⟩=some (Iv xs[i].k)/\w.cell? ⟨g,i*4+1,none⟩=some (Iv xs[i].f)/\w.cell? ⟨g,i*4+2,none⟩=some (Iv xs[i].t)/\w.cell? ⟨g,i*4+3,none⟩=some (.string xs[i].s):=by
 have e:xs.getD i Wn.no=xs[i]:=by simp[ji,hi]
 have q:∀j,j<4->w.cell? ⟨g,i*4+j,none⟩=some (xs[i].at j):=λj hj=>by
  rw[h.c _ ae,cW,show(i*4+j)/4=i by omega,show(i*4+j)%4=j by omega,e]
 exact⟨q 0 ae,q 1 ae,q 2 ae,q 3 ae⟩
def WnL.swap(h:WnL w g xs){j:Nat}(hi:i<xs.length)(hj:j<xs.length):WnL (iU (iU w g i xs[j]) g j xs[i]) g ((xs.set i xs[j]).set j xs[i]):=by
 have q:=(h.four hi xs[j]).four hj xs[i];refine⟨q.z,q.f,λo ho=>?_⟩;simp only[List.length_set]at ho;rw[q.c o ho];simp only[cW];congr 2;generalize o/4=p;simp only[ji,List.getElem?_set];by_cases e:p=j
 .subst e;simp[hj]
 .by_cases e':p=i
  .subst e';simp[e,hi,Ne.symm e]
  .simp[e,e',Ne.symm e,Ne.symm e']
def fr4(h:Fr S w w')(hg:S g)(i:Nat)(x:Wn):Fr S w (iU w' g i x):=(((h.set (.inl hg) _ _).set (.inl hg) _ _).set (.inl hg) _ _).set (.inl hg) _ _
end
end Ms
section
variable {xs:List Ms.Wn}
abbrev Ah:Value:=.func (.func 22) #[] #[]
def JU(h:Ms.WnL w g xs)(hn:xs.length<=12):Cq 69 #[.slice (some ⟨g,0,none⟩) xs.length vc,Iv 0,Nv xs.length,Ah] w λe w'=>e=.returned (.tuple #[])/\∃ys,ys.Perm xs/\Ms.WnL w' g ys/\Fr (·=g) w w':=by
 obtain⟨N,hN⟩:∃N,N=xs.length:=⟨_,rfl⟩;rw[<-hN];have HN:=ai hN;have aon:N<=12:=ae;clear hN;go_enter func69,ntmps69
 go_wp2
 go_loopg[8] 13 (λgk c wr=>∃(i:Nat)(ys:List Ms.Wn),Hid (gk=14-i)/\i<=12/\0<i/\c=Nv i/\Hid (ys.Perm xs)/\Ms.WnL wr g ys/\Fr (·=g) w wr)
 case atStart=>exact⟨1,xs,ai rfl,ae,ae,rfl,ai<|List.Perm.refl _,h,Fr.refl _ _⟩
 case round=>
  obtain⟨i,ys,bE,hi,m6,rfl,hp,H,HF⟩:=hrel;have hl:=ai<|(uh hp).length_eq.trans (uh HN).symm;by_cases XX:i<N
  .have hd:(i:Int)<(N:Int):=ae
   go_wp2
   go_loopg[9] i (λgk c wr'=>∃(j:Nat)(zs:List Ms.Wn),Hid (gk=j)/\j<=i/\c=Nv j/\Hid (zs.Perm xs)/\Ms.WnL wr' g zs/\Fr (·=g) w wr')
   case atStart=>exact⟨i,ys,ai rfl,br _,rfl,hp,H,HF⟩
   case round=>
    clear H HF hp hl;obtain⟨j,zs,hgj,hji,rfl,hp,H,HF⟩:=hrel;have hl:=ai<|(uh hp).length_eq.trans (uh HN).symm;by_cases hj0:0<j
    .obtain⟨jp,rfl⟩:∃k,j=k+1:=⟨j-1,ae⟩;have aZ:jp+1<zs.length:=by rw[uh hl];omega
     have hlp:jp<zs.length:=ae;have XP:decide ((0:Int)<(jp:Int)+1)=true:=by simp<;>omega
     have hw:IntKind.i64.wrap (jp:Int)=(jp:Int):=by rw[IntKind.wrap_i64];omega
     have g1:(0:Int)<=(jp:Int)+1:=ae;have g2:(jp:Int)+1<(N:Int):=ae;have g3:(0:Int)<=(jp:Int):=ae;have g4:(jp:Int)<(N:Int):=ae;have a:=H.at aZ;have b:=H.at hlp;have HH:=ai H;have zg:=H.z;have HW:=λw'(k:Bq wr w')=>Ms.WnL.swap (H.low k) aZ hlp;have HP:=ai<|List.set_set_perm aZ hlp;generalize zs[jp+1]=x at*;generalize zs[jp]=y at*;have HW':=ai HW;clear HW;obtain⟨a1,a2,a3,a4⟩:=a;obtain⟨b1,b2,b3,b4⟩:=b;clear H
     go_wp2
     go_region_held3(λw'=>w'.cell? ⟨g,(jp+1)*4,none⟩=some (Iv x.k)/\w'.cell? ⟨g,(jp+1)*4+1,none⟩=some (Iv x.f)/\w'.cell? ⟨g,(jp+1)*4+2,none⟩=some (Iv x.t)/\w'.cell? ⟨g,(jp+1)*4+3,none⟩=some (Sv x.s)/\w'.cell? ⟨g,jp*4,none⟩=some (Iv y.k)/\w'.cell? ⟨g,jp*4+1,none⟩=some (Iv y.f)/\w'.cell? ⟨g,jp*4+2,none⟩=some (Iv y.t)/\w'.cell? ⟨g,jp*4+3,none⟩=some (Sv y.s)) (first|exact⟨(cc _).trans a1,(cc _).trans a2,(cc _).trans a3,(cc _).trans a4,(cc _).trans b1,(cc _).trans b2,(cc _).trans b3,(cc _).trans b4⟩|go_keep) (first|(go_at_call 22;refine(Xd _ _ _ _ _ _ _ _).mono ?_;rintro e w1⟨r,rfl,K⟩;have k1:Bq wr w1:=((jm _ _).drew.trans K);have cc:∀o,w1.cell? ⟨g,o,none⟩=wr.cell? ⟨g,o,none⟩:=λo=>ja (a:=⟨g,o,none⟩) (w:=wr)<|k1.block g zg));clear a1 a2 a3 a4 b1 b2 b3 b4;obtain⟨a1,a2,a3,a4,b1,b2,b3,b4⟩:=‹_/\_›;have ff:=(HH.low k1).f;have K1:=ai k1;have xW:=ai<|HF.trans<|Fr.of k1;clear K k1 cc;by_cases hr:decide (r<0)=true
     .rw[hr]
      go_wp2
      go_region
      go_wp2
      go_roundg jp
      case measure=>rw[uh hgj];omega
      case rel=>exact⟨jp,_,ai rfl,ae,d_,ai<|(uh HP).trans<|uh hp,(uh HW' _<|uh K1).low (jm _ _).drew,(Ms.fr4 (Ms.fr4 (uh xW) rfl (jp+1) y) rfl jp x).drew⟩
     .rw[Bool.not_eq_true]at hr;rw[hr]
      go_wp2
      go_roundg(14-(i+1))
      case measure=>rw[uh bE];omega
      case rel=>exact⟨i+1,zs,ai rfl,ae,ae,d_,hp,HH.low<|uh K1,uh xW⟩
    .have XP:decide ((0:Int)<(j:Int))=false:=bi
     go_wp2
     go_quiet(fail)
     go_wp2
     go_roundg(14-(i+1))
     case measure=>rw[uh bE];omega
     case rel=>exact⟨i+1,zs,ai rfl,ae,ae,d_,hp,H.low<|(jm _ _).drewN _,HF.drewN _⟩
  .have hd:decide ((i:Int)<(N:Int))=false:=bi
   go_wp2
   go_end0;exact⟨rfl,ys,uh hp,H,HF⟩
end
end Go.Proofs.YtopmodaakdnliaaGreatDoor

import Derived.Deep.CutRange
import Derived.LaidMore
import Derived.Laws.EntriesVeiled
import Derived.Shelf.Strconv.Itoa3
import Derived.Test.YtonaidfgokhmoaaGreatDoorTie
import Derived.Test.YtonaidfgokhmoaaGreatDoorYPure
import Derived.Test.YtonaidfgokhmoaaGreatDoorYLd0
set_option linter.all false
set_option maxRecDepth 100000
set_option maxHeartbeats 2000000
namespace Go.Proofs.YtonaidfgokhmoaaGreatDoor
open Go renaming World->aa,Value->ca
open _root_.Option renaming some->ea,none->fa
open _root_.Bool renaming true->ga,false->ia
open Or renaming inl->ja,inr->jc
open Pu renaming Tok->jd,a_->jf,bP->jh,dw->ji,AU->jj,at_->jk,gH->jl,gL->jm
open _root_.List renaming getD_eq_getElem?_getD->jo,mem_cons->jp,map_nil->jq,getElem?_eq_getElem->jt,getElem?_eq_none->ju,mem_cons_of_mem->jv,map_congr_left->jx,getElem_mem->jy,map_cons->jz
open Un renaming sub->j3,written->j5
open Go.Proofs.Tryz renaming prog->j6,underlying9->j7
open _root_.Nat renaming le_trans->j8,lt_of_lt_of_le->j9,strongRecOn->qe
open Go.ByteArray renaming toList_eq->qf
open Go Proofs.Tryz
variable {C:Array ca} {s:BA} {ns:List BA} {L L':List Nd} {T:List jd} {m:List UInt8} {e expr part LO sm small F_:M Nd} {A N base cap f f' g i k k' kb len n nb pb rb v xb:Nat} {r:Nat->Int} {rk ρ bI:Nat->Nat} {K:Nat->Option Un.Ty} {D P Q S Λ cE:Nat->Prop} {R θ σ:Nat->Un.Ty} {e':Nd} {p:Option Addr} {pl:Prop} {α β:Type} {x:UInt8} {a a' b b' t t':Un.Ty} {hv iv nv:ca} {W c w w':aa}
section
open Go.RowKit Un
def dg n:=UInt8.ofNat<|48+n%10
def dec(n:Nat):List UInt8:=if n<10 then[dg n]else dec (n/10)++[dg n]
termination_by n
decreasing_by omega
def bs(l:List UInt8):BA:=⟨l.toArray⟩
def gq l:(bs l).size=l.length:=by simp[bs,ByteArray.size]
def ae1 a b:bs a++bs b=bs (a++b):=by
 apply ByteArray.ext;simp[bs]
def EB n:(dec n).length<=n+1:=by
 induction n using qe with
 |_ n ih=>
  rw[dec];split
  .simp
  .grind
def P10(w:aa):Prop:=Lib.TabIs Tryz.prog w "internal/strconv.uint64pow10" .u64 Lib.pow10Tab
def gPows:Tryz.prog.globalNamed "internal/strconv.uint64pow10" =ea 2:=qkr
def P10.z(h:P10 w):2<w.heap.size:=World.block_lt_of_cell? _ _<|Lib.TabIs.cell h gPows 0 aD
def P10.block(h:P10 w)(d:w'.heap[2]? =w.heap[2]?):P10 w':=by
 unfold P10 Lib.TabIs World.var? at h⊢;rw[gPows]at h⊢;simp only[Option.bind_some]at h⊢;rw[d];exact h
def P10.af(h:P10 w)(d:Bq w w'):P10 w':=h.block<|d.block _ h.z
def aiL:Shelf.Ren:=⟨fun|171=>75|243=>134|246=>162|283=>175|284=>176|285=>177|286=>178|129=>190|317=>189|318=>191|319=>192|320=>193|337=>197|338=>198|n=>n,fun|171=>291|53=>292|37=>78|173=>295|212=>309|51=>310|213=>311|46=>313|232=>327|233=>328|n=>n,fun|17=>2|18=>5|19=>6|n=>n⟩
def ahA:LaysM.n171 j6 aiL:=by repeat' (first|kernel_rfl|(intro _;kernel_rfl)|constructor)
def Rw(n:Nat):Lib.decDigits n=dec n:=by
 induction n using qe with
 |ind n ih=>
  rw[Lib.decDigits,dec];by_cases h:n<10
  .rw[dif_pos h,if_pos h,dg,Nat.mod_eq_of_lt h]
  .rw[dif_neg h,if_neg h,ih _ ae,dg]
def Ym n(h:n<96):Calls j6 75 #[Nv n] w λe w'=>e=.returned (.string<|bs<|dec n)/\w'=w:=by
 have:=Any.strconv_Itoa_small {ahA with} n ae w;rw[Rw]at this;exact this
def adA(w:aa)(n:Nat)(hn:n<1000000000)(h:P10 w):Calls j6 75 #[Nv n] w λe w'=>e=.returned (.string<|bs<|dec n)/\Bq w w':=by
 refine(Any.strconv_Itoa ahA (n:Int) ae ae w h).mono ?_;rintro e w'⟨rfl,k,d,rfl⟩;refine⟨by rw[Lib.itoa,if_neg ae,Int.toNat_natCast,Rw];rfl,?_⟩;exact⟨rfl,rfl,rfl,by show _<=(w.heap++d).size;simp,λb hb=>by show(w.heap++d)[b]? =_;rw[Array.getElem?_append_left hb]⟩
end
section
open Go.ChangeShapes Go.WideShapes Go.ChangeAt Go.WideMaps Go.WideElems Go.RowKit
def own:ownKnob Tryz.prog.godebug=fa:=qkr
def laidOut:laidOutB j6=ga:=qkr
def gWords:Tryz.prog.globalNamed "assay/reader.words" =ea 1:=qkr
def gSigns:Tryz.prog.globalNamed "assay/reader.signs" =ea 0:=qkr
def afC:(Tryz.prog.globals[1]?).map (·.type)=ea 272:=qkr
def afD:(Tryz.prog.globals[0]?).map (·.type)=ea 272:=qkr
def Fb:List (String×DataW Unit):=Rows.retypedRow.laid
def Zs os args:laidMetH j6 Fb ((World.doorLaid j6 72 os).forCall (λ_ _=>0) ⟨#[],args,[]⟩).memory:=
 laidMetH_of_parts3 (fuel:=8) (laidMet_of_run' 8 qkr qkr) qkr qkr
def aco(h:laidMetH j6 Fb W):Laid W:=by
 rw[MakeChecks.laidMetH_plain _ _ _ qkr]at h;obtain⟨ps,⟨g0,t0,cs0,f0,p0,q0,hg0,ht0,hv0,hd0,⟨g1,t1,cs1,f1,p1,q1,hg1,ht1,hv1,hd1,⟨g2,t2,cs2,f2,p2,q2,hg2,ht2,hv2,hd2,⟨g3,t3,cs3,f3,p3,q3,hg3,ht3,hv3,hd3,⟨g4,t4,cs4,f4,p4,q4,hg4,ht4,hv4,hd4,⟨g5,t5,cs5,f5,p5,q5,d,o,u,y,⟨g6,t6,cs6,f6,p6,q6,l,z,B,E,_,_⟩,_⟩,_⟩,_⟩,_⟩,_⟩,_⟩,_,_⟩:=h;obtain rfl:=Option.some.inj<|gWords.symm.trans d;obtain rfl:=Option.some.inj<|gSigns.symm.trans l;obtain rfl:=Option.some.inj<|afC.symm.trans o;obtain rfl:=Option.some.inj<|afD.symm.trans z;have G:=yG Pu.words Tryz.underlying272 j7 strCells y;have I:=yG signs Tryz.underlying272 j7 strCells E;have F:∀j,j<13->W.cell? ⟨1,j,fa⟩=ea (Sv<|Pu.kC j):=λj hj=>by
  rw[World.var?_cell d u j];have:=G j hj;rw[Array.getElem?_toList]at this;exact this
 have J:∀j,j<13->W.cell? ⟨0,j,fa⟩=ea (Sv<|dd j):=λj hj=>by
  rw[World.var?_cell l B j];have:=I j hj;rw[Array.getElem?_toList]at this;exact this
 exact⟨F,J,World.block_lt_of_cell? _ _<|F 0 ae⟩
def ahB:(Tryz.prog.globals[2]?).map (·.type)=ea 309:=qkr
def Uy(h:laidMetH j6 Fb W):P10 W:=by
 rw[MakeChecks.laidMetH_plain _ _ _ qkr]at h;obtain⟨ps,⟨g0,t0,cs0,f0,p0,q0,hg0,ht0,hv0,hd0,⟨g1,t1,cs1,f1,p1,q1,hg1,ht1,hv1,hd1,⟨g2,t2,cs2,f2,u,q2,d,j,l,o,_,_⟩,_⟩,_⟩,_,_⟩:=h;obtain rfl:=Option.some.inj (ahB.symm.trans<|by rw[<-j,Option.some.inj<|gPows.symm.trans d]);rw[P10,Lib.TabIs];rw[l,<-Lib.cells_of_tab Tryz.underlying309 Tryz.underlying292 qkr qkr (show DataW.trod _ _ _ _ _ _ _ _ _=ea (Lib.tabData .u64 Lib.pow10Tab,u)from o)]
end
section
open Go.RowKit Un
structure TV where
 n:Int
 s:BA
 la:Option Addr
 ll:Nat
 lc:Nat
def TV.l(x:TV):List ca:=[Iv x.n,.string x.s,.slice x.la x.ll x.lc]
def at3(w:aa)g i(x:TV):=∀j,j<3->w.cell? ⟨g,i*3+j,fa⟩=(x.l)[j]?
def wQ(s:BA):=∃x r,s.toList=x::r/\jj x.toNat=ga/\(∀y∈r,jf y.toNat=ga)
def VS c n:=c.size<=1000/\(c=rG\/c=pq->n=2)/\(c=rG\/c=pq\/wQ c)
def V7(rk:Nat->Nat):Ty->Nat
 |.var n=>rk n+1|.aM _ _=>0
def _root_.Go.RowKit.Below.drewN{B}{a}(h:Below B a w)n:Below B a (w.drewN n):=⟨h.os,h.tape,h.output,h.size,h.block⟩
def Bx.drewN{w}{b}{C}(h:Bx w b C)n:Bx (w.drewN n) b C:=h.below<|(Below.refl _ _).drewN n
def Zt c n(h0: -9223372036854775808<=c)(h1:c<=9223372036854775807)(d:0<n)(hn2:n<=1000):Calls j6 19 #[Iv c,Iv n] w λe w'=>∃r:Int,e=.returned (Iv r)/\0<=r/\r<n/\w'=w:=by
 by_cases hc:c<0
 .go_wp2
  go_ret;refine⟨_,rfl,?_,?_,rfl⟩
  .show 0<=-((c+1).tmod n);rw[<-Int.neg_tmod];exact Int.tmod_nonneg _ ae
  .show-((c+1).tmod n)<n;rw[<-Int.neg_tmod];exact Int.tmod_lt_of_pos _ d
 .have hc':decide (c<0)=ia:=bQ;go_wp2
  go_ret;exact⟨_,rfl,Int.emod_nonneg _ ae,Int.emod_lt_of_pos _ d,rfl⟩
structure Src w xb p len cap(r:Nat->Int)(A:Nat):Prop where
 b:Bx w xb #[.slice p len cap,.int .i64 (A:Int)]
 a:A<=len
 l:(len:Int)<=9223372036854775807
 c:∀i,i<len->∃g o,p=ea ⟨g,o,fa⟩/\g<w.heap.size/\g≠xb/\w.cell? ⟨g,o+i,fa⟩=ea (.int .i64<|r i)
 r:∀i,i<len->-9223372036854775808<=r i/\r i<=9223372036854775807
def Src.ke{w}{j:Nat}(h:Src w xb p len cap r A)(y:Ke xb w w')(z:Bx w' xb #[.slice p len cap,.int .i64 (j:Int)])(B:j<=len):Src w' xb p len cap r j:=by
 refine⟨z,B,h.l,λi hi=>?_,h.r⟩;have⟨g,o,e,u,d,hc⟩:=h.c i hi;exact⟨g,o,e,j9 u y.size,d,(World.cell?_of_block (a:=⟨g,o+i,fa⟩) (w:=w)<|y.block g u d).trans hc⟩
def Src.af{w}(h:Src w xb p len cap r A)(d:Bq w w'):Src w' xb p len cap r A:=h.ke (Ke.of d) (h.b.below d) h.a
def yc xb p len cap r w w':=∃A,Src w' xb p len cap r A/\Ke xb w w'
def Fc(h:Src w xb p len cap r A)n(z:0<n)(y:n<=1000):Calls j6 13 #[Pv xb,Iv n] w λe w'=>∃q:Int,e=.returned (Iv q)/\0<=q/\q<n/\yc xb p len cap r w w':=by
 have⟨c0,f0,z0⟩:=h.b;have hl:=h.l;have ha:=h.a;by_cases j:A<len
 .have u:decide ((len:Int)<=(A:Int))=ia:=bQ;obtain⟨g,o,rfl,hg,hne,hc⟩:=h.c A j;have⟨B,E⟩:=h.r A j;have hA2:=kK j;go_wp2
  go_quiet(fail)
  go_wp2
  go_quiet(fail);go_wp2_with fail;refine(Zt (r A) n B E z y).mono ?_;rintro e w'⟨q,rfl,F,G,rfl⟩
  go_wp2
  go_ret;have I:((A+1:Nat):Int)=(A:Int)+1:=ae;have d:∀m,Ke xb w<|(w.drewN m).setCell ⟨xb,1,fa⟩<|Iv<|(A:Int)+1:=λm=>(Ke.of<|(Below.refl _ _).drewN m).set 1 _;exact⟨q,rfl,F,G,A+1,h.ke (d _) (by rw[I];exact(h.b.drewN _).qO 1 _ _ rfl ag) ae,d _⟩
 .have u:decide ((len:Int)<=(A:Int))=ga:=bQ;go_wp2
  go_quiet(fail)
  go_wp2
  go_ret;have d:∀m,Ke xb w<|w.drewN m:=λm=>Ke.of<|(Below.refl _ _).drewN m;exact⟨0,rfl,ae,z,A,h.ke (d _) (h.b.drewN _) h.a,d _⟩
def Raw(w:aa)(p:Option Addr)len(r:Nat->Int):=
 ∀i,i<len->(∃g o,p=ea ⟨g,o,fa⟩/\g<w.heap.size/\w.cell? ⟨g,o+i,fa⟩=ea (Iv<|r i))/\-9223372036854775808<=r i/\r i<=9223372036854775807
def Txt(w:aa)g n(f:Nat->BA):=∀j,j<n->w.cell? ⟨g,j,fa⟩=ea (.string<|f j)
def Zu(h:Src w xb p len cap r A){lc}{f}(B:Txt w g n f)(E:g<w.heap.size)(d:g≠xb)(hn:0<n)(hn2:n<=1000):
 Calls j6 20 #[Pv xb,.slice (ea ⟨g,0,fa⟩) n lc] w λe w'=>∃j,j<n/\e=.returned (.string<|f j)/\yc xb p len cap r w w':=by
 have u:=Fc h (n:Int) ae ae;go_in;go_wp;refine u.mono ?_;rintro e w'⟨q,rfl,q0,q1,y,z,l⟩;obtain⟨j,rfl⟩:∃j:Nat,q=j:=⟨q.toNat,ae⟩;have o:j<n:=ae;have c1:=(World.cell?_of_block (a:=⟨g,j,fa⟩) (w:=w)<|l.block g E d).trans<|B j o
 go_wp2
 go_ret;exact⟨j,o,rfl,y,z,l⟩
end
section
open Go.ChangeShapes Go.WideShapes Go.ChangeAt Go.WideMaps Go.WideElems Go.RowKit
def Am:Tryz.prog.underlying 22=ea (.slice 3):=qkr
def Zw{H:Type}{enc}{fuel}{x:DataW H×List MemPlace}(h:DataW.trod enc j6 w base (λ_=>ga) ga fuel 22 [.slice p len cap]=ea x):(len:Int)<=9223372036854775807/\∃r,Raw w p len r:=by
 obtain⟨e,_⟩|⟨a,ajw,aeN,l,e,_,hl,B,E,_,d,u⟩:=open_ints Am Tryz.underlying3 WA h
 .simp at e;obtain⟨rfl,rfl,rfl⟩:=e;exact⟨ag,λ_=>0,λi hi=>ae⟩
 .simp at e;obtain⟨rfl,rfl,rfl⟩:=e;simp only[if_true]at E;refine⟨by simp only[maxLen]at B;omega,λi=>l.getD i 0,λi hi=>?_⟩;have j:i<l.length:=ae;obtain⟨g,o,sp⟩:=a;have y:sp=fa:=by simpa[Addr.add]using World.cell?_spot (d 0 ae)
  subst y;have hc:=d i j;rw[add_plain]at hc;have z:=u (l.getD i 0) (by rw[jo,jt j];exact jy _);have F:IntKind.i64.min= -9223372036854775808:=rfl;have G:IntKind.i64.max=9223372036854775807:=rfl;simp only[Lit.wf,Bool.and_eq_true,decide_eq_true_eq,F,G]at z;exact⟨⟨g,o,rfl,World.block_lt_of_cell? _ _ hc,hc⟩,z.1,z.2⟩
end
section
open Go.RowKit Un
def parts:Ty->List Ty
 |.var _=>[]|.aM _ l=>l
def lT(v:Nat):∀(l:List Ty),bZ v l↔∃t,t∈l/\aA v t
 |[]=>by simp[bZ]|a::l=>by simp[bZ,lT v l]
def bS{L}:bZ v (aU R L)↔∃j,∃h:j<L.length,aA v<|sub R L[j]:=by
 rw[lT,iz];constructor
 .rintro⟨t,d,l⟩;obtain⟨u,o,rfl⟩:=List.mem_map.1 d;obtain⟨j,y,rfl⟩:=List.getElem_of_mem o;exact⟨j,y,l⟩
 .grind
open Classical in
def rQ{e}{size}{v}{xs}(h:w.ownsRow base e size v n xs)(y:∀g,v.ownBlock=ea g->w'.heap[g]? =w.heap[g]?):w'.ownsRow base e size v n xs:=by
 obtain⟨l,d⟩:=h;refine⟨l,?_⟩;obtain d|⟨g,cap,j,hv,o,u,r⟩:=d
 .exact ja d
 .exact jc ⟨g,cap,j,hv,o,by rw[y g (by rw[hv];rfl)];exact u,r⟩
structure Fr(S:Nat->Prop)(w w':aa):Prop where
 os:w'.os=w.os
 tape:w'.tape=w.tape
 output:w'.output=w.output
 size:w.heap.size<=w'.heap.size
 block:∀k,k<w.heap.size->¬S k->w'.heap[k]? =w.heap[k]?
def Fr.refl S w:Fr S w w:=⟨rfl,rfl,rfl,br _,λ_ _ _=>rfl⟩
def Fr.of(h:Bq w w'):Fr S w w':=⟨h.os,h.tape,h.output,h.size,λk hk _=>h.block k hk⟩
def Fr.trans{S}{a b c}(h:Fr S a b)(k:Fr S b c):Fr S a c:=
 ⟨k.os.trans h.os,k.tape.trans h.tape,k.output.trans h.output,j8 h.size k.size,λi hi hn=>(k.block i (j9 hi h.size) hn).trans<|h.block i hi hn⟩
def Fr.low{a b:aa}(h:Fr S a b)(k:Below a.heap.size b c):Fr S a c:=
 ⟨k.os.trans h.os,k.tape.trans h.tape,k.output.trans h.output,j8 h.size k.size,λi hi hn=>(k.block i hi).trans<|h.block i hi hn⟩
def Fr.set{a:aa}(h:Fr S a w){b:Nat}(d:S b\/a.heap.size<=b)j u:Fr S a (w.setCell ⟨b,j,fa⟩ u):=
 ⟨h.os,h.tape,h.output,by simpa[World.setCell]using h.size,λk hk hn=>by
  rw[Below.heap_setCell _ _ _ _ (by show k≠b;rintro rfl;obtain d|d:=d;exact hn d;omega)];exact h.block k hk hn⟩
def Fr.drewN{a:aa}(h:Fr S a w)n:Fr S a (w.drewN n):=⟨h.os,h.tape,h.output,h.size,h.block⟩
def Fr.drew{a:aa}(h:Fr S a w):Fr S a w.drew:=⟨h.os,h.tape,h.output,h.size,h.block⟩
def Bx.fr{b:Nat}(h:Bx w b C)(d:Fr S w w')(j:¬S b):Bx w' b C:=h.same d.size<|d.block b h.z j
def KB(hv iv:ca)b:=hv.ownBlock=ea b\/iv.ownBlock=ea b
def filter_lt{p q:Nat->Bool}:∀{l:List Nat}(_:∀i,q i=ga->p i=ga){m:Nat}(_:m∈l)(_:p m=ga)(_:q m=ia),(l.filter q).length<(l.filter p).length
 |[],_,_,h,_,_=>vB|x::l,hi,m,h,hp,hq=>by
   have hle:∀l:List Nat,(l.filter q).length<=(l.filter p).length:=by
    intro l
    induction l with
    |nil=>simp|cons y l ih=>
     simp only[List.filter_cons];split
     .rename_i hy;simp[hi y hy];exact ih
     .grind
   simp only[List.filter_cons];obtain rfl|h:=List.mem_cons.1 h
   .grind
   .have ih:=filter_lt (l:=l) hi h hp hq;split
    .rename_i hx;simp[hi x hx];exact ih
    .grind
def iI{P}{ops}{o}{a}{K}{Q}{E:Prop}(U:o.guard=fa)s x t(B:o.op=Op.call {callee:=Callee.builtin Builtin.append,args:=#[s,x],argTypes:=#[t,t]})base e i z size bytes(V:P.underlying t=ea (.slice e))(X:P.info? e=ea i)(Y:i.zero=ea z)(Z:i.size=size)(h5:i.bytes=bytes)(h6:z.cells.size=size)(h7:0<size)v n xs(hs:a.eval s=v)(y:w.ownsRow base e size v n xs)ad m c news(hx:a.eval x=.slice (ea ad) m c)(hn:news.length=m*size)(hc:∀j u,news[j]? =ea u->w.cell? (ad.add j)=ea u)(F:∀u∈news,u.oneCell'=ga)(b1:n+m<=maxLen)(b2:(n+m)*bytes<=140737488355328)(d:base<=w.heap.size)(hK:∀v' w',w'.ownsRow base e size v' (n+m) (xs++news)->w.grownBy w' v.ownBlock->(v'.ownBlock=v.ownBlock\/v'.ownBlock=ea w.heap.size)->K (a.put o.dst v') w'):
 if Region.wanted o (yielded ops a.tmps)=ga then Oper.wp P o a w K Q else E:=by
 have G:Region.wanted o (yielded ops a.tmps)=ga:=by simp[Region.wanted,U]
 rw[if_pos G];have⟨v',w',l,I,J,_,O⟩:=run_append_own_at (P:=P) w base t o.type e i z size bytes V X Y Z h5 h6 h7 v n xs y ad m c news hn hc F b1 b2 d;rw[Oper.wp];simp[execOp,B,resolve,invoke,builtin,hs,hx,l,Result.andThen];exact hK v' w' I J O
theorem toList_inj{a b:BA}(h:a.toList=b.toList):a=b:=by
 rw[qf,qf]at h;exact ByteArray.ext<|Array.ext' h
def Je(L:List α)j(h:j<L.length):L=L.take j++L[j]::L.drop (j+1):=by simp_all
section
variable {lv:ca}
def ix(s:BA):List BA->Nat
 |[]=>0|a::l=>if a.toList=s.toList then 0 else ix s l+1
end
def pO s ns:=if ix s ns<ns.length then ns else ns++[s]
theorem Ms{s:BA}:∀{ns:List BA},s∈ns->ix s ns<ns.length
 |[],h=>vB|a::ns,h=>by
   simp only[ix];split
   .simp
   .rename_i ne;obtain e|h:=List.mem_cons.1 h
    .exact absurd (by rw[e]) ne
    .have:=Ms h;simp;omega
def Rx{p:Prop}(h:p:=by
 rename_i e;exact absurd (List.mem_cons.2<|ja (toList_inj e).symm) h):p:=h
theorem Zx{s:BA}:∀{ns:List BA},¬s∈ns->ix s ns=ns.length
 |[],_=>rfl|a::ns,h=>by
   simp only[ix];split
   .exact Rx
   .rw[Zx<|λk=>h<|jv _ k];simp
def PV{s:BA}:∀{ns:List BA},¬s∈ns->ix s (ns++[s])=ns.length
 |[],_=>by simp[ix]|a::ns,h=>by
   simp only[List.cons_append,ix];split
   .exact Rx
   .rw[PV<|λk=>h<|jv _ k];simp
def Pr(h:s∈ns):pO s ns=ns:=by grind[pO,Ms]
def XJ(h:¬s∈ns):pO s ns=ns++[s]:=by grind[pO,Zx]
def pP k s:=if k=17 then rG else if k=6 then pq else s
mutual
def bm(ns:List BA):Nd->Ty×List BA
 |.mk k s _ L _ _ _=>if k=16 then(.var<|ix s (pO s ns)+1,pO s ns)else(.aM (pP k s) (aJ ns L).1,(aJ ns L).2)
def aJ(ns:List BA):List Nd->List Ty×List BA
 |[]=>([],ns)|x::l=>((bm ns x).1::(aJ (bm ns x).2 l).1,(aJ (bm ns x).2 l).2)
end
inductive ys:Nd->Prop where
 |var(s:BA)(n f t a:Nat):ys (.mk 16 s n [] f t a)
 |two(k:Nat)(s:BA)(n:Nat)(x y:Nd)(f t a:Nat)(hk:k=17\/k=6)(hx:ys x)(hy:ys y):ys (.mk k s n [x,y] f t a)
 |up(s:BA)(n:Nat)(L:List Nd)(f t a:Nat)(hw:∀n,VS s n)(hl:L.length<=1001)(hL:∀i(h:i<L.length),ys L[i]):ys (.mk 2 s n L f t a)
def Fr.trans'{T}{a b}(h:Fr S a b)(k:Fr T b c)(d:∀x,T x->S x\/a.heap.size<=x):Fr S a c:=
 ⟨k.os.trans h.os,k.tape.trans h.tape,k.output.trans h.output,j8 h.size k.size,λi hi hn=>(k.block i (j9 hi h.size) (λt=>by obtain t|t:=d i t;exact hn t;omega)).trans (h.block i hi hn)⟩
def Bx.adG{b b2}(h:Bx w b C)(d:b≠b2)v0 v1 v2:Bx (((w.setCell ⟨b2,0,fa⟩ v0).setCell ⟨b2,1,fa⟩ v1).setCell ⟨b2,2,fa⟩ v2) b C:=
 ((h.nQ d 0 v0).nQ d 1 v1).nQ d 2 v2
def IV s ns:ns.length<=(pO s ns).length:=by rw[pO];split<;>simp
mutual
def Zy:∀(d:Nd)(ns:List BA),ns.length<=(bm ns d).2.length
 |.mk k s n L f t a,ns=>by
  simp only[bm];split
  .exact IV s ns
  .exact uA L ns
def uA:∀(L:List Nd)(ns:List BA),ns.length<=(aJ ns L).2.length
 |[],ns=>by simp[aJ]|x::l,ns=>by simp only[aJ];exact j8 (Zy x ns)<|uA l _
end
mutual
def cnt:Nd->Nat
 |.mk k _ _ L _ _ _=>(if k=16 then 1 else 0)+ahC L
def ahC:List Nd->Nat
 |[]=>0|x::l=>cnt x+ahC l
end
end
section
open Go.RowKit
section
variable {σ:St}
def bz s:∀k a k',bt T s k=.ok (a,k')->k'=k+1:=by
 intro k a k' h;rw[bt]at h;split at h
 .cases h;rfl
 .cases h
def eS n:∀k a k',dk T n k=.ok (a,k')->k'=k+1:=by
 intro k a k' h;rw[dk]at h;split at h
 .cases h;rfl
 .cases h
def aB{m}{f:α->M β}{b:β}(h:aI m f k=.ok (b,k')):∃a k1,m k=.ok (a,k1)/\f a k1=.ok (b,k'):=by
 rw[aI]at h;split at h
 .cases h
 .grind
def rA{mk}{a}(h:oC T mk k=.ok (a,k')):k<k':=by
 have⟨_,k1,d,j⟩:=aB h;have:=bz _ _ _ _ d
 cases j
 omega
theorem cI(o:Ei part)(z:Ei F_)sort:∀k a k',ap T part F_ sort k=.ok (a,k')->k<k':=by
 intro k a k' h;rw[ap]at h;split at h
 .split at h
  .rw[dD]at h;split at h
   .cases h;omega
   .have⟨a1,k1,u,d⟩:=aB h;have m1:=o _ _ _ u;rw[gN]at d;split at d
    .have⟨b,y,j,l⟩:=aB d;have:=o _ _ _ j;have:=rA l;omega
    .split at d
     .have⟨b,y,j,l⟩:=aB d;have:=z _ _ _ j;have:=rA l;omega
     .have:=rA d;omega
  .cases h;omega
 .cases h
def Zz sort:∀k,(tk T k).kind=2->ap T part F_ sort k=.ok (bD<|tk T k,k+1):=by
 intro k d;have j:aT (tk T k) bT=ia:=by simp[aT,d]
 have l:aH (tk T k) sort=ga:=by
  rw[aH,aQ];simp[d]
 rw[ap];rw[j,l];rfl
def yd{p:Prop}(h:p:=by
 split at h
 .obtain⟨y,k1,h1,h2⟩:=aB h;have:=hm _ _ _ h1;have:=ih _ _ _ _ h2;omega
 .cases h;omega):p:=h
def An(hm:∀k a k',small k=.ok (a,k')->k<k')sort:∀f x k a k',da T small sort f x k=.ok (a,k')->k<=k':=by
 intro f
 induction f with
 |zero=>intro x k a k' h;cases h;omega|succ f ih=>
  intro x k a k' h;unfold da at h;exact yd
def uL(d:∀k a k',small k=.ok (a,k')->k<k')sort:∀k a k',fN T small sort k=.ok (a,k')->k<k':=by
 intro k a k' h;rw[fN]at h;split at h
 .have⟨y,k1,j,l⟩:=aB h;have:=d _ _ _ j;have:=An d sort _ _ _ _ _ l;omega
 .exact d _ _ _ h
def nu:Ei (lG (α:=α) T):=by
 intro k a k' h
 cases h
theorem dz:∀n,Ei<|c_ T n:=by
 intro n
 induction n with
 |zero=>exact nu|succ n ih=>
  intro k a k' h;rw[c_]at h;have⟨y,k1,j,d⟩:=aB h;have:=uL (cI ih ih 1) 1 _ _ _ j;rw[lF]at d;split at d
  .have⟨z,k3,l,o⟩:=aB d;have:=ih _ _ _ l
   cases o
   omega
  .cases d;omega
def oZ:∀n,Ei<|dG T n:=by
 intro n
 induction n with
 |zero=>exact nu|succ n ih=>
  intro k a k' h;have:=uL (cI ih nu 2) 2 k a k' h;omega
end
end
section
open Go.RowKit Un
def xN(f:Fl):ca:=.agg #[Nv f.kind,Nv f.ah,Nv f.to]
def aN:List (Nd×Nd)->List Nd
 |[]=>[]|p::l=>p.1::p.2::aN l
def lv:Nd->Nat
 |.mk k s _ L _ _ _=>if k=1\/k=3\/k=4\/k=5\/k=6\/k=14\/k=15\/k=16 then 5 else if k=2 then(if L=[]then 5 else 4)else if k=8 then 4 else if k=17 then 1 else if k=7 then(if s.toList=[42]then 3 else if s.toList=[60]then 1 else 2)else 0
inductive Dc where
 |ty(name:jd)(vars:List jd)(VN:List Nd)
 |lt(ajx:Bool)(name:jd)(body:Nd)
def cR(T:List jd)sm:=aI (dk T 2) λt k=>da T sm 1 T.length (.mk 2 t.text 0 [] t.ah (aF T k) t.ah) k
def iO(T:List jd)(mk:M Nd)(d:List Nd->M (List Nd))l:=λk=>if aT (tk T k) oN=ga then d l (k+1)else .ok (l,k)
def dU(T:List jd)(mk:M Nd):Nat->List Nd->M (List Nd)
 |0,l=>λk=>.ok (l,k)|f+1,l=>aI mk λx=>iO T mk (dU T mk f)<|l++[x]
def iE(T:List jd):Nat->List jd->M (List jd)
 |0,l=>λk=>.ok (l,k)|f+1,l=>λk=>if(tk T k).kind=3 then iE T f (l++[tk T k]) (k+1)else .ok (l,k)
def Af(T:List jd)(mk:M Nd):M Dc:=aI (bt T jY) λ_=>aI (dk T 2) λt=>aI (iE T T.length []) λvs=>aI (bt T tN) λ_=>aI (dU T mk T.length []) λms=>aI (bt T dK) λ_ k=>.ok (.ty t vs ms,k)
def Ad(T:List jd)(e:M Nd):M Dc:=aI (cG T e) λb=>aI (bt T dK) λ_ k=>.ok (.lt (b.1==11) b.2.1 b.2.2,k)
def ec(T:List jd)n:=λk=>if aT (tk T k) jY=ga then Af T (cR T<|ap T (c_ T n) (c_ T n) 1) k else Ad T (bi T n) k
def dc(T:List jd)(d:M Dc):Nat->List Dc->M (List Dc)
 |0,l=>λk=>.ok (l,k)|f+1,l=>λk=>if aT (tk T k) jY=ga\/aT (tk T k) jZ=ga then aI d (λx=>dc T d f<|l++[x]) k else .ok (l,k)
def D7(T:List jd)(l:List Dc):M (List Dc):=λk=>if(tk T k).kind=7 then .ok (l,k)else .error (eA<|tk T k)
def bq(s:BA):Except Fl (List Dc):=
 if 400<s.size then .error ⟨1,0,0⟩else
 match aI (dc (jh s 0) (ec (jh s 0) (jh s 0).length) (jh s 0).length []) (D7<|jh s 0) 0 with
 |.error f=>.error f|.ok (l,_)=>.ok l
end
section
open Go.RowKit
def mG{α:Type}(m:M α):=∀k a k',m k=.ok (a,k')->k<k'
def mG.mono{m:M Nd}(h:mG m):Ei m:=λk a k' q=>Nat.le_of_lt<|h k a k' q
def NJ(hm:mG sm)fr:∀f x k a k',gi T sm fr f x k=.ok (a,k')->k<=k':=by
 intro f
 induction f with
 |zero=>intro x k a k' h;cases h;omega|succ f ih=>
  intro x k a k' h;unfold gi at h;exact yd
def NK(hm:mG sm)fr:∀f x k a k',gO T sm fr f x k=.ok (a,k')->k<=k':=by
 intro f
 induction f with
 |zero=>intro x k a k' h;cases h;omega|succ f ih=>
  intro x k a k' h;unfold gO at h;exact yd
def Uz(hm:mG sm)fr:∀f x k a k',nS T sm fr f x k=.ok (a,k')->k<=k':=by
 intro f
 induction f with
 |zero=>intro x k a k' h;cases h;omega|succ f ih=>
  intro x k a k' h;unfold nS at h;exact yd
def sZ(d:mG sm):mG (cd T sm):=λk a k' h=>by
 rw[cd]at h;have⟨y,k1,j,l⟩:=aB h;have:=d _ _ _ j;have:=NJ d _ _ _ _ _ _ l;omega
def Ao(d:mG sm):mG (dN T sm):=λk a k' h=>by
 rw[dN]at h;have⟨y,k1,j,l⟩:=aB h;have:=d _ _ _ j;have:=NK d _ _ _ _ _ _ l;omega
def Ry(d:mG sm):mG (q_ T sm):=λk a k' h=>by
 rw[q_]at h;have⟨y,k1,j,l⟩:=aB h;have:=d _ _ _ j;have:=Uz d _ _ _ _ _ _ l;omega
def ZA(j:mG sm):mG (nF T sm):=λk a k' h=>by
 rw[nF]at h;have⟨y,k1,l,d⟩:=aB h;have:=j _ _ _ l;split at d
 .have⟨z,k2,o,u⟩:=aB d;have:=j _ _ _ o
  cases u
  omega
 .cases d;omega
def Rz{p:Prop}(h:p:=by
 have:=eS _ _ _ _ h3;have:=bz _ _ _ _ h5;have:=hm _ _ _ h7
 omega):p:=h
def Fe(hm:mG e):mG (rf T e):=λk a k' h=>by
 rw[rf]at h;have⟨_,k1,d,j⟩:=aB h;have⟨_,k2,h3,l⟩:=aB j;have⟨_,k3,h5,o⟩:=aB l;have⟨_,k4,h7,u⟩:=aB o
 cases u
 have:=bz _ _ _ _ d;exact Rz
def C5(hm:mG e):mG (cG T e):=λk a k' h=>by
 rw[cG]at h;have⟨_,k1,u,d⟩:=aB h;have:=bz _ _ _ _ u;split at d
 .have⟨_,y,h3,j⟩:=aB d;have⟨_,z,h5,l⟩:=aB j;have⟨_,B,h7,o⟩:=aB l
  cases o
  have:=eS _ _ _ _ h3;have:=bz _ _ _ _ h5;have:=Fe hm _ _ _ h7;omega
 .have⟨_,y,h3,j⟩:=aB d;have⟨_,z,h5,l⟩:=aB j;have⟨_,B,h7,o⟩:=aB l
  cases o
  exact Rz
def UA{p}(B:Ei p)(E:mG e):∀f l k a k',kY T p e f l k=.ok (a,k')->k<=k':=by
 intro f
 induction f with
 |zero=>intro l k a k' h;cases h;omega|succ f ih=>
  intro l k a k' h;rw[kY]at h;have⟨_,k1,j,o⟩:=aB h;have⟨_,k2,u,y⟩:=aB o;have⟨_,k3,z,d⟩:=aB y;have:=B _ _ _ j;have:=bz _ _ _ _ u;have:=E _ _ _ z;split at d
  .grind
  .cases d;omega
theorem kG:∀n,mG<|bi T n
 |0=>λk a k' h=>Pj|n+1=>λk a k' h=>by
  have d:=kG n;unfold bi at h;split at h
  .exact Fe d _ _ _ h
  split at h
  .unfold kX at h;have⟨_,O,l,o⟩:=aB h;have⟨_,U,u,y⟩:=aB o;have⟨_,V,z,B⟩:=aB y;have⟨_,X,E,F⟩:=aB B;have⟨_,Y,G,j⟩:=aB F;have⟨_,k6,I,J⟩:=aB j
   cases J
   have:=bz _ _ _ _ l;have:=d _ _ _ u;have:=bz _ _ _ _ z;have:=d _ _ _ E;have:=bz _ _ _ _ G;have:=d _ _ _ I;omega
  split at h
  .unfold oO at h;have⟨_,O,l,o⟩:=aB h;have⟨_,U,u,y⟩:=aB o;have⟨_,V,z,B⟩:=aB y;have⟨_,X,E,F⟩:=aB B;have⟨_,Y,G,j⟩:=aB F
   cases j
   have:=bz _ _ _ _ l;have:=d _ _ _ u;have:=bz _ _ _ _ z;have:=UA (oZ n) d _ _ _ _ _ E;have:=bz _ _ _ _ G;omega
  split at h
  .unfold nK at h;have⟨_,O,l,o⟩:=aB h;have⟨_,U,u,y⟩:=aB o;have⟨_,V,z,B⟩:=aB y
   cases B
   have:=C5 d _ _ _ l;have:=bz _ _ _ _ u;have:=d _ _ _ z;omega
  .exact ZA (Ry<|Ao<|sZ<|cI d.mono (dz n) 3) _ _ _ h
def uM n:Ei (bi T n):=(kG n).mono
def Has(s:BA)(i:Nat)(l:List UInt8):=∀j(h:j<l.length),i+j<s.size/\jk s (i+j)=l[j].toNat
def Has.left{l:List UInt8}(h:Has s i (l++m)):Has s i l:=λj hj=>by
 have:=h j bQ
 rwa[List.getElem_append_left hj]at this
def Has.right{l:List UInt8}(h:Has s i (l++m)):Has s (i+l.length) m:=λj hj=>by
 have:=h (l.length+j) bQ;rw[List.getElem_append_right ae]at this;simpa[Nat.add_assoc]using this
def Has.hd(h:Has s i (x::m)):i<s.size/\jk s i=x.toNat:=h 0 ag
def Has.tl(h:Has s i (x::m)):Has s (i+1) m:=λj hj=>by
 have:=h (j+1) bQ;simpa[Nat.add_assoc,Nat.add_comm 1 j]using this
def Has.le{l:List UInt8}(h:Has s i l)(d:i<=s.size):i+l.length<=s.size:=by
 cases l with
 |nil=>simpa using d|cons x r=>have:=(h r.length ag).1;simp;omega
def Has.ext{l:List UInt8}(h:Has s i l)(y:i<=s.size):(s.extract i<|i+l.length).toList=l:=by
 have hle:=h.le y;rw[qf,ByteArray.data_extract];apply List.ext_getElem
 .have hd:s.data.size=s.size:=rfl;simp;omega
 .intro j h1 o;have⟨u,d⟩:=h j o;rw[Pu.nE u]at d;have:s[i+j]=l[j]:=UInt8.toNat_inj.1 d;rw[<-this];simp[ByteArray.getElem_eq_getElem_data]
def Has.end_{s:BA}{p:Nat->Bool}:∀{l:List UInt8}{i:Nat},Has s i l->(∀x∈l,p x.toNat=ga)->p (jk s<|i+l.length)=ia->Pu.aK s p i=i+l.length
 |[],i,_,_,hn=>by
  simp at hn;by_cases d:i<s.size
  .simpa using Pu.oM d hn
  .simpa using Pu.jI ae
 |x::r,i,h,hp,hn=>by
   rw[Pu.fJ h.hd.1 (by rw[h.hd.2];exact hp x ag),Has.end_ h.tl (λy hy=>hp y<|by simp[hy])<|by simpa[Nat.add_assoc,Nat.add_comm 1]using hn];simp[Nat.add_assoc,Nat.add_comm 1]
def Lx(nb:Bool)(l:List UInt8)(p:List Ky):=∀s i,Has s i l->i<=s.size->(nb=ga->jf (jk s<|i+l.length)=ia)->∃T,jh s i=T++jh s (i+l.length)/\T.map aP=p
def Lx.DB{b}{l:List UInt8}{p:List Ky}(h:Lx b l p):Lx ga l p:=λs i hs hi hn=>h s i hs hi<|λ_=>hn rfl
def YM:Lx ia [32] []:=by
 intro s i d hi _;refine⟨[],?_,rfl⟩;rw[Pu.ri d.hd.1 (by rw[d.hd.2];rfl)];rfl
def ni{l:List UInt8}(d:Has s i l)(j:i<=s.size)(o:i<s.size)(u:Pu.cN (jk s i)=ia)(y:ji s i=jm s i k (i+l.length)):∃T,jh s i=T++jh s (i+l.length)/\T.map aP=[(k,l)]:=by
 refine⟨[jm s i k<|i+l.length],?_,?_⟩
 .rw[Pu.Ij o u,y];rfl
 .simp only[jz,jq,aP,jm];rw[d.ext j]
def YQ:Lx ia [45,62] [(5,[45,62])]:=by
 intro s i d l _;have⟨o,j⟩:=d.hd;have⟨h2,u⟩:=d.tl.hd;refine ni d l o ?_ ?_
 .rw[j];rfl
 .rw[ji];rw[j,u];simp[jl,jj,Pu.d_]
def ahl x r(j:jj x.toNat=ga)(F:∀y∈r,jf y.toNat=ga):Lx ga (x::r) [(2,x::r)]:=by
 intro s i l u z;have⟨B,o⟩:=l.hd;have d:jl x.toNat=ia:=by simp[jj]at j;simp[jl];omega
 have E:=l.end_ (p:=jf) (λy hy=>by
  obtain rfl|hy:=List.mem_cons.1 hy
  .simp[jf,j]
  .exact F y hy) (z rfl)
 refine ni l u B ?_ ?_
 .rw[o];simp[jj]at j;simp[Pu.cN];omega
 .rw[ji];rw[o,E];simp[d,j]
def afj x r(o:jl x.toNat=ga)(G:∀y∈r,jf y.toNat=ga)(I:Pu.fe ⟨(x::r).toArray⟩=ia):Lx ga (39::x::r) [(3,39::x::r)]:=by
 intro s i d u z;have⟨B,l⟩:=d.hd;have⟨h2,E⟩:=d.tl.hd
 have F:=d.tl.end_ (p:=jf) (λy hy=>by
  obtain rfl|hy:=List.mem_cons.1 hy
  .simp[jf,o]
  .exact G y hy) (by have:=z rfl;simpa[Nat.add_assoc,Nat.add_comm 1]using this)
 have j:s.extract (i+1) (i+1+(x::r).length)=⟨(x::r).toArray⟩:=kZ (by rw[d.tl.ext ae,toList_mk]);refine ni d u B ?_ ?_
 .rw[l];rfl
 .rw[ji];rw[l,E,F,j,I,if_neg aD,if_neg aD,if_pos ⟨aD,o⟩,if_neg aD];simp[Nat.add_assoc,Nat.add_comm 1]
def YI l:Has (bs l) 0 l:=by
 intro j hj;have d:0+j<(bs l).size:=by rw[gq];omega
 refine⟨d,?_⟩;rw[Pu.nE d];simp[bs,ByteArray.getElem_eq_getElem_data]
end
section
open Go.RowKit Un
mutual
def es:Nd->Nd
 |.mk k s n L _ _ _=>.mk k (if k=3\/k=15 then cX else s) (if k=3 then n else 0) (bB L) 0 0 0
def bB:List Nd->List Nd
 |[]=>[]|x::l=>es x::bB l
end
mutual
def nn:Nd->Nat
 |.mk _ _ _ L _ _ _=>1+cr L
def cr:List Nd->Nat
 |[]=>0|x::l=>nn x+cr l
end
def rM:∀l m,cr (l++m)=cr l+cr m
 |[],m=>by simp[cr]|x::l,m=>by simp[cr,rM l m];omega
def tT x:1<=nn x:=by cases x;simp[nn]
def mJ:∀l,l.length<=cr l
 |[]=>by simp[cr]|x::l=>by have:=tT x;have:=mJ l;simp[cr];omega
def gG s(l:List BA):=l.any λx=>decide (x=s)
def Pt{l:List BA}:gG s l=ga↔s∈l:=by simp[gG]
def Pw{l:List BA}:gG s l=ia↔s∉l:=by grind[gG]
def tell k a b(z:Fl):=if z.kind=0\/a<z.ah then⟨k,a,b⟩else z
def bR(c:Bool)k a b z:=if c then tell k a b z else z
mutual
def rV(ty:BA->Option Nat)(own:List BA):Nd->Fl->Fl
 |.mk k s _ L f _ a,z=>iJ ty own L<|bR (k==2&&ty s !=ea L.length) 4 a (a+s.size)<|bR (k==16&& !gG s own) 4 f (f+s.size) z
def iJ(ty:BA->Option Nat)(own:List BA):List Nd->Fl->Fl
 |[],z=>z|x::l,z=>iJ ty own l<|rV ty own x z
end
mutual
def jJ(mk:BA->Option Nat):Nd->List BA×Fl->List BA×Fl
 |.mk k s _ L f t a,q=>if k==1 then(q.1++[s],bR (gG s q.1) 5 f t q.2)else dW mk L (q.1,bR (k==2&&mk s !=ea L.length) 5 a (a+s.size) q.2)
def dW(mk:BA->Option Nat):List Nd->List BA×Fl->List BA×Fl
 |[],q=>q|x::l,q=>dW mk l<|jJ mk x q
end
mutual
def dV(ty mk:BA->Option Nat):Nd->List BA->Fl->Fl
 |.mk k s _ L f t _,l,z=>
  if k==1 then bR (!gG s l) 5 f t z
  else if k==2 then bR (mk s).isNone 5 f t z
  else if k==9 then Bc ty mk L (l++[s]) z
  else if k==10 then Eg ty mk L l (l++[s]) z
  else if k==11 then Eg ty mk L (l++[s]) (l++[s]) z
  else if k==13 then Ib ty mk L l z
  else if k==14 then Bd ty mk L l z
  else gn ty mk L l z
def Bc(ty mk:BA->Option Nat):List Nd->List BA->Fl->Fl
 |[],_,z=>z|x::_,l,z=>dV ty mk x l z
def Eg(ty mk:BA->Option Nat):List Nd->List BA->List BA->Fl->Fl
 |[],_,_,z=>z|x::r,l,l',z=>Bc ty mk r l'<|dV ty mk x l z
def Bd(ty mk:BA->Option Nat):List Nd->List BA->Fl->Fl
 |[],_,z=>z|x::r,l,z=>(match r with|[]=>id|y::_=>rV ty [] y)<|dV ty mk x l z
def gn(ty mk:BA->Option Nat):List Nd->List BA->Fl->Fl
 |[],_,z=>z|x::r,l,z=>gn ty mk r l<|dV ty mk x l z
def Ib(ty mk:BA->Option Nat):List Nd->List BA->Fl->Fl
 |[],_,z=>z|x::r,l,z=>mi ty mk r l<|dV ty mk x l z
def mi(ty mk:BA->Option Nat):List Nd->List BA->Fl->Fl
 |[],_,z=>z|p::r,l,z=>Ee ty mk r l<|jJ mk p ([],z)
def Ee(ty mk:BA->Option Nat):List Nd->List BA->List BA×Fl->Fl
 |[],_,q=>q.2|e::r,l,q=>mi ty mk r l<|dV ty mk e (l++q.1) q.2
end
structure SE where
 ty:BA->Option Nat
 mks:BA->Option Nat
 nm:List BA
 f:Fl
abbrev Sy:=(BA->Option Nat)->BA->Nat->BA->Option Nat
def up1:Sy:=λt x n y=>match t y with
 |some m=>ea m|none=>if y=x then ea n else fa
def iy:Sy:=λt x n y=>if y=x then ea n else t y
def F9:List BA->List jd->Fl->Fl
 |_,[],z=>z|p,v::r,z=>F9 (p++[v.text]) r<|bR (gG v.text p) 4 v.ah v.to z
def xG(u:Sy)(ty:BA->Option Nat)(own:List BA):List Nd->(BA->Option Nat)×Fl->(BA->Option Nat)×Fl
 |[],q=>q|.mk _ s _ L _ _ a::r,q=>xG u ty own r (u q.1 s L.length,iJ ty own L<|bR (q.1 s).isSome 4 a (a+s.size) q.2)
def Ow(u:Sy):Dc->SE->SE
 |.ty t vs ms,e=>⟨u e.ty t.text vs.length,(xG u (u e.ty t.text vs.length) (vs.map (·.text)) ms (e.mks,F9 [] vs<|bR (e.ty t.text).isSome 4 t.ah t.to e.f)).1,e.nm,(xG u (u e.ty t.text vs.length) (vs.map (·.text)) ms (e.mks,F9 [] vs<|bR (e.ty t.text).isSome 4 t.ah t.to e.f)).2⟩|.lt r t b,e=>⟨e.ty,e.mks,e.nm++[t.text],dV e.ty e.mks b (if r then e.nm++[t.text]else e.nm) e.f⟩
def fQ(u:Sy):List Dc->SE->SE
 |[],e=>e|d::r,e=>fQ u r<|Ow u d e
abbrev t_:BA:=⟨#[73,110,116]⟩
abbrev lV:BA:=⟨#[66,111,111,108]⟩
abbrev kQ:BA:=⟨#[85,110,105,116]⟩
def ty0:BA->Option Nat:=λx=>if x=t_\/x=lV\/x=kQ then ea 0 else fa
def yx:SE:=⟨ty0,λ_=>fa,[],lA⟩
mutual
def Ge(lo:Nat):Nd->Prop
 |.mk _ s _ L f _ a=>(lo<=f/\lo<=a)/\(f<=400/\a<=400/\s.size<=400)/\LB lo L
def LB(lo:Nat):List Nd->Prop
 |[]=>True|x::l=>Ge lo x/\LB lo l
end
def Told(z:Fl)lo:=z.kind≠0/\z.ah<=lo
def UB k a b z(hk:k≠0):Told (tell k a b z) a:=by grind[Told,tell]
mutual
def Ge.mono{lo d:Nat}(h:lo<=d):∀{j:Nd},Ge d j->Ge lo j
 |.mk _ _ _ L _ _ _,g=>⟨⟨j8 h g.1.1,j8 h g.1.2⟩,g.2.1,LB.mono h g.2.2⟩
def LB.mono{lo d:Nat}(h:lo<=d):∀{L:List Nd},LB d L->LB lo L
 |[],_=>trivial|_::_,g=>⟨Ge.mono h g.1,LB.mono h g.2⟩
end
namespace In
structure Lp where
 of:Ty
 any:List Nat
structure St where
 k:Nat->Ty
 u:Nat->Prop
structure Ft where
 f:Fl
 l:Ty
 r:Ty
abbrev Env:=BA->Option Lp
abbrev Mks:=BA->Option (List Ty×Ty)
abbrev Rn:=Nat->Option Nat
abbrev MM(α:Type):=St->Except Ft (α×St)->Prop
def dl(a:α):MM α:=λs o=>o=.ok (a,s)
def andM(m:MM α)(g:α->MM β):MM β:=λs o=>(∃x,m s (.error x)/\o=.error x)\/∃a s',m s (.ok (a,s'))/\g a s' o
def noM:MM α:=λ_ _=>False
def lC:MM Nat:=λs o=>∃v,¬s.u v/\o=.ok (v,⟨s.k,λn=>s.u n\/n=v⟩)
structure wY θ a b:Prop where
 one:sub θ a=sub θ b
 gen:∀σ,sub σ a=sub σ b->∀v,sub σ (θ v)=σ v
 out:∀v,¬aA v a->¬aA v b->θ v=.var v
 rng:∀v n,aA v a\/aA v b->aA n (θ v)->aA n a\/aA n b
def p9(f t:Nat):Ft:=⟨⟨7,f,t⟩,.var 0,.var 0⟩
def tG(a b:Ty)(f t:Nat):MM Unit:=λs o=>
 ((48<size (sub s.k a)\/48<size (sub s.k b))/\o=.error (p9 f t))\/
 (size (sub s.k a)<=48/\size (sub s.k b)<=48/\((∃θ,wY θ (sub s.k a) (sub s.k b)/\o=.ok ((),⟨λv=>sub θ<|s.k v,s.u⟩))\/((∀σ,sub σ (sub s.k a)≠sub σ (sub s.k b))/\o=.error ⟨⟨6,f,t⟩,sub s.k a,sub s.k b⟩)))
structure Ck(l:List Nat)(ρ iU:Rn)(u u':Nat->Prop):Prop where
 fV:∀v n,ρ v=ea n->iU v=ea n
 out:∀v,v∉l->iU v=ρ v
 all:∀v,v∈l->iU v≠fa
 new:∀v n,ρ v=fa->iU v=ea n->¬u n
 one:∀v v' n,ρ v=fa->iU v=ea n->iU v'=ea n->v=v'
 use:∀n,u' n↔u n\/∃v,ρ v=fa/\iU v=ea n
def r9(l:List Nat)(ρ:Rn):MM Rn:=λs o=>∃iU u',Ck l ρ iU s.u u'/\o=.ok (iU,⟨s.k,u'⟩)
def Bt:Rn:=λ_=>fa
def via(ρ:Rn):Nat->Ty:=λv=>match ρ v with
 |some n=>.var n|none=>.var v
def cV(Γ:Env)x c:=λy=>if y=x then ea c else Γ y
def lN(Γ:Env)x:=λy=>if y=x then fa else Γ y
def over(g Γ:Env):Env:=λy=>match g y with
 |some c=>ea c|none=>Γ y
abbrev mono(t:Ty):Lp:=⟨t,[]⟩
def uX(Γ:Env)k v:=∃y c,Γ y=ea c/\aA v (sub k c.of)/\v∉c.any
open Classical in
noncomputable def yl (Γ:Env) (k:Nat->Ty) (T:Ty):List Nat:=(vars [] T).filter λv=>decide (¬uX Γ k v)
noncomputable def iq (Γ:Env) (k:Nat->Ty) (t:Ty) (v:Bool):Lp:=⟨sub k t,if v then yl Γ k (sub k t)else[]⟩
abbrev iT:Ty:=.aM t_ []
abbrev nX:Ty:=.aM lV []
abbrev kM:Ty:=.aM kQ []
abbrev mD(a b:Ty):Ty:=.aM rG [a,b]
abbrev tPr(a b:Ty):Ty:=.aM pq [a,b]
def arr(tk:List Ty)m:=tk.foldr mD m
def iG:Nd->Nat|.mk _ _ _ _ f _ _=>f
def wO:Nd->Nat|.mk _ _ _ _ _ t _=>t
def RA:Nd->Nat|.mk k _ _ _ _ _ _=>k
mutual
def xD:Nd->Bool
 |.mk k _ _ L _ _ _=>if k=6 then Ua L else if k=14 then TS L else if k=8 then isC L&&Na L else k==1||k==2||k==3||k==4||k==5||k==9
def Ua:List Nd->Bool
 |[]=>ga|x::l=>xD x&&Ua l
def TS:List Nd->Bool
 |[]=>ia|x::_=>xD x
def Na:List Nd->Bool
 |[]=>ia|_::l=>TS l
def isC:List Nd->Bool
 |[]=>ia|x::_=>isM x
def isM:Nd->Bool
 |.mk k _ _ L _ _ _=>if k=8 then isC L&&Na L else k==2
end
def rY(Γ:Env)(x:BA)(f t:Nat):MM Ty:=match Γ x with
 |none=>noM|some c=>λs o=>(48<size (sub s.k c.of)/\o=.error (p9 f t))\/(size (sub s.k c.of)<=48/\∃ρ s',r9 c.any Bt s (.ok (ρ,s'))/\o=.ok (sub (via ρ)<|sub s.k c.of,s'))
def qD t ρ:=andM (r9 (vars [] t) ρ) λiU=>dl (sub (via iU) t,iU)
def upM(mk:Mks)x:=match mk x with
 |none=>noM|some (tk,m)=>andM (qD (arr tk m) Bt) λq=>dl q.1
abbrev PM:=Env->MM (Ty×Env)
abbrev EM:=Env->MM Ty
def me:List Ty->List Nd->List PM->Env->Rn->MM (Env×Rn)
 |u::tk,x::L,p::ps,g,ρ=>andM (p g) λq=>andM (qD u ρ) λi=>andM (tG q.1 i.1 (iG x)<|wO x) λ_=>me tk L ps q.2 i.2|_,_,_,g,ρ=>dl (g,ρ)
def dB{α:Type}(ps:List (Env->MM α))i:=ps.getD i λ_=>noM
def tZ(mk:Mks)k s L ps g:=
 if k=15 then andM lC λv=>dl (.var v,g)
 else if k=1 then andM lC λv=>dl (.var v,cV g s<|mono<|.var v)
 else if k=3 then dl (iT,g)
 else if k=4 then dl (nX,g)
 else if k=5 then dl (kM,g)
 else if k=6 then andM (dB ps 0 g) λa=>andM (dB ps 1 a.2) λb=>dl (tPr a.1 b.1,b.2)
 else match mk s with
  |none=>noM|some (tk,m)=>andM (me tk L ps g Bt) λq=>andM (qD m q.2) λi=>dl (i.1,q.1)
mutual
def dG(mk:Mks):Nd->PM
 |.mk k s _ L _ _ _=>tZ mk k s L<|nC mk L
def nC(mk:Mks):List Nd->List PM
 |[]=>[]|x::l=>dG mk x::nC mk l
end
def nI(mk:Mks)(Γ:Env)(t r:Ty):List Nd->List EM->MM Unit
 |p::e::L,_::pe::ps=>andM (dG mk p λ_=>fa) λq=>andM (tG t q.1 (iG p)<|wO p) λ_=>andM (pe<|over q.2 Γ) λu=>andM (tG r u (iG e)<|wO e) λ_=>nI mk Γ t r L ps|_,_=>dl ()
def cG(rc:Bool)x e(d:EM)Γ:=
 if rc then andM lC λv=>andM (d<|cV Γ x<|mono<|.var v) λt=>andM (tG (.var v) t (iG e)<|wO e) λ_=>dl t
 else d Γ
noncomputable def nK (rc:Bool) (x:BA) (e:Nd) (d j:EM) (Γ:Env):MM Ty:=
 andM (cG rc x e d Γ) λt=>λs=>j (cV Γ x<|iq (if rc then lN Γ x else Γ) s.k t (xD e)) s
def nd0:Nd:=.mk 0 ⟨#[]⟩ 0 [] 0 0 0
def iH(L:List Nd)i:=L.getD i nd0
noncomputable def ls (mk:Mks) (k:Nat) (s:BA) (L:List Nd) (f t:Nat) (ps:List EM) (Γ:Env):MM Ty:=
 if k=1 then rY Γ s f t
 else if k=2 then upM mk s
 else if k=3 then dl iT
 else if k=4 then dl nX
 else if k=5 then dl kM
 else if k=6 then andM (dB ps 0 Γ) λa=>andM (dB ps 1 Γ) λb=>dl<|tPr a b
 else if k=14 then(if vars [] (bm []<|es<|iH L 1).1=[]then andM (dB ps 0 Γ) λa=>andM (tG a (bm []<|es<|iH L 1).1 (iG<|iH L 0)<|wO<|iH L 0) λ_=>dl (bm []<|es<|iH L 1).1 else noM)
 else if k=7 then andM (dB ps 0 Γ) λa=>andM (tG a iT (iG<|iH L 0)<|wO<|iH L 0) λ_=>andM (dB ps 1 Γ) λb=>andM (tG b iT (iG<|iH L 1)<|wO<|iH L 1) λ_=>dl<|if s=b8 then nX else iT
 else if k=8 then andM (dB ps 0 Γ) λa=>andM (dB ps 1 Γ) λb=>andM lC λv=>andM (tG a (mD b<|.var v) f t) λ_=>dl<|.var v
 else if k=9 then andM lC λv=>andM (dB ps 0<|cV Γ s<|mono<|.var v) λa=>dl<|mD (.var v) a
 else if k=10 then nK ia s (iH L 0) (dB ps 0) (dB ps 1) Γ
 else if k=11 then nK ga s (iH L 0) (dB ps 0) (dB ps 1) Γ
 else if k=12 then andM (dB ps 0 Γ) λa=>andM (tG a nX (iG<|iH L 0)<|wO<|iH L 0) λ_=>andM (dB ps 1 Γ) λb=>andM (dB ps 2 Γ) λc=>andM (tG b c (iG<|iH L 2)<|wO<|iH L 2) λ_=>dl b
 else if k=13 then andM (dB ps 0 Γ) λa=>andM lC λv=>andM (nI mk Γ a (.var v) L.tail ps.tail) λ_=>dl<|.var v
 else noM
mutual
noncomputable def inf (mk:Mks):Nd->EM
 |.mk k s _ L f t _=>ls mk k s L f t<|pM mk L
noncomputable def pM (mk:Mks):List Nd->List EM
 |[]=>[]|x::l=>inf mk x::pM mk l
end
def yu ns(m:Nd):=match m with|.mk _ _ _ L _ _ _=>(aJ ns<|bB L).1
def Gb:Nd->BA|.mk _ s _ _ _ _ _=>s
def Dp(t:jd)(vs:List jd):Ty:=.aM t.text<|(List.range vs.length).map λi=>.var<|i+1
def rK(t:jd)(vs:List jd):List Nd->Mks->Mks
 |[],mk=>mk|m::r,mk=>rK t vs r λy=>if y=Gb m then ea (yu (vs.map (·.text)) m,Dp t vs)else mk y
def fW t:=sub (λ_=>kM) t
end In
namespace In
mutual
def bS{n:Nat}{σ:Nat->Ty}:∀t,aA n (sub σ t)↔∃m,aA m t/\aA n (σ m)
 |.var m=>by simp[sub,aA]|.aM c l=>by simp[sub,aA,Kv l]
def Kv{n:Nat}{σ:Nat->Ty}:∀l,bZ n (aU σ l)↔∃m,bZ m l/\aA n (σ m)
 |[]=>by simp[aU,bZ]|t::l=>by
  simp only[aU,bZ,bS t,Kv l];constructor
  .rintro(⟨m,a,b⟩|⟨m,a,b⟩)
   .exact⟨m,ja a,b⟩
   .exact⟨m,jc a,b⟩
  .rintro⟨m,a|a,b⟩
   .exact ja ⟨m,a,b⟩
   .exact jc ⟨m,a,b⟩
end
def gZ(h:∀n,aA n t->σ n=.var n):sub σ t=t:=(sub_congr t h).trans<|cM t
def afE(h:sub σ t=t)(d:aA n t):σ n=.var n:=OS t (h.trans (cM t).symm) n d
def wY.idem(h:wY θ a b)v:sub θ (θ v)=θ v:=h.gen θ h.one v
def wY.fix(h:wY θ a b)(d:aA n (θ v)):θ n=.var n:=afE (h.idem v) d
structure Ok(s:St):Prop where
 out:∀v,¬s.u v->s.k v=.var v
 use:∀v n,s.u v->aA n (s.k v)->s.u n
 idem:∀v n,aA n (s.k v)->s.k n=.var n
def Ok.nR{s:St}(h:Ok s)(l:∀n,aA n t->s.u n)(o:aA n (sub s.k t)):s.u n/\s.k n=.var n:=by
 have⟨m,j,d⟩:=(bS t).1 o;exact⟨h.use m n (l m j) d,h.idem m n d⟩
def Ok.qE{s:St}(h:Ok s)t:sub s.k (sub s.k t)=sub s.k t:=by
 refine gZ λn hn=>?_;have⟨m,_,d⟩:=(bS t).1 hn;exact h.idem m n d
structure Lu(Λ:Nat->Prop)(s s':St):Prop where
 mono:∀n,s.u n->s'.u n
 step:∃θ:Nat->Ty,(∀v,s'.k v=sub θ (s.k v))/\(∀v,¬Λ v->θ v=.var v)/\∀v n,Λ v->aA n (θ v)->Λ n
def Lu.refl Λ s:Lu Λ s s:=⟨λ_ h=>h,Ty.var,λ_=>(cM _).symm,λ_ _=>rfl,λv n h k=>by simp[aA]at k;subst k;exact h⟩
def Lu.trans{s s1 s2:St}(h:Lu Λ s s1)(k:Lu Λ s1 s2):Lu Λ s s2:=by
 obtain⟨d,θ,j,l,o⟩:=h;obtain⟨u,τ,y,z,B⟩:=k;refine⟨λn q=>u n<|d n q,λv=>sub τ<|θ v,λv=>by rw[y,j,sub_sub],λv hv=>by show sub τ (θ v)=_;rw[l v hv,sub,z v hv],λv n hv hn=>?_⟩;have⟨m,E,F⟩:=(bS _).1 hn;exact B m n (o v m hv E) F
def Lu.wide{M}{s s':St}(h:Lu Λ s s')(o:∀n,Λ n->M n):Lu M s s':=by
 obtain⟨j,θ,l,d,a3⟩:=h;refine⟨j,θ,l,λv hv=>d v λq=>hv<|o v q,λv n hv hn=>?_⟩;by_cases q:Λ v
 .grind
 .rw[d v q]at hn;simp[aA]at hn;subst hn;exact hv
structure cy(Λ:Nat->Prop)(s:St)t:Prop where
 use:∀n,aA n t->s.u n
 loc:∀n,aA n (sub s.k t)->Λ n
def Ff{s s':St}(h:∀v,s'.k v=sub θ (s.k v))t:sub s'.k t=sub θ (sub s.k t):=by grind[sub,sub_sub,sub_congr]
def cy.run{s s':St}(h:cy Λ s t)(r:Lu Λ s s'):cy Λ s' t:=by
 have⟨θ,d,a2,j⟩:=r.step;refine⟨λn hn=>r.mono n<|h.use n hn,λn hn=>?_⟩;rw[Ff d]at hn;have⟨m,l,o⟩:=(bS _).1 hn;exact j m n (h.loc m l) o
structure nH(Λ:Nat->Prop)(s:St)(c:Lp):Prop where
 use:∀n,aA n c.of->s.u n
 loc:∀n,aA n (sub s.k c.of)->n∈c.any\/Λ n
 fix:∀v,v∈c.any->s.k v=.var v/\¬Λ v
 sub:∀v,v∈c.any->aA v c.of
def nH.run{s s':St}{c:Lp}(h:nH Λ s c)(r:Lu Λ s s'):nH Λ s' c:=by
 have⟨θ,j,l,a3⟩:=r.step;refine⟨λn hn=>r.mono n<|h.use n hn,λn hn=>?_,λv hv=>?_,h.sub⟩
 .rw[Ff j]at hn;have⟨m,o,d⟩:=(bS _).1 hn;obtain q|q:=h.loc m o
  .rw[l m (h.fix m q).2]at d;simp[aA]at d;subst d;exact ja q
  .grind
 .have⟨o,d⟩:=h.fix v hv;exact⟨by rw[j,o,j3,l v d],d⟩
def bA Λ s(Γ:Env):=∀y c,Γ y=ea c->nH Λ s c
def bA.run{Λ}{s s'}{Γ}(h:bA Λ s Γ)(r:Lu Λ s s'):bA Λ s' Γ:=λy c q=>(h y c q).run r
def cy.mono{s:St}(h:cy Λ s t):nH Λ s (mono t):=⟨h.use,λn hn=>jc<|h.loc n hn,λv hv=>(by simp at hv),λv hv=>(by simp at hv)⟩
def bA.set{s:St}{Γ}(h:bA Λ s Γ)x{c:Lp}(hc:nH Λ s c):bA Λ s (cV Γ x c):=λy d q=>by
 rw[cV]at q;split at q
 .grind
 .exact h y d q
theorem bA.over{Λ}{s}{g Γ}(hg:bA Λ s g)(h:bA Λ s Γ):bA Λ s (over g Γ):=by grind[bA,over]
def bA.none Λ s:bA Λ s (λ_=>fa):=by grind[bA]
def Holds{α:Type}(m:MM α)s(Q:α->St->Prop):=∀a s',m s (.ok (a,s'))->Q a s'
section
variable {s:St}
def Holds.ret{a}{Q:α->St->Prop}(h:Q a s):Holds (dl a) s Q:=by grind[Holds,dl]
def Holds.and{m}{g}{Q:α->St->Prop}{R:β->St->Prop}(h:Holds m s Q)(k:∀a s',Q a s'->Holds (g a) s' R):Holds (andM m g) s R:=by grind[Holds,andM]
def Holds.no{Q:α->St->Prop}:Holds noM s Q:=λ_ _ q=>q.elim
def Holds.imp{m}{Q R:α->St->Prop}(h:Holds m s Q)(k:∀a s',Q a s'->R a s'):Holds m s R:=by grind[Holds]
structure Kp(Λ:Nat->Prop)s s':Prop where
 ok:Ok s'
 new:∀n,¬s'.u n->Λ n
 run:Lu Λ s s'
def Kp.refl(h:Ok s)(d:∀n,¬s.u n->Λ n):Kp Λ s s:=⟨h,d,Lu.refl _ _⟩
def Kp.trans{s1 s2}(h:Kp Λ s s1)(k:Kp Λ s1 s2):Kp Λ s s2:=⟨k.ok,k.new,h.run.trans k.run⟩
def ie(h:Ok s)(y:∀n,¬s.u n->Λ n):Holds lC s λv s'=>Kp Λ s s'/\cy Λ s' (.var v)/\s'.k=s.k:=λv s' q=>by
 obtain⟨w,l,q⟩:=q;injection q with q;injection q with j d;subst j;subst d;have o:=h.out v l;refine⟨⟨⟨λn q=>h.out n λq'=>q<|ja q',λm n j d=>?_,h.idem⟩,λn q=>y n λq'=>q<|ja q',⟨λn q=>ja q,Ty.var,λ_=>(cM _).symm,λ_ _=>rfl,λm n h k=>by simp[aA]at k;subst k;exact h⟩⟩,⟨λn q=>?_,λn q=>?_⟩,rfl⟩
 .obtain j|rfl:=j
  .exact ja (h.use m n j d)
  .rw[o]at d;simp[aA]at d;exact jc d.symm
 .simp[aA]at q;exact jc q.symm
 .simp only[j3,o]at q;simp[aA]at q;subst q;exact y _ l
def fE(h:Ok s)(G:∀n,¬s.u n->Λ n)(B:cy Λ s a)(E:cy Λ s b)f t:Holds (tG a b f t) s λ_ s'=>Kp Λ s s'/\sub s'.k a=sub s'.k b:=λv s' q=>by
 obtain⟨_,q⟩|⟨_,_,⟨θ,d,q⟩|⟨_,q⟩⟩:=q
 .cases q
 .injection q with q;injection q with y l;subst l;have j:∀n,aA n (sub s.k a)\/aA n (sub s.k b)->s.u n/\s.k n=.var n/\Λ n:=λn q=>by
   obtain q|q:=q
   .exact⟨(h.nR B.use q).1,(h.nR B.use q).2,B.loc n q⟩
   .exact⟨(h.nR E.use q).1,(h.nR E.use q).2,E.loc n q⟩
  have F:∀v n,aA n (θ v)->n=v\/(aA n (sub s.k a)\/aA n (sub s.k b)):=λv n q=>by
   by_cases e:aA v (sub s.k a)\/aA v (sub s.k b)
   .exact jc (d.rng v n e q)
   .rw[d.out v (λq=>e<|ja q)<|λq=>e<|jc q]at q;simp[aA]at q;exact ja q.symm
  refine⟨⟨⟨λv q=>?_,λv n y l=>?_,λv n q=>?_⟩,G,⟨λn q=>q,θ,λ_=>rfl,λv q=>?_,λv n y l=>?_⟩⟩,?_⟩
  .show sub θ (s.k v)=_;rw[h.out v q,j3];exact d.out v (λq'=>q (j v<|ja q').1)<|λq'=>q (j v<|jc q').1
  .have⟨m,z,o⟩:=(bS _).1 l;obtain rfl|e:=F m n o
   .exact h.use v n y z
   .exact(j n e).1
  .have⟨m,z,o⟩:=(bS _).1 q;have:s.k n=.var n:=by
    obtain rfl|e:=F m n o
    .exact h.idem v n z
    .exact(j n e).2.1
   show sub θ (s.k n)=_;rw[this,j3];exact d.fix o
  .exact d.out v (λq'=>q (j v<|ja q').2.2) (λq'=>q (j v<|jc q').2.2)
  .grind
  .have e:∀x,sub (λv=>sub θ<|s.k v) x=sub θ (sub s.k x):=λx=>(sub_sub _ _ x).symm;show sub (λv=>sub θ<|s.k v) a=sub (λv=>sub θ<|s.k v) b;rw[e,e];exact d.one
 .cases q
def s_(h:Ok s)(B:∀n,¬s.u n->Λ n)l ρ:Holds (r9 l ρ) s λiU s'=>Kp Λ s s'/\Ck l ρ iU s.u s'.u/\s'.k=s.k:=λiU s' q=>by
 obtain⟨bI,u',j,q⟩:=q;injection q with q;injection q with o d;subst o;subst d;refine⟨⟨⟨λn q=>h.out n λq'=>q<|(j.use n).2<|ja q',λm n o d=>(j.use n).2 ?_,h.idem⟩,λn q=>B n λq'=>q<|(j.use n).2<|ja q',⟨λn q=>(j.use n).2<|ja q,Ty.var,λ_=>(cM _).symm,λ_ _=>rfl,λm n h k=>by simp[aA]at k;subst k;exact h⟩⟩,j,rfl⟩;obtain o|⟨v,y,z⟩:=(j.use m).1 o
 .exact ja (h.use m n o d)
 .have:s.k m=.var m:=h.out m<|j.new v m y z;have d:=d;rw[this]at d;simp[aA]at d;subst d;exact jc ⟨v,y,z⟩
end
structure iu(Λ:Nat->Prop)(s:St)(ρ:Rn):Prop where
 use:∀v n,ρ v=ea n->s.u n
 loc:∀v n m,ρ v=ea n->aA m (s.k n)->Λ m
def iu.run{s s':St}{ρ:Rn}(h:iu Λ s ρ)(r:Lu Λ s s'):iu Λ s' ρ:=by
 have⟨θ,d,a2,j⟩:=r.step;refine⟨λv n q=>r.mono n<|h.use v n q,λv n m q1 q2=>?_⟩;rw[d]at q2;have⟨x,l,o⟩:=(bS _).1 q2;exact j x m (h.loc v n x q1 l) o
def iu.draw{s s':St}{ρ d:Rn}{l}(h:iu Λ s ρ)(y:Ok s)(z:∀n,¬s.u n->Λ n)(B:Kp Λ s s')(j:Ck l ρ d s.u s'.u)(e:s'.k=s.k):iu Λ s' d:=by
 refine⟨λv n q=>?_,λv n m q1 q2=>?_⟩
 .cases e1:ρ v with
  |none=>exact(j.use n).2 (jc ⟨v,e1,q⟩)|some n'=>have:=j.fV v n' e1;rw[this]at q;injection q with q;subst q;exact B.run.mono _<|h.use v _ e1
 .cases e1:ρ v with
  |none=>
   have o:=j.new v n e1 q1;rw[e,y.out n o]at q2;simp[aA]at q2;subst q2;exact z n o
  |some n'=>have:=j.fV v n' e1;rw[this]at q1;injection q1 with q1;subst q1;rw[e]at q2;exact h.loc v _ m e1 q2
def iu.zero Λ s:iu Λ s Bt:=⟨λv n q=> iP,λv n m q=> iP⟩
def iu.ty{s:St}{ρ:Rn}(h:iu Λ s ρ)(ht:∀v,aA v t->ρ v≠fa):cy Λ s (sub (via ρ) t):=by
 refine⟨λn hn=>?_,λn hn=>?_⟩
 .have⟨m,j,d⟩:=(bS _).1 hn
  cases e:ρ m with
  |none=>grind|some x=>simp[via,e,aA]at d;subst d;exact h.use m _ e
 .rw[sub_sub]at hn;have⟨m,j,d⟩:=(bS _).1 hn
  cases e:ρ m with
  |none=>grind|some x=>simp only[via,e,j3]at d;exact h.loc m x n e d
end In
namespace In
def aE:n∈vars [] t↔aA n t:=by simp[bC]
section
variable {s:St}
def sE(h:Ok s)(l:∀n,¬s.u n->Λ n){ρ}(d:iu Λ s ρ)t:Holds (qD t ρ) s λq s'=>Kp Λ s s'/\cy Λ s' q.1/\iu Λ s' q.2:=by
 refine(s_ h l _ _).and λiU s1⟨k1,d1,e1⟩=>?_;have j:=d.draw h l k1 d1 e1;exact .ret ⟨k1,j.ty<|λv hv=>d1.all v<|aE.2 hv,j⟩
def bL{c:BA}:cy Λ s (.aM c []):=⟨λn q=>(by simp[aA,bZ]at q),λn q=>(by simp[j3,aU,aA,bZ]at q)⟩
def dY{c:BA}(d:cy Λ s a)(j:cy Λ s b):cy Λ s (.aM c [a,b]):=by
 refine⟨λn q=>?_,λn q=>?_⟩
 .simp[aA,bZ]at q;exact q.elim (d.use n)<|j.use n
 .simp[j3,aU,aA,bZ]at q;exact q.elim (d.loc n)<|j.loc n
def jM(h:vars [] t=[]):cy Λ s t:=by
 have d:∀n,¬aA n t:=λn q=>by have:=aE.2 q;rw[h]at this;simp at this
 refine⟨λn q=>absurd q<|d n,λn q=>?_⟩;have⟨m,j,_⟩:=(bS t).1 q;exact absurd j<|d m
def Fg(h:Ok s)(I:∀n,¬s.u n->Λ n){Γ:Env}(E:bA Λ s Γ)x f t:Holds (rY Γ x f t) s λq s'=>Kp Λ s s'/\cy Λ s' q:=by
 unfold rY
 cases e:Γ x with
 |none=>exact .no|some c=>
  intro a s' q;obtain⟨_,q⟩|⟨_,ρ,s1,J,l⟩:=q
  .cases q
  .have⟨F,o,O⟩:=s_ h I _ _ _ _ J;injection l with l;injection l with l U;subst l;subst U;have hc:=E x c e;have z:∀v,v∉c.any->ρ v=fa:=λv hv=>o.out v hv;refine⟨F,λn hn'=>?_,λn hn'=>?_⟩
   .have⟨m,B,d⟩:=(bS _).1 hn';by_cases j:m∈c.any
    .cases e2:ρ m with
     |none=>exact absurd e2 (o.all m j)|some y=>simp[via,e2,aA]at d;subst d;exact(o.use _).2 (jc ⟨m,rfl,e2⟩)
    .simp[via,z m j,aA]at d;subst d;exact F.run.mono _ (h.nR hc.use B).1
   .rw[sub_sub,O]at hn';have⟨m,B,d⟩:=(bS _).1 hn';by_cases j:m∈c.any
    .cases e2:ρ m with
     |none=>exact absurd e2 (o.all m j)|some y=>
      have G:=o.new m y rfl e2;simp only[via,e2,j3,h.out y G]at d;simp[aA]at d;subst d;exact I _ G
    .simp only[via,z m j,j3,(h.nR hc.use B).2]at d;simp[aA]at d;subst d;exact(hc.loc m B).resolve_left j
end
def Ap(p:PM):=∀(g:Env)(s:St)(Λ:Nat->Prop),Ok s->(∀n,¬s.u n->Λ n)->bA Λ s g->Holds (p g) s λq s'=>Kp Λ s s'/\cy Λ s' q.1/\bA Λ s' q.2
def nJ(p:EM):=∀(Γ:Env)(s:St)(Λ:Nat->Prop),Ok s->(∀n,¬s.u n->Λ n)->bA Λ s Γ->Holds (p Γ) s λt s'=>Kp Λ s s'/\cy Λ s' t
def ye{p:Prop}(h:p:=by
 rw[jo,jt hi];exact h _<|jy hi):p:=h
def RB{p:Prop}(h:p:=by
 rw[jo,ju ae];intro _ _ _ _ _ _;exact .no):p:=h
def adH{ps}(h:∀p∈ps,Ap p)i:Ap (dB ps i):=by
 unfold dB;by_cases hi:i<ps.length
 .exact ye
 .exact RB
def ZB{ps}(h:∀p∈ps,nJ p)i:nJ (dB ps i):=by
 unfold dB;by_cases hi:i<ps.length
 .exact ye
 .exact RB
def Kw:∀(tk:List Ty)(L:List Nd)(ps:List PM),(∀p∈ps,Ap p)->∀(g:Env)(ρ:Rn)(s:St)(Λ:Nat->Prop),Ok s->(∀n,¬s.u n->Λ n)->bA Λ s g->iu Λ s ρ->Holds (me tk L ps g ρ) s λq s'=>Kp Λ s s'/\bA Λ s' q.1/\iu Λ s' q.2
 |u::tk,x::L,p::ps,hp,g,ρ,s,Λ,h,hn,hg,hρ=>by
  unfold me;refine(hp p ag g s Λ h hn hg).and λq s1⟨k1,t1,g1⟩=>?_;refine(sE k1.ok k1.new (hρ.run k1.run) u).and λi s2⟨k2,t2,r2⟩=>?_;refine(fE k2.ok k2.new (t1.run k2.run) t2 _ _).and λ_ s3⟨k3,_⟩=>?_;refine(Kw tk L ps (λp h=>hp p<|by simp[h]) q.2 i.2 s3 Λ k3.ok k3.new ((g1.run k2.run).run k3.run)<|r2.run k3.run).imp λ_ s4⟨k4,r4⟩=>?_;exact⟨((k1.trans k2).trans k3).trans k4,r4⟩
 |[],_,_,_,g,ρ,s,Λ,h,hn,hg,hρ=>.ret ⟨.refl h hn,hg,hρ⟩|_::_,[],_,_,g,ρ,s,Λ,h,hn,hg,hρ=>.ret ⟨.refl h hn,hg,hρ⟩|_::_,_::_,[],_,g,ρ,s,Λ,h,hn,hg,hρ=>.ret ⟨.refl h hn,hg,hρ⟩
def UC mk k x L ps(l:∀p∈ps,Ap p):Ap (tZ mk k x L ps):=by
 intro g s Λ h d j;unfold tZ;split
 .exact(ie h d).and λv s1⟨k1,t1,_⟩=>.ret ⟨k1,t1,j.run k1.run⟩
 split
 .exact(ie h d).and λv s1⟨k1,t1,_⟩=>.ret ⟨k1,t1,(j.run k1.run).set _ t1.mono⟩
 split
 .exact .ret ⟨.refl h d,bL,j⟩
 split
 .exact .ret ⟨.refl h d,bL,j⟩
 split
 .exact .ret ⟨.refl h d,bL,j⟩
 split
 .refine(adH l 0 g s Λ h d j).and λa s1⟨k1,t1,g1⟩=>?_;refine(adH l 1 _ s1 Λ k1.ok k1.new g1).and λb s2⟨k2,t2,g2⟩=>?_;exact .ret ⟨k1.trans k2,dY (t1.run k2.run) t2,g2⟩
 cases mk x with
 |none=>exact .no|some p=>
  refine(Kw p.1 L ps l g Bt s Λ h d j<|.zero _ _).and λq s1⟨k1,g1,r1⟩=>?_;refine(sE k1.ok k1.new r1 p.2).and λi s2⟨k2,t2,_⟩=>?_;exact .ret ⟨k1.trans k2,t2,g1.run k2.run⟩
mutual
def uv(mk:Mks):∀nd,Ap<|dG mk nd
 |.mk k s n L f t a=>UC mk k s L _<|Aq mk L
def Aq(mk:Mks):∀L,∀p∈nC mk L,Ap p
 |[],p,h=>by simp[nC]at h|x::l,p,h=>by
  simp only[nC,jp]at h;obtain rfl|h:=h
  .exact uv mk x
  .exact Aq mk l p h
end
def Kx(mk:Mks):∀(L:List Nd)(ps:List EM),(∀p∈ps,nJ p)->∀(Γ:Env)(t r:Ty)(s:St)(Λ:Nat->Prop),Ok s->(∀n,¬s.u n->Λ n)->bA Λ s Γ->cy Λ s t->cy Λ s r->Holds (nI mk Γ t r L ps) s λ_ s'=>Kp Λ s s'
 |p::e::L,_::pe::ps,hp,Γ,t,r,s,Λ,h,hn,hΓ,ht,hr=>by
  unfold nI;refine(uv mk p _ s Λ h hn<|.none _ _).and λq s1⟨k1,t1,g1⟩=>?_;refine(fE k1.ok k1.new (ht.run k1.run) t1 _ _).and λ_ s2⟨k2,_⟩=>?_;have j:=k1.trans k2;refine(hp pe ag _ s2 Λ k2.ok k2.new<|(g1.run k2.run).over<|hΓ.run j.run).and λu s3⟨k3,t3⟩=>?_;have l:=j.trans k3;refine(fE k3.ok k3.new (hr.run l.run) t3 _ _).and λ_ s4⟨k4,_⟩=>?_;have d:=l.trans k4;exact(Kx mk L ps (λp h=>hp p<|by simp[h]) Γ t r s4 Λ k4.ok k4.new (hΓ.run d.run) (ht.run d.run)<|hr.run d.run).imp λ_ s5 k5=>d.trans k5
 |[],_,_,_,_,_,s,Λ,h,hn,_,_,_=>.ret (.refl h hn)|[_],_,_,_,_,_,s,Λ,h,hn,_,_,_=>.ret (.refl h hn)|_::_::_,[],_,_,_,_,s,Λ,h,hn,_,_,_=>.ret (.refl h hn)|_::_::_,[_],_,_,_,_,s,Λ,h,hn,_,_,_=>.ret<|.refl h hn
def kP rc x e{l:EM}(o:nJ l):nJ (cG rc x e l):=by
 intro Γ s Λ h j d;unfold cG;split
 .refine(ie h j).and λv s1⟨k1,t1,_⟩=>?_;refine(o _ s1 Λ k1.ok k1.new<|(d.run k1.run).set _ t1.mono).and λt s2⟨k2,t2⟩=>?_;refine(fE k2.ok k2.new (t1.run k2.run) t2 _ _).and λ_ s3⟨k3,_⟩=>?_;exact .ret ⟨(k1.trans k2).trans k3,t2.run k3.run⟩
 .exact o Γ s Λ h j d
def less(Λ:Nat->Prop)(l:List Nat):Nat->Prop:=λn=>Λ n/\n∉l
section
variable {s:St}
def DF{Γ:Env}{k}{v}(h:n∈(iq Γ k t v).any):aA n (sub k t)/\¬uX Γ k n:=by
 rw[iq]at h
 cases v with
 |false=>simp at h|true=>simp[yl]at h;exact⟨aE.1 h.1,h.2⟩
def xI(h:Ok s)(B:∀n,¬s.u n->Λ n){Γ:Env}(z:bA Λ s Γ)(o:cy Λ s t)(rc:Bool)x v:
 bA (less Λ (iq (if rc then lN Γ x else Γ) s.k t v).any) s (cV Γ x<|iq (if rc then lN Γ x else Γ) s.k t v)/\∀n,¬s.u n->less Λ (iq (if rc then lN Γ x else Γ) s.k t v).any n:=by
 have j:∀n,n∈(iq (if rc then lN Γ x else Γ) s.k t v).any->aA n (sub s.k t)/\¬uX (if rc then lN Γ x else Γ) s.k n:=λn q=>DF q;have d:(iq (if rc then lN Γ x else Γ) s.k t v).of=sub s.k t:=rfl;generalize iq (if rc then lN Γ x else Γ) s.k t v=S at j d⊢;obtain⟨T,A⟩:=S;simp only at j d⊢;subst d;refine⟨λy c e=>?_,λn q=>⟨B n q,λq'=>q (h.nR o.use (j n q').1).1⟩⟩;rw[cV]at e;split at e
 .injection e with e;subst e;refine⟨λn q=>(h.nR o.use q).1,λn q=>?_,λn q=>⟨(h.nR o.use (j n q).1).2,λq'=>q'.2 q⟩,λn q=>(j n q).1⟩;by_cases l:n∈A
  .exact ja l
  .have q:=q;rw[h.qE]at q;exact jc ⟨o.loc n q,l⟩
 .rename_i hyx;have hc:=z y c e;refine⟨hc.use,λn q=>?_,λn q=>⟨(hc.fix n q).1,λq'=>(hc.fix n q).2 q'.1⟩,hc.sub⟩;by_cases l:n∈c.any
  .exact ja l
  .refine jc ⟨(hc.loc n q).resolve_left l,λq'=>(j n q').2 ⟨y,c,?_,q,l⟩⟩
   cases rc with
   |true=>simp only[if_true];rw[lN];rw[if_neg hyx];exact e|false=>exact e
def C6 rc x e{j l:EM}(B:nJ j)(E:nJ l):nJ (nK rc x e j l):=by
 intro Γ s Λ h o d;rw[nK];refine(kP rc x e B Γ s Λ h o d).and λt s1⟨k1,t1⟩=>?_;have⟨y,z⟩:=xI k1.ok k1.new (d.run k1.run) t1 rc x<|xD e;refine Holds.imp (E _ s1 _ k1.ok z y) λu s2⟨k2,t2⟩=>?_;exact⟨k1.trans ⟨k2.ok,λn q=>(k2.new n q).1,k2.run.wide λn q=>q.1⟩,t2.use,λn q=>(t2.loc n q).1⟩
end
def dA{c:Prop}[Decidable c]{m m'}{s:St}{Q:α->St->Prop}(h:c->Holds m s Q)(k:¬c->Holds m' s Q):Holds (if c then m else m') s Q:=BS
def UD mk k x L f t ps(z:∀p∈ps,nJ p):nJ (ls mk k x L f t ps):=by
 intro Γ s Λ h l d;have o:=ZB z 0;have u:=ZB z 1;have B:=ZB z 2;unfold ls;refine dA (λ_=>?_) λ_=>?_
 .exact Fg h l d _ _ _
 refine dA (λ_=>?_) λ_=>?_
 .unfold upM
  cases mk x with
  |none=>exact .no|some p=>exact(sE h l (.zero _ _) _).and λq s1⟨k1,t1,_⟩=>.ret ⟨k1,t1⟩
 refine dA (λ_=>?_) λ_=>?_
 .exact .ret ⟨.refl h l,bL⟩
 refine dA (λ_=>?_) λ_=>?_
 .exact .ret ⟨.refl h l,bL⟩
 refine dA (λ_=>?_) λ_=>?_
 .exact .ret ⟨.refl h l,bL⟩
 refine dA (λ_=>?_) λ_=>?_
 .refine(o Γ s Λ h l d).and λa s1⟨k1,t1⟩=>?_;refine(u Γ s1 Λ k1.ok k1.new<|d.run k1.run).and λb s2⟨k2,t2⟩=>?_;exact .ret ⟨k1.trans k2,dY (t1.run k2.run) t2⟩
 refine dA (λ_=>?_) λ_=>?_
 .split
  .rename_i hs;refine(o Γ s Λ h l d).and λa s1⟨k1,t1⟩=>?_;refine(fE k1.ok k1.new t1 (jM hs) _ _).and λ_ s2⟨k2,_⟩=>?_;exact .ret ⟨k1.trans k2,jM hs⟩
  .exact .no
 refine dA (λ_=>?_) λ_=>?_
 .refine(o Γ s Λ h l d).and λa s1⟨k1,t1⟩=>?_;refine(fE k1.ok k1.new t1 bL _ _).and λ_ s2⟨k2,_⟩=>?_;have j:=k1.trans k2;refine(u Γ s2 Λ k2.ok k2.new<|d.run j.run).and λb s3⟨k3,t3⟩=>?_;refine(fE k3.ok k3.new t3 bL _ _).and λ_ s4⟨k4,_⟩=>?_;refine .ret ⟨(j.trans k3).trans k4,?_⟩;split<;>exact bL
 refine dA (λ_=>?_) λ_=>?_
 .refine(o Γ s Λ h l d).and λa s1⟨k1,t1⟩=>?_;refine(u Γ s1 Λ k1.ok k1.new<|d.run k1.run).and λb s2⟨k2,t2⟩=>?_;refine(ie k2.ok k2.new).and λv s3⟨k3,t3,_⟩=>?_;refine(fE k3.ok k3.new ((t1.run k2.run).run k3.run) (dY (t2.run k3.run) t3) _ _).and λ_ s4⟨k4,_⟩=>?_;exact .ret ⟨((k1.trans k2).trans k3).trans k4,t3.run k4.run⟩
 refine dA (λ_=>?_) λ_=>?_
 .refine(ie h l).and λv s1⟨k1,t1,_⟩=>?_;refine(o _ s1 Λ k1.ok k1.new<|(d.run k1.run).set _ t1.mono).and λa s2⟨k2,t2⟩=>?_;exact .ret ⟨k1.trans k2,dY (t1.run k2.run) t2⟩
 refine dA (λ_=>?_) λ_=>?_
 .exact C6 _ _ _ o u Γ s Λ h l d
 refine dA (λ_=>?_) λ_=>?_
 .exact C6 _ _ _ o u Γ s Λ h l d
 refine dA (λ_=>?_) λ_=>?_
 .refine(o Γ s Λ h l d).and λa s1⟨k1,t1⟩=>?_;refine(fE k1.ok k1.new t1 bL _ _).and λ_ s2⟨k2,_⟩=>?_;have j:=k1.trans k2;refine(u Γ s2 Λ k2.ok k2.new<|d.run j.run).and λb s3⟨k3,t3⟩=>?_;have y:=j.trans k3;refine(B Γ s3 Λ k3.ok k3.new<|d.run y.run).and λc s4⟨k4,t4⟩=>?_;refine(fE k4.ok k4.new (t3.run k4.run) t4 _ _).and λ_ s5⟨k5,_⟩=>?_;exact .ret ⟨(y.trans k4).trans k5,(t3.run k4.run).run k5.run⟩
 refine dA (λ_=>?_) λ_=>?_
 .refine(o Γ s Λ h l d).and λa s1⟨k1,t1⟩=>?_;refine(ie k1.ok k1.new).and λv s2⟨k2,t2,_⟩=>?_;have j:=k1.trans k2;refine(Kx mk L.tail ps.tail (λp h=>z p<|List.mem_of_mem_tail h) Γ a _ s2 Λ k2.ok k2.new (d.run j.run) (t1.run k2.run) t2).and λ_ s3 k3=>?_;exact .ret ⟨j.trans k3,t2.run k3.run⟩
 .exact .no
mutual
def oj(mk:Mks):∀nd,nJ<|inf mk nd
 |.mk k s n L f t a=>UD mk k s L f t _<|C7 mk L
def C7(mk:Mks):∀L,∀p∈pM mk L,nJ p
 |[],p,h=>by simp[pM]at h|x::l,p,h=>by
  simp only[pM,jp]at h;obtain rfl|h:=h
  .exact oj mk x
  .exact C7 mk l p h
end
end In
namespace In
structure Rel(D:Nat->Prop)(ρ:Nat->Nat)(s s':St):Prop where
 live:∀n,D n->s.u n->s.k n=.var n->s'.u (ρ n)/\s'.k (ρ n)=.var (ρ n)
 inj:∀m n,D m->D n->s.u m->s.k m=.var m->s.u n->s.k n=.var n->ρ m=ρ n->m=n
def kE(ρ:Nat->Nat)(s s':St)(t t':Ty):Prop:=sub s'.k t'=sub (pA ρ) (sub s.k t)
structure Kz(D:Nat->Prop)ρ s s'(c c':Lp):Prop where
 of:kE ρ s s' c.of c'.of
 any:c'.any=c.any.map ρ
 dom:∀v,v∈c.any->D v
def gI D ρ s s'(Γ d:Env):=∀y,(Γ y=fa/\d y=fa)\/∃c c',Γ y=ea c/\d y=ea c'/\Kz D ρ s s' c c'
structure uN D Λ cE ρ s s' bI s1 Bm:Prop where
 kp:Kp Λ s s1
 iS:Kp cE s' Bm
 rel:Rel D bI s1 Bm
 ty:∀t t',(∀n,aA n t->s.u n)->(∀n,aA n (sub s.k t)->D n)->kE ρ s s' t t'->kE bI s1 Bm t t'
 any:∀n,s.u n->s.k n=.var n->D n->¬Λ n->bI n=ρ n
 dom:∀n,Λ n->D n
section
variable {nV:Nat->Nat} {s s' s1 Bm s2 s2':St}
def uN.refl(j:∀n,Λ n->D n)(h:Ok s)(l:∀n,¬s.u n->Λ n)(o:Ok s')(d:∀n,¬s'.u n->cE n)(r:Rel D ρ s s'):uN D Λ cE ρ s s' ρ s s':=⟨.refl h l,.refl o d,r,λ_ _ _ _ h=>h,λ_ _ _ _ _=>rfl,j⟩
def Kp.fix(k:Kp Λ s s1)(h:s.k n=.var n)(l:¬Λ n):s1.k n=.var n:=by
 have⟨θ,d,j,_⟩:=k.run.step;rw[d,h,j3,j n l]
def Kp.dom(k:Kp Λ s s1)(hD:∀n,Λ n->D n)(h:∀n,aA n (sub s.k t)->D n)n(j:aA n (sub s1.k t)):D n:=by
 have⟨θ,l,o,a3⟩:=k.run.step;rw[Ff l]at j;have⟨m,u,d⟩:=(bS _).1 j;by_cases e:Λ m
 .grind
 .rw[o m e]at d;simp[aA]at d;subst d;exact h m u
def uN.trans(h:uN D Λ cE ρ s s' bI s1 Bm)(k:uN D Λ cE bI s1 Bm nV s2 s2'):uN D Λ cE ρ s s' nV s2 s2':=
 ⟨h.kp.trans k.kp,h.iS.trans k.iS,k.rel,λt t' q d r=>k.ty t t' (λn hn=>h.kp.run.mono n<|q n hn) (h.kp.dom h.dom d)<|h.ty t t' q d r,λn a b d c=>by
  rw[k.any n (h.kp.run.mono n a) (h.kp.fix b c) d c,h.any n a b d c],h.dom⟩
def cy.dom(h:cy Λ s t)(d:∀n,Λ n->D n):∀n,aA n (sub s.k t)->D n:=λn hn=>d n<|h.loc n hn
def uN.o5(h:uN D Λ cE ρ s s' bI s1 Bm)(d:cy Λ s t)(r:kE ρ s s' t t'):kE bI s1 Bm t t':=h.ty t t' d.use (d.dom h.dom) r
def Kz.e8{c d:Lp}(h:Kz D ρ s s' c d)(hc:nH Λ s c)(k:uN D Λ cE ρ s s' bI s1 Bm):Kz D bI s1 Bm c d:=
 ⟨k.ty _ _ hc.use (λn hn=>(hc.loc n hn).elim (h.dom n)<|k.dom n) h.of,by
  rw[h.any]
  exact jx λv hv=>(k.any v (hc.use v<|hc.sub v hv) (hc.fix v hv).1 (h.dom v hv) (hc.fix v hv).2).symm,h.dom⟩
def gI.e8{Γ Lz}(h:gI D ρ s s' Γ Lz)(hc:bA Λ s Γ)(k:uN D Λ cE ρ s s' bI s1 Bm):gI D bI s1 Bm Γ Lz:=λy=>by
 obtain q|⟨c,j,d,l,o⟩:=h y
 .exact ja q
 .exact jc ⟨c,j,d,l,o.e8 (hc y c d) k⟩
def gI.set{Γ d:Env}(h:gI D ρ s s' Γ d)x{c j:Lp}(hc:Kz D ρ s s' c j):gI D ρ s s' (cV Γ x c) (cV d x j):=λy=>by
 unfold cV;by_cases e:y=x
 .grind
 .rw[if_neg e,if_neg e];exact h y
def gI.del{Γ d:Env}(h:gI D ρ s s' Γ d)x:gI D ρ s s' (lN Γ x) (lN d x):=by grind[gI,lN]
theorem gI.over{g g' Γ Lz}(hg:gI D ρ s s' g g')(h:gI D ρ s s' Γ Lz):gI D ρ s s' (over g Γ) (over g' Lz):=by grind[gI,over]
def gI.none:gI D ρ s s' (λ_=>fa) (λ_=>fa):=by grind[gI]
def kE.mono(h:kE ρ s s' t t'):Kz D ρ s s' (mono t) (mono t'):=⟨h,rfl,λv hv=>(by simp at hv)⟩
def kE.aM c:kE ρ s s' (.aM c []) (.aM c []):=by simp[kE,j3,aU]
def kE.two c(d:kE ρ s s' a a')(j:kE ρ s s' b b'):kE ρ s s' (.aM c [a,b]) (.aM c [a',b']):=by
 simp only[kE,j3,aU]at d j⊢;rw[d,j]
def kE.shut(h:vars [] t=[]):kE ρ s s' t t:=by
 have d:∀n,¬aA n t:=λn q=>by have:=aE.2 q;rw[h]at this;simp at this
 rw[kE];rw[gZ (σ:=s'.k) λn q=>absurd q<|d n,gZ (σ:=s.k) λn q=>absurd q<|d n,gZ (σ:=pA ρ) λn q=>absurd q<|d n]
theorem kE.size(h:kE ρ s s' t t'):size (sub s'.k t')=size (sub s.k t):=by rw[h,GP]
end
def FtR pl(x d:Ft):=x.f.kind=d.f.kind/\(pl->x.f=d.f)/\∃ρ:Nat->Nat,(∀m n,(aA m x.l\/aA m x.r)->(aA n x.l\/aA n x.r)->ρ m=ρ n->m=n)/\d.l=sub (pA ρ) x.l/\d.r=sub (pA ρ) x.r
def aiM{α β:Type}(pl:Prop)(Q:α->St->β->St->Prop):Except Ft (α×St)->Except Ft (β×St)->Prop
 |.ok (a,s),.ok (b,s')=>Q a s b s'|.error x,.error x'=>FtR pl x x'|_,_=>False
def kH{α β:Type}pl(m:MM α)(d:MM β)s s' Q:=∀o o',m s o->d s' o'->aiM pl Q o o'
section
variable {γ δ:Type} {s s':St}
def kH.ret{a}{b}{Q:α->St->β->St->Prop}(h:Q a s b s'):kH pl (dl a) (dl b) s s' Q:=λo o' q q'=>by
 rw[dl]at q q';subst q;subst q';exact h
def kH.and{m}{m'}{g}{g'}{Q:α->St->β->St->Prop}{R:γ->St->δ->St->Prop}(h:kH pl m m' s s' Q)(k:∀a t b t',Q a t b t'->kH pl (g a) (g' b) t t' R):kH pl (andM m g) (andM m' g') s s' R:=λo o' q q'=>by
 obtain⟨x,q1,rfl⟩|⟨a,t,q1,q2⟩:=q<;>obtain⟨x',d,rfl⟩|⟨a',t',d,j⟩:=q'
 .exact h _ _ q1 d
 .exact(h _ _ q1 d).elim
 .exact(h _ _ q1 d).elim
 .exact k _ _ _ _ (h _ _ q1 d) _ _ q2 j
def kH.no{Q:α->St->β->St->Prop}{m'}:kH pl noM m' s s' Q:=λ_ _ q=>q.elim
def kH.imp{m}{m'}{Q R:α->St->β->St->Prop}(h:kH pl m m' s s' Q)(k:∀a t b t',Q a t b t'->R a t b t'):kH pl m m' s s' R:=λo o' q q'=>by
 have:=h o o' q q'
 match o,o',this with
 |.ok (a,t),.ok (b,t'),w=>exact k _ _ _ _ w|.error _,.error _,w=>exact w
def kH.ite{c:Prop}[Decidable c]{m n}{m' n'}{Q:α->St->β->St->Prop}(h:c->kH pl m m' s s' Q)(k:¬c->kH pl n n' s s' Q):kH pl (if c then m else n) (if c then m' else n') s s' Q:=BS
end
structure pW(D Λ cE:Nat->Prop)ρ s s':Prop where
 dom:∀n,Λ n->D n
 ok:Ok s
 new:∀n,¬s.u n->Λ n
 LF:Ok s'
 UE:∀n,¬s'.u n->cE n
 rel:Rel D ρ s s'
def uN.both{s s' s1 Bm:St}(h:uN D Λ cE ρ s s' bI s1 Bm):pW D Λ cE bI s1 Bm:=⟨h.dom,h.kp.ok,h.kp.new,h.iS.ok,h.iS.new,h.rel⟩
def pW.refl{D Λ cE}{ρ}{s s'}(h:pW D Λ cE ρ s s'):uN D Λ cE ρ s s' ρ s s':=.refl h.dom h.ok h.new h.LF h.UE h.rel
section
variable {s s':St}
def uO{ρ iU}(h:∀n,aA n t->ρ n=iU n):sub (pA ρ) t=sub (pA iU) t:=by grind[aA,sub,sub_congr]
def lm σ ρ u:sub σ (sub (pA ρ) u)=sub (λn=>σ<|ρ n) u:=by rw[sub_sub];rfl
def my(h:pW D Λ cE ρ s s'):kH pl lC lC s s' λv t v' t'=>∃bI,uN D Λ cE ρ s s' bI t t'/\cy Λ t (.var v)/\cy cE t' (.var v')/\kE bI t t' (.var v) (.var v'):=λo o' q q'=>by
 obtain⟨v,hv,rfl⟩:=q;obtain⟨v',d,rfl⟩:=q';have⟨y,z,e1⟩:=ie h.ok h.new v _ ⟨v,hv,rfl⟩;have⟨l,u,e1'⟩:=ie h.LF h.UE v' _ ⟨v',d,rfl⟩;refine⟨λn=>if n=v then v' else ρ n,⟨y,l,⟨λn q0 q1 q2=>?_,λm n g1 g2 a1 a2 b1 b2 e=>?_⟩,λt t' q _ r=>?_,λn q1 q2 _ q3=>?_,h.dom⟩,z,u,?_⟩
 .by_cases e:n=v
  .subst e;simp;exact h.LF.out v' d
  .have q1:=q1.resolve_right e;have:=h.rel.live n q0 q1 q2;simp[e];exact⟨ja this.1,this.2⟩
 .by_cases j:m=v<;>by_cases en:n=v
  .rw[j,en]
  .simp[j,en]at e;have:=h.rel.live n g2 (b1.resolve_right en) b2;rw[<-e]at this;exact absurd this.1 d
  .simp[j,en]at e;have:=h.rel.live m g1 (a1.resolve_right j) a2;rw[e]at this;exact absurd this.1 d
  .simp[j,en]at e;exact h.rel.inj m n g1 g2 (a1.resolve_right j) a2 (b1.resolve_right en) b2 e
 .rw[kE]at r⊢;show sub s'.k t'=sub _ (sub s.k t);rw[r];refine uO λn hn=>?_;have:n≠v:=λe=>hv<|e▸(h.ok.nR q hn).1;simp[this]
 .grind
 .show sub s'.k (.var v')=sub _ (sub s.k<|.var v);simp[j3,h.ok.out v hv,h.LF.out v' d,pA]
def RC{p:Prop}(h:p:=by
 refine⟨rfl,λp=>?_,λn=>n,λm n _ _ e=>e,?_,?_⟩
 .grind
 .simp[p9,j3,pA]
 .simp[p9,j3,pA]):p:=h
def im(h:pW D Λ cE ρ s s')(X:cy Λ s a)(Y:cy Λ s b)(Z:cy cE s' a')(a0:cy cE s' b')(J:kE ρ s s' a a')(rb:kE ρ s s' b b'){t t'}(hp:pl->f=f'/\t=t'):
 kH pl (tG a b f t) (tG a' b' f' t') s s' λ_ t _ t'=>∃bI,uN D Λ cE ρ s s' bI t t':=λo o' q q'=>by
 have za:=J.size;have zb:=rb.size;have G:∀n,aA n (sub s.k a)\/aA n (sub s.k b)->s.u n/\s.k n=.var n:=λn q=>by
  obtain q|q:=q
  .exact h.ok.nR X.use q
  .exact h.ok.nR Y.use q
 have I:∀n,aA n (sub s.k a)\/aA n (sub s.k b)->D n:=λn q=>q.elim (X.dom h.dom n)<|Y.dom h.dom n;have U:∀n,aA n (sub s'.k a')\/aA n (sub s'.k b')->s'.u n/\s'.k n=.var n:=λn q=>by
  obtain q|q:=q
  .exact h.LF.nR Z.use q
  .exact h.LF.nR a0.use q
 have hK:=λθ(j:wY θ (sub s.k a) (sub s.k b))(hz:size (sub s.k a)<=48)(O:size (sub s.k b)<=48)=>(fE h.ok h.new X Y f t () ⟨λv=>sub θ<|s.k v,s.u⟩<|jc ⟨hz,O,ja ⟨θ,j,rfl⟩⟩).1;have b0:=λθ(j:wY θ (sub s'.k a') (sub s'.k b'))(hz:size (sub s'.k a')<=48)(O:size (sub s'.k b')<=48)=>(fE h.LF h.UE Z a0 f t () ⟨λv=>sub θ<|s'.k v,s'.u⟩<|jc ⟨hz,O,ja ⟨θ,j,rfl⟩⟩).1
 classical
 obtain⟨β,V⟩:∃β:Nat->Nat,∀n,D n->s.u n->s.k n=.var n->β (ρ n)=n:=by
  refine⟨λm=>if e:∃n,D n/\s.u n/\s.k n=.var n/\ρ n=m then e.choose else 0,λn q0 q1 q2=>?_⟩;have e:∃m,D m/\s.u m/\s.k m=.var m/\ρ m=ρ n:=⟨n,q0,q1,q2,rfl⟩;simp only[e,dite_true];have⟨w,x,y,z⟩:=e.choose_spec;exact h.rel.inj _ _ w q0 x y q1 q2 z
 have E:∀(θ:Nat->Ty)u,(∀n,aA n u->s.u n/\s.k n=.var n)->(∀n,aA n u->D n)->sub (λm=>θ<|β m) (sub (pA ρ) u)=sub θ u:=λθ u G I=>by
  rw[lm];refine sub_congr u λn hn=>?_;show θ (β<|ρ n)=_;rw[V n (I n hn) (G n hn).1 (G n hn).2]
 obtain⟨z,rfl⟩|⟨z1,z2,⟨θ,j,rfl⟩|⟨hno,rfl⟩⟩:=q<;>obtain⟨z',rfl⟩|⟨c0,d0,⟨B,d,rfl⟩|⟨aiN,rfl⟩⟩:=q'
 .exact RC
 .omega
 .omega
 .omega
 .have kp:=hK θ j z1 z2;have e0:=b0 B d c0 d0;have e1:∀n,s.u n->s.k n=.var n->sub (λn=>B<|ρ n) (θ n)=B (ρ n):=λn _ _=>by
   have e:=d.one;rw[J,rb,lm,lm]at e;exact j.gen (λn=>B<|ρ n) e n
  have e2:∀m,sub (λm=>θ<|β m) (B m)=θ (β m):=λm=>by
   refine d.gen (λm=>θ<|β m) ?_ m;rw[J,rb,E θ _ (λn q=>G n<|ja q)<|λn q=>I n<|ja q,E θ _ (λn q=>G n<|jc q)<|λn q=>I n<|jc q,j.one]
  have lv:∀n x,s.u n->s.k n=.var n->aA x (θ n)->(s.u x/\s.k x=.var x)/\θ x=.var x:=λn x q1 q2 q3=>by
   refine⟨?_,j.fix q3⟩;by_cases e:aA n (sub s.k a)\/aA n (sub s.k b)
   .exact G x (j.rng n x e q3)
   .rw[j.out n (λq=>e<|ja q)<|λq=>e<|jc q]at q3;simp[aA]at q3;subst q3;exact⟨q1,q2⟩
  have ld:∀n x,D n->aA x (θ n)->D x:=λn x q1 q3=>by
   by_cases e:aA n (sub s.k a)\/aA n (sub s.k b)
   .exact I x (j.rng n x e q3)
   .rw[j.out n (λq=>e<|ja q)<|λq=>e<|jc q]at q3;simp[aA]at q3;subst q3;exact q1
  have e3:∀x,D x->s.u x->s.k x=.var x->θ x=.var x->∃y,B (ρ x)=.var y:=λx q0 q1 q2 q3=>by
   have:=e2<|ρ x;rw[V x q0 q1 q2,q3]at this
   cases e:B (ρ x)with
   |var y=>exact⟨y,rfl⟩|aM c l=>rw[e]at this;simp[j3]at this
  have f0:∀n,s.u n->sub θ (s.k n)=.var n->s.k n=.var n/\θ n=.var n:=λn q1 q2=>by
   cases e:s.k n with
   |var m=>
    rw[e,j3]at q2;have hm:=h.ok.idem n m (by rw[e];simp[aA]);have F:=h.ok.use n m q1 (by rw[e];simp[aA]);have:=(lv m n F hm (by rw[q2];simp[aA])).1.2;rw[e]at this;injection this with this;subst this;exact⟨rfl,q2⟩
   |aM c l=>rw[e]at q2;simp[j3]at q2
  refine⟨λx=>match B (ρ x)with|.var y=>y|.aM _ _=>0,⟨kp,e0,⟨λn q0 q1 q2=>?_,λm n g1 g2 a1 a2 b1 b2 e=>?_⟩,λt t' q qd r=>?_,λn q1 q2 qd q3=>?_,h.dom⟩⟩
  .have q2:=q2;have hk:=f0 n q1 q2;have⟨y,F⟩:=e3 n q0 q1 hk.1 hk.2;simp only[F];have⟨l1,l2⟩:=h.rel.live n q0 q1 hk.1;have u1:s'.u y:=by
    by_cases e:aA (ρ n) (sub s'.k a')\/aA (ρ n) (sub s'.k b')
    .exact(U y<|d.rng (ρ n) y e (by rw[F];simp[aA])).1
    .rw[d.out _ (λq=>e<|ja q)<|λq=>e<|jc q]at F;injection F with F;subst F;exact l1
   refine⟨u1,?_⟩;show sub B (s'.k y)=_;have ky:s'.k y=.var y:=by
    by_cases e:aA (ρ n) (sub s'.k a')\/aA (ρ n) (sub s'.k b')
    .exact(U y<|d.rng (ρ n) y e (by rw[F];simp[aA])).2
    .rw[d.out _ (λq=>e<|ja q)<|λq=>e<|jc q]at F;injection F with F;subst F;exact l2
   rw[ky,j3];exact d.fix (v:=ρ n) (by rw[F];simp[aA])
  .grind
  .have hN:∀(θ k:Nat->Ty)t,sub (λv=>sub θ<|k v) t=sub θ (sub k t):=λθ k t=>(sub_sub _ _ t).symm;show sub (λv=>sub B<|s'.k v) t'=sub _ (sub (λv=>sub θ<|s.k v) t);rw[kE]at r;rw[hN,hN,r,lm,sub_sub (pA _) θ];refine sub_congr _ λn hn=>?_;have⟨q1,q2⟩:=h.ok.nR q hn;show B (ρ n)=_;rw[<-e1 n q1 q2];refine sub_congr _ λx hx=>?_;have⟨⟨x1,x2⟩,x3⟩:=lv n x q1 q2 hx;have⟨y,F⟩:=e3 x (ld n x (qd n hn) hx) x1 x2 x3;simp[F]
  .have hx:=j.out n (λq=>q3<|X.loc n q)<|λq=>q3<|Y.loc n q;have:B (ρ n)=.var (ρ n):=by
    have F:∀u u':Ty,kE ρ s s' u u'->cy Λ s u->¬aA (ρ n) (sub s'.k u'):=λu u' r G q=>by
     rw[kE]at r;rw[r]at q;have⟨m,c1,c2⟩:=(bS _).1 q;simp[pA,aA]at c2;have⟨m1,m2⟩:=h.ok.nR G.use c1;have:=h.rel.inj m n (G.dom h.dom m c1) qd m1 m2 q1 q2 c2;subst this;exact q3<|G.loc m c1
    exact d.out _ (F a a' J X)<|F b b' rb Y
   simp[this]
 .exact(aiN (λm=>θ<|β m)<|by rw[J,rb,E θ _ (λn q=>G n<|ja q)<|λn q=>I n<|ja q,E θ _ (λn q=>G n<|jc q)<|λn q=>I n<|jc q,j.one]).elim
 .omega
 .exact(hno (λn=>B<|ρ n) (by have e:=d.one;rw[J,rb,lm,lm]at e;exact e)).elim
 .refine⟨rfl,λp=>?_,ρ,λm n q1 q2 e=>?_,J,rb⟩
  .grind
  .grind
end
end In
namespace In
section
variable {s s' s1 Bm:St}
def C8(h:pW D Λ cE ρ s s')π{l l'}{R R':Rn}(hl:l'=l.map π)(hi:∀v,v∈l->∀w,w∈l->π v=π w->v=w)(hR:∀v,v∈l->(R v=fa↔R' (π v)=fa)):
 kH pl (r9 l R) (r9 l' R') s s' λr t r' t'=>∃bI,uN D Λ cE ρ s s' bI t t'/\Ck l R r s.u t.u/\Ck l' R' r' s'.u t'.u/\t.k=s.k/\t'.k=s'.k/\(∀n,s.u n->bI n=ρ n)/\∀v,v∈l->R v=fa->∃n,r v=ea n/\r' (π v)=ea (bI n):=λo o' q q'=>by
 obtain⟨r,u,B,rfl⟩:=q;obtain⟨r',V,d,rfl⟩:=q';have⟨k1,d1,e1⟩:=s_ h.ok h.new l R r _ ⟨r,u,B,rfl⟩;have⟨I,d1',e1'⟩:=s_ h.LF h.UE l' R' r' _ ⟨r',V,d,rfl⟩
 classical
 have J:∀v n,R v=fa->r v=ea n->v∈l:=λv n q1 q2=>by
  by_cases e:v∈l
  .exact e
  .rw[B.out v e,q1]at q2;cases q2
 obtain⟨bI,j,O⟩:∃bI:Nat->Nat,(∀n,s.u n->bI n=ρ n)/\∀v n,v∈l->R v=fa->r v=ea n->r' (π v)=ea (bI n):=by
  refine⟨λn=>if e:∃v,R v=fa/\r v=ea n then(r'<|π e.choose).getD 0 else ρ n,λn q=>?_,λv n q1 q2 q3=>?_⟩
  .have:¬∃v,R v=fa/\r v=ea n:=λ⟨v,x,y⟩=>B.new v n x y q;simp[this]
  .have e:∃v,R v=fa/\r v=ea n:=⟨v,q2,q3⟩;simp only[e,dite_true];have⟨x,y⟩:=e.choose_spec;have:e.choose=v:=B.one _ _ n x y q3;rw[this];have E:π v∈l':=BS
   cases e2:r' (π v)with
   |none=>exact absurd e2 (d.all _ E)|some m=>rfl
 have G:∀n,u n->¬s.u n->∃v,v∈l/\R v=fa/\r v=ea n:=λn q1 q2=>by
  have⟨v,x,y⟩:=((B.use n).1 q1).resolve_left q2;exact⟨v,J v n x y,x,y⟩
 have E:∀v n,v∈l->R v=fa->r v=ea n->¬s'.u (bI n)/\V (bI n):=λv n q1 q2 q3=>by
  have e:=O v n q1 q2 q3;have F:=(hR v q1).1 q2;exact⟨d.new _ _ F e,(d.use _).2<|jc ⟨_,F,e⟩⟩
 refine⟨bI,⟨k1,I,⟨λn q0 q1 q2=>?_,λm n g1 g2 p1 p2 q1 q2 e=>?_⟩,λt t' q _ w=>?_,λn q _ _ _=>j n q,h.dom⟩,B,d,rfl,rfl,j,λv q1 q2=>?_⟩
 .by_cases e:s.u n
  .rw[j n e];have:=h.rel.live n q0 e q2;exact⟨(d.use _).2<|ja this.1,this.2⟩
  .have⟨v,x,y,z⟩:=G n q1 e;have⟨g1,g2⟩:=E v n x y z;exact⟨g2,h.LF.out _ g1⟩
 .by_cases F:s.u m<;>by_cases en:s.u n
  .rw[j m F,j n en]at e;exact h.rel.inj m n g1 g2 F p2 en q2 e
  .have⟨v,x,y,z⟩:=G n q1 en;have:=(E v n x y z).1;rw[<-e,j m F]at this;exact absurd (h.rel.live m g1 F p2).1 this
  .have⟨v,x,y,z⟩:=G m p1 F;have:=(E v m x y z).1;rw[e,j n en]at this;exact absurd (h.rel.live n g2 en q2).1 this
  .have⟨v,x,y,z⟩:=G m p1 F;have⟨X,Y,y2,U⟩:=G n q1 en;have Z:=O v m x y z;have b2:=O X n Y y2 U;rw[e]at Z;have:=d.one _ _ _ ((hR v x).1 y) Z b2;have:=hi v x X Y this;subst this;rw[z]at U;injection U
 .rw[kE]at w⊢;show sub s'.k t'=sub _ (sub s.k t);rw[w];exact uO λn hn=>(j n (h.ok.nR q hn).1).symm
 .cases e:r v with
  |none=>exact absurd e (B.all v q1)|some n=>grind
def ZC ρ s s'(R R':Rn):=∀v,(R v=fa/\R' v=fa)\/∃n n',R v=ea n/\R' v=ea n'/\kE ρ s s' (.var n) (.var n')
def ZC.zero:ZC ρ s s' Bt Bt:=λ_=>ja ⟨rfl,rfl⟩
def ZC.e8{R R':Rn}(h:ZC ρ s s' R R')(j:iu Λ s R)(k:uN D Λ cE ρ s s' bI s1 Bm):ZC bI s1 Bm R R':=λv=>by
 obtain q|⟨n,l,d,o,u⟩:=h v
 .exact ja q
 .exact jc ⟨n,l,d,o,k.ty _ _ (λm hm=>by simp[aA]at hm;subst hm;exact j.use v _ d) (λm hm=>k.dom m<|j.loc v n m d<|by simpa[j3]using hm) u⟩
theorem kE.via{R R'}(h:ZC ρ s s' R R'){t}(ht:∀v,aA v t->R v≠fa):kE ρ s s' (sub (via R) t) (sub (via R') t):=by
 rw[kE];rw[sub_sub,sub_sub,sub_sub];refine sub_congr t λv hv=>?_;obtain q|⟨n,n',d,j,l⟩:=h v
 .grind
 .simp only[In.via,d,j];exact l
def uP(h:pW D Λ cE ρ s s'){R R':Rn}(I:ZC ρ s s' R R')(J:iu Λ s R)(z:iu cE s' R')t:
 kH pl (qD t R) (qD t R') s s' λq u q' u'=>∃bI,uN D Λ cE ρ s s' bI u u'/\cy Λ u q.1/\cy cE u' q'.1/\kE bI u u' q.1 q'.1/\iu Λ u q.2/\iu cE u' q'.2/\ZC bI u u' q.2 q'.2:=by
 have O:∀v,v∈vars [] t->(R v=fa↔R' v=fa):=λv _=>by
  obtain⟨j,l⟩|⟨n,o,j,l,B⟩:=I v
  .simp[j,l]
  .simp[j,l]
 refine(C8 h (λv=>v) ag (λv _ w _ e=>e) O).and λr u r' u'⟨bI,st,d,d',e,e',_,a⟩=>?_;have E:=J.draw h.ok h.new st.kp d e;have F:=z.draw h.LF h.UE st.iS d' e';have G:ZC bI u u' r r':=λv=>by
  obtain⟨j,l⟩|⟨n,o,j,l,B⟩:=I.e8 J st v
  .by_cases hv:v∈vars [] t
   .have⟨n,x,y⟩:=a v hv j;refine jc ⟨n,_,x,y,?_⟩;have U:=d.new v n j x;have V:=d'.new v _ l y;simp[kE,j3,e,e',h.ok.out n U,h.LF.out _ V,pA]
   .exact ja ⟨by rw[d.out v hv,j],by rw[d'.out v hv,l]⟩
  .exact jc ⟨n,o,d.fV v n j,d'.fV v o l,B⟩
 have j:∀v,aA v t->r v≠fa:=λv hv=>d.all v<|aE.2 hv;have l:∀v,aA v t->r' v≠fa:=λv hv=>d'.all v<|aE.2 hv;exact .ret ⟨bI,st,E.ty j,F.ty l,.via G j,E,F,G⟩
def Ar{c:Lp}(hc:nH Λ s c)(hv:v∈c.any):s.u v/\s.k v=.var v:=⟨hc.use v<|hc.sub v hv,(hc.fix v hv).1⟩
def any_map(h:pW D Λ cE ρ s s'){c:Lp}(hc:nH Λ s c)(d:∀v,v∈c.any->D v)(j:aA n (sub s.k c.of))(B:ρ n∈c.any.map ρ):n∈c.any:=by
 have⟨m,x,y⟩:=List.mem_map.1 B;have⟨l,o⟩:=h.ok.nR hc.use j;have⟨u,z⟩:=Ar hc x;have:=h.rel.inj m n (d m x) ((hc.loc n j).elim (d n)<|h.dom n) u z l o y;subst this;exact x
def ZD(h:pW D Λ cE ρ s s'){Γ Lz}(y:bA Λ s Γ)(j:bA cE s' Lz)(hr:gI D ρ s s' Γ Lz)x{t t':Nat}(hp:pl->f=f'/\t=t'):
 kH pl (rY Γ x f t) (rY Lz x f' t') s s' λq u q' u'=>∃bI,uN D Λ cE ρ s s' bI u u'/\cy Λ u q/\cy cE u' q'/\kE bI u u' q q':=by
 intro o o' q q';have K:=Fg h.ok h.new y x f t;have K':=Fg h.LF h.UE j x f' t';obtain⟨B,F⟩|⟨c,c',B,F,l⟩:=hr x
 .rw[rY]at q;rw[B]at q;exact q.elim
 .have hc:=y x c B;have hc':=j x c' F;have z:=l.of.size;have w:=q;have w':=q';rw[rY]at q q';rw[B]at q;rw[F]at q';obtain⟨b1,rfl⟩|⟨b1,r,u,b2,rfl⟩:=q<;>obtain⟨b1',rfl⟩|⟨b1',G,u',I,rfl⟩:=q'
  .exact RC
  .omega
  .omega
  .have⟨bI,st,d,V,e,e',a0,a⟩:=C8 (pl:=pl) h ρ (R:=Bt) (R':=Bt) l.any (λv hv w hw e=>by
    have⟨J,O⟩:=Ar hc hv;have⟨E,U⟩:=Ar hc hw
    exact h.rel.inj v w (l.dom v hv) (l.dom w hw) J O E U e) (λv _=>by simp[Bt]) _ _ b2 I
   refine⟨bI,st,(K _ _ w).2,(K' _ _ w').2,?_⟩;rw[kE];have U:∀T,(∀n,aA n T->sub s'.k (via G<|ρ n)=sub (pA bI) (sub s.k<|via r n))->sub s'.k (sub (via G)<|sub (pA ρ) T)=sub (pA bI) (sub s.k<|sub (via r) T):=λT hT=>by
    rw[lm,sub_sub,sub_sub,sub_sub];exact sub_congr T λn hn=>by rw[hT n hn,sub_sub]
   rw[l.of,e,e'];refine U _ λn hn=>?_;have⟨X,Y⟩:=h.ok.nR hc.use hn;by_cases E:n∈c.any
   .have⟨m,Z,x2⟩:=a n E rfl;have J:=d.new n m rfl Z;have O:=V.new (ρ n) _ rfl x2;simp[via,Z,x2,j3,h.ok.out m J,h.LF.out _ O,pA]
   .have J:r n=fa:=d.out n E;have O:G (ρ n)=fa:=V.out (ρ n) λq=>E (any_map h hc l.dom hn (by rw[<-l.any];exact q));simp[via,J,O,j3,Y,(h.rel.live n (h.dom n<|(hc.loc n hn).resolve_left E) X Y).2,pA,a0 n X]
end
def NN pl(p j:PM):=∀(g d:Env)(s s':St)(D Λ cE:Nat->Prop)(ρ:Nat->Nat),pW D Λ cE ρ s s'->bA Λ s g->bA cE s' d->gI D ρ s s' g d->
 kH pl (p g) (j d) s s' λq u q' u'=>∃bI,uN D Λ cE ρ s s' bI u u'/\(cy Λ u q.1/\cy cE u' q'.1/\kE bI u u' q.1 q'.1)/\bA Λ u q.2/\bA cE u' q'.2/\gI D bI u u' q.2 q'.2
def xB pl(p j:EM):=∀(Γ d:Env)(s s':St)(D Λ cE:Nat->Prop)(ρ:Nat->Nat),pW D Λ cE ρ s s'->bA Λ s Γ->bA cE s' d->gI D ρ s s' Γ d->
 kH pl (p Γ) (j d) s s' λq u q' u'=>∃bI,uN D Λ cE ρ s s' bI u u'/\cy Λ u q/\cy cE u' q'/\kE bI u u' q q'
def NO{pl:Prop}:∀{ps d:List PM},dL (NN pl) ps d->∀i,NN pl (dB ps i)<|dB d i
 |_,_,.nil,i=>by unfold dB;simp;intro _ _ _ _ _ _ _ _ _ _ _ _;exact .no|_,_,.cons h _,0=>by unfold dB;simpa using h|_,_,.cons _ h,i+1=>by have:=NO h i;unfold dB at this⊢;simpa using this
def Fh{pl:Prop}:∀{ps d:List EM},dL (xB pl) ps d->∀i,xB pl (dB ps i)<|dB d i
 |_,_,.nil,i=>by unfold dB;simp;intro _ _ _ _ _ _ _ _ _ _ _ _;exact .no|_,_,.cons h _,0=>by unfold dB;simpa using h|_,_,.cons _ h,i+1=>by have:=Fh h i;unfold dB at this⊢;simpa using this
structure NdE pl x x':Prop where
 es:es x=es x'
 pl:pl->x=x'
def NdE.sp{x x'}(h:NdE pl x x')(p:pl):iG x=iG x'/\wO x=wO x':=by rw[h.pl p];exact⟨rfl,rfl⟩
structure KG pl L L':Prop where
 es:bB L=bB L'
 pl:pl->L=L'
def KG.cons{pl:Prop}{x x'}{L L'}(h:KG pl (x::L) (x'::L')):NdE pl x x'/\KG pl L L':=by
 have:=h.es;simp only[bB,List.cons.injEq]at this;exact⟨⟨this.1,λp=>by have:=h.pl p;injection this⟩,⟨this.2,λp=>by have:=h.pl p;injection this⟩⟩
def KG.nth{pl:Prop}:∀{L L':List Nd},KG pl L L'->∀i,NdE pl (iH L i)<|iH L' i
 |[],[],_,i=>⟨rfl,λ_=>rfl⟩|[],_::_,h,_=>by have:=h.es;simp[bB]at this|_::_,[],h,_=>by have:=h.es;simp[bB]at this|x::L,x'::L',h,0=>by have:=h.cons.1;simpa[iH]using this|x::L,x'::L',h,i+1=>by have:=KG.nth h.cons.2 i;simpa[iH]using this
def C9{pl:Prop}:∀(tk:List Ty){L L':List Nd}{ps j:List PM},KG pl L L'->dL (NN pl) ps j->∀(g g':Env)(R R':Rn)(s s':St)(D Λ cE:Nat->Prop)(ρ:Nat->Nat),pW D Λ cE ρ s s'->bA Λ s g->bA cE s' g'->gI D ρ s s' g g'->iu Λ s R->iu cE s' R'->ZC ρ s s' R R'->
 kH pl (me tk L ps g R) (me tk L' j g' R') s s' λq u q' u'=>∃bI,uN D Λ cE ρ s s' bI u u'/\(bA Λ u q.1/\bA cE u' q'.1/\gI D bI u u' q.1 q'.1)/\iu Λ u q.2/\iu cE u' q'.2/\ZC bI u u' q.2 q'.2
 |a::tk,x::L,x'::L',p::ps,p'::j,hL,.cons hp hps,g,g',R,R',s,s',D,Λ,cE,ρ,h,hg,UF,rg,hR,hR',rR=>by
  rw[me];refine(hp g g' s s' D Λ cE ρ h hg UF rg).and λq u q' u'⟨bI,eU,⟨a1,a2,a3⟩,b1,b2,b3⟩=>?_;refine(uP eU.both (rR.e8 hR eU) (hR.run eU.kp.run) (hR'.run eU.iS.run) a).and λi v i' v'⟨nV,gQ,c1,c2,c3,d1,d2,d3⟩=>?_;refine(im gQ.both (a1.run gQ.kp.run) c1 (a2.run gQ.iS.run) c2 (gQ.o5 a1 a3) c3<|λp=>hL.cons.1.sp p).and λ_ w _ w'⟨ρ3,rJ⟩=>?_;have d:=gQ.trans rJ;refine(C9 tk hL.cons.2 hps q.2 q'.2 i.2 i'.2 w w' D Λ cE ρ3 rJ.both (b1.run d.kp.run) (b2.run d.iS.run) (b3.e8 b1 d) (d1.run rJ.kp.run) (d2.run rJ.iS.run)<|d3.e8 d1 rJ).imp λ_ y _ y'⟨BW,KH,r4⟩=>?_;exact⟨BW,(eU.trans d).trans KH,r4⟩
 |[],_,_,_,_,_,_,g,g',R,R',s,s',D,Λ,cE,ρ,h,hg,UF,rg,hR,hR',rR=>by simp only[me];exact .ret ⟨ρ,h.refl,⟨hg,UF,rg⟩,hR,hR',rR⟩|_::_,[],[],_,_,_,_,g,g',R,R',s,s',D,Λ,cE,ρ,h,hg,UF,rg,hR,hR',rR=>by simp only[me];exact .ret ⟨ρ,h.refl,⟨hg,UF,rg⟩,hR,hR',rR⟩|_::_,[],_::_,_,_,hL,_,_,_,_,_,_,_,_,_,_,_,_,_,_,_,_,_,_=>by have:=hL.es;simp[bB]at this|_::_,_::_,[],_,_,hL,_,_,_,_,_,_,_,_,_,_,_,_,_,_,_,_,_,_=>by have:=hL.es;simp[bB]at this|_::_,_::_,_::_,[],[],_,.nil,g,g',R,R',s,s',D,Λ,cE,ρ,h,hg,UF,rg,hR,hR',rR=>by simp only[me];exact .ret ⟨ρ,h.refl,⟨hg,UF,rg⟩,hR,hR',rR⟩
def Fi{p:Prop}(h:p:=by
 exact .ret ⟨ρ,h.refl,⟨bL,bL,.aM _⟩,hg,UF,rg⟩):p:=h
def KI mk k x{ps ps'}(o:KG pl L L')(j:dL (NN pl) ps ps'):NN pl (tZ mk k x L ps) (tZ mk k x L' ps'):=by
 intro g l s s' D Λ cE ρ h hg UF rg;rw[tZ];refine kH.ite (λ_=>?_) λ_=>?_
 .exact(my h).and λv u v' u'⟨bI,st,a⟩=>.ret ⟨bI,st,a,hg.run st.kp.run,UF.run st.iS.run,rg.e8 hg st⟩
 refine kH.ite (λ_=>?_) λ_=>?_
 .exact(my h).and λv u v' u'⟨bI,st,a⟩=>.ret ⟨bI,st,a,(hg.run st.kp.run).set _ a.1.mono,(UF.run st.iS.run).set _ a.2.1.mono,(rg.e8 hg st).set _ a.2.2.mono⟩
 refine kH.ite (λ_=>?_) λ_=>?_
 .exact Fi
 refine kH.ite (λ_=>?_) λ_=>?_
 .exact Fi
 refine kH.ite (λ_=>?_) λ_=>?_
 .exact Fi
 refine kH.ite (λ_=>?_) λ_=>?_
 .refine(NO j 0 g l s s' D Λ cE ρ h hg UF rg).and λa u a' u'⟨bI,eU,⟨a1,a2,a3⟩,b1,b2,b3⟩=>?_;refine(NO j 1 _ _ u u' D Λ cE bI eU.both b1 b2 b3).and λb v b' v'⟨nV,gQ,⟨c1,c2,c3⟩,d⟩=>?_;exact .ret ⟨nV,eU.trans gQ,⟨dY (a1.run gQ.kp.run) c1,dY (a2.run gQ.iS.run) c2,.two _ (gQ.o5 a1 a3) c3⟩,d⟩
 cases mk x with
 |none=>exact .no|some p=>
  refine(C9 p.1 o j g l Bt Bt s s' D Λ cE ρ h hg UF rg (.zero _ _) (.zero _ _) .zero).and λq u q' u'⟨bI,eU,⟨a1,a2,a3⟩,b1,b2,b3⟩=>?_;refine(uP eU.both b3 b1 b2 p.2).and λi v i' v'⟨nV,gQ,c1,c2,c3,_⟩=>?_;exact .ret ⟨nV,eU.trans gQ,⟨c1,c2,c3⟩,a1.run gQ.kp.run,a2.run gQ.iS.run,a3.e8 a1 gQ⟩
def RE{l t t' a a':Nat}{s'}(h:es (.mk k s n L f t a)=es (.mk k' s' l L' f' t' a')):k=k'/\((k≠3/\k≠15)->s=s')/\bB L=bB L':=by
 simp only[es,Nd.mk.injEq]at h;obtain⟨rfl,d,-,j,-⟩:=h;refine⟨rfl,λq=>?_,j⟩;rw[if_neg ae,if_neg ae]at d;exact d
def UG mk x y L ps(h:k=3\/k=15):tZ mk k x L ps=tZ mk k y L ps:=by
 obtain rfl|rfl:=h<;>(funext g;simp[tZ])
def UH mk x y L f t ps(h:k=3\/k=15):ls mk k x L f t ps=ls mk k y L f t ps:=by
 obtain rfl|rfl:=h<;>(funext g;simp[ls])
mutual
def KJ{pl:Prop}(mk:Mks):∀x x',NdE pl x x'->NN pl (dG mk x) (dG mk x')
 |.mk k s n L f t a,.mk k' s' n' L' f' t' a',h=>by
  obtain⟨rfl,j,l⟩:=RE h.es;have d:KG pl L L':=⟨l,λp=>by have:=h.pl p;injection this⟩;unfold dG;by_cases e:k=3\/k=15
  .rw[UG mk s' s L' _ e];exact KI mk k s d<|uQ mk L L' d
  .rw[<-j ⟨λq=>e<|ja q,λq=>e<|jc q⟩];exact KI mk k s d<|uQ mk L L' d
def uQ{pl:Prop}(mk:Mks):∀L L',KG pl L L'->dL (NN pl) (nC mk L) (nC mk L')
 |[],[],_=>.nil|[],_::_,h=>by have:=h.es;simp[bB]at this|_::_,[],h=>by have:=h.es;simp[bB]at this|x::L,x'::L',h=>.cons (KJ mk x x' h.cons.1)<|uQ mk L L' h.cons.2
end
end In
namespace In
def C_{pl:Prop}(mk:Mks):∀{L L':List Nd}{ps z:List EM},KG pl L L'->dL (xB pl) ps z->∀(Γ o:Env)(t t' r B:Ty)(s s':St)(D Λ cE:Nat->Prop)(ρ:Nat->Nat),pW D Λ cE ρ s s'->bA Λ s Γ->bA cE s' o->gI D ρ s s' Γ o->cy Λ s t->cy cE s' t'->kE ρ s s' t t'->cy Λ s r->cy cE s' B->kE ρ s s' r B->
 kH pl (nI mk Γ t r L ps) (nI mk o t' B L' z) s s' λ_ u _ u'=>∃bI,uN D Λ cE ρ s s' bI u u'
 |p::e::L,p'::e'::L',q1::pe::ps,q2::pe'::z,hL,.cons _<|.cons hpe hps,Γ,o,t,t',r,B,s,s',D,Λ,cE,ρ,h,hΓ,ahD,rΓ,a1,a2,a3,b1,b2,b3=>by
  have⟨G,E⟩:=hL.cons;have⟨I,F⟩:=E.cons;rw[nI];refine(KJ mk p p' G _ _ s s' D Λ cE ρ h (.none _ _) (.none _ _) .none).and λq u q' u'⟨bI,eU,⟨c1,c2,c3⟩,d1,d2,d3⟩=>?_;refine(im eU.both (a1.run eU.kp.run) c1 (a2.run eU.iS.run) c2 (eU.o5 a1 a3) c3<|λp=>G.sp p).and λ_ v _ v'⟨nV,gQ⟩=>?_;have j:=eU.trans gQ;refine(hpe _ _ v v' D Λ cE nV gQ.both ((d1.run gQ.kp.run).over<|hΓ.run j.kp.run) ((d2.run gQ.iS.run).over<|ahD.run j.iS.run)<|(d3.e8 d1 gQ).over<|rΓ.e8 hΓ j).and λx w x' w'⟨ρ3,rJ,e1,e2,e3⟩=>?_;have l:=j.trans rJ;refine(im rJ.both (b1.run l.kp.run) e1 (b2.run l.iS.run) e2 (l.o5 b1 b3) e3<|λp=>I.sp p).and λ_ y _ y'⟨BW,KH⟩=>?_;have d:=l.trans KH;exact(C_ mk F hps Γ o t t' r B y y' D Λ cE BW KH.both (hΓ.run d.kp.run) (ahD.run d.iS.run) (rΓ.e8 hΓ d) (a1.run d.kp.run) (a2.run d.iS.run) (d.o5 a1 a3) (b1.run d.kp.run) (b2.run d.iS.run)<|d.o5 b1 b3).imp λ_ _ _ _⟨ρ5,st5⟩=>⟨ρ5,d.trans st5⟩
 |[],[],_,_,_,_,_,_,_,_,_,_,s,s',D,Λ,cE,ρ,h,_,_,_,_,_,_,_,_,_=>qBj|[_],[_],_,_,_,_,_,_,_,_,_,_,s,s',D,Λ,cE,ρ,h,_,_,_,_,_,_,_,_,_=>qBj|_::_::_,_::_::_,[],[],_,.nil,_,_,_,_,_,_,s,s',D,Λ,cE,ρ,h,_,_,_,_,_,_,_,_,_=>qBj|_::_::_,_::_::_,[_],[_],_,.cons _ .nil,_,_,_,_,_,_,s,s',D,Λ,cE,ρ,h,_,_,_,_,_,_,_,_,_=>qBj|[],_::_,_,_,hL,_,_,_,_,_,_,_,_,_,_,_,_,_,_,_,_,_,_,_,_,_,_,_=>by have:=hL.es;simp[bB]at this|_::_,[],_,_,hL,_,_,_,_,_,_,_,_,_,_,_,_,_,_,_,_,_,_,_,_,_,_,_=>by have:=hL.es;simp[bB]at this|[_],_::_::_,_,_,hL,_,_,_,_,_,_,_,_,_,_,_,_,_,_,_,_,_,_,_,_,_,_,_=>by have:=hL.es;simp[bB]at this|_::_::_,[_],_,_,hL,_,_,_,_,_,_,_,_,_,_,_,_,_,_,_,_,_,_,_,_,_,_,_=>by have:=hL.es;simp[bB]at this
def As rc x{e:Nd}(F:NdE pl e e'){B o:EM}(E:xB pl B o):xB pl (cG rc x e B) (cG rc x e' o):=by
 intro Γ z s s' D Λ cE ρ h j d l;rw[cG];refine kH.ite (λ_=>?_) λ_=>E Γ z s s' D Λ cE ρ h j d l;refine(my h).and λv u v' u'⟨bI,eU,a1,a2,a3⟩=>?_;refine(E _ _ u u' D Λ cE bI eU.both ((j.run eU.kp.run).set _ a1.mono) ((d.run eU.iS.run).set _ a2.mono)<|(l.e8 j eU).set _ a3.mono).and λt w t' w'⟨nV,gQ,b1,b2,b3⟩=>?_;refine(im gQ.both (a1.run gQ.kp.run) b1 (a2.run gQ.iS.run) b2 (gQ.o5 a1 a3) b3<|λp=>F.sp p).and λ_ y _ y'⟨ρ3,rJ⟩=>?_;exact .ret ⟨ρ3,(eU.trans gQ).trans rJ,b1.run rJ.kp.run,b2.run rJ.iS.run,rJ.o5 b1 b3⟩
mutual
def uR:∀x,xD (es x)=xD x
 |.mk k s n L f t a=>by
  simp only[es,xD,RG L,RH L,RI L,ZE L]
def RG:∀L,Ua (bB L)=Ua L
 |[]=>rfl|x::l=>by simp only[bB,Ua,uR x,RG l]
def RH:∀L,TS (bB L)=TS L
 |[]=>rfl|x::l=>by simp only[bB,TS,uR x]
def RI:∀L,Na (bB L)=Na L
 |[]=>rfl|x::l=>by simp only[bB,Na,RH l]
def ZE:∀L,isC (bB L)=isC L
 |[]=>rfl|x::l=>by simp only[bB,isC,afF x]
def afF:∀x,isM (es x)=isM x
 |.mk k s n L f t a=>by simp only[es,isM,RI L,ZE L]
end
section
variable {s s':St}
def UI(h:pW D Λ cE ρ s s'){Γ G:Env}(o:bA Λ s Γ)(I:gI D ρ s s' Γ G)(d:D v)(u:s.u v)(e:s.k v=.var v):uX Γ s.k v↔uX G s'.k (ρ v):=by
 constructor
 .rintro⟨y,c,B,F,J⟩;obtain⟨z,_⟩|⟨d,U,j,E,l⟩:=I y
  .rw[B]at z;cases z
  .rw[B]at j;injection j with j;subst j;refine⟨y,U,E,?_,λq=>J ?_⟩
   .rw[l.of];exact(bS _).2 ⟨v,F,by simp[pA,aA]⟩
   .rw[l.any]at q;exact any_map h (o y c B) l.dom F q
 .rintro⟨y,U,B,F,J⟩;obtain⟨_,z⟩|⟨c,d,j,E,l⟩:=I y
  .rw[B]at z;cases z
  .rw[B]at E;injection E with E;subst E;rw[l.of]at F;have⟨m,O,V⟩:=(bS _).1 F;simp[pA,aA]at V;have⟨X,Y⟩:=h.ok.nR (o y c j).use O;have:=h.rel.inj m v (((o y c j).loc m O).elim (l.dom m)<|h.dom m) d X Y u e V;subst this;exact⟨y,c,j,O,λq=>J (by rw[l.any];exact List.mem_map.2 ⟨m,q,rfl⟩)⟩
def bA.del{Γ:Env}(h:bA Λ s Γ)x:bA Λ s (lN Γ x):=by grind[bA,lN]
def RJ(h:pW D Λ cE ρ s s'){Γ j:Env}(u:bA Λ s Γ)(y:gI D ρ s s' Γ j)(d:cy Λ s t)(z:kE ρ s s' t t')v:Kz D ρ s s' (iq Γ s.k t v) (iq j s'.k t' v):=by
 refine⟨?_,?_,λn hn=>d.dom h.dom n (DF hn).1⟩
 .show sub s'.k (sub s'.k t')=sub (pA ρ) (sub s.k<|sub s.k t);rw[h.ok.qE,h.LF.qE];exact z
 .unfold iq
  cases v with
  |false=>simp|true=>
   simp only[if_true,yl];unfold kE at z;have B:Ren ρ (vars []<|sub s.k t):=λm hm n hn e=>by
    have⟨l,o⟩:=h.ok.nR d.use<|aE.1 hm;have⟨E,F⟩:=h.ok.nR d.use<|aE.1 hn;exact h.rel.inj m n (d.dom h.dom m<|aE.1 hm) (d.dom h.dom n<|aE.1 hn) l o E F e
   have hv:=lY (ρ:=ρ) (sub s.k t) (a:=[]) B;simp only[jq]at hv;rw[z,hv,List.filter_map];congr 1;refine List.filter_congr λn hn=>?_;have⟨l,o⟩:=h.ok.nR d.use<|aE.1 hn;have:=UI h u y (d.dom h.dom n<|aE.1 hn) l o;simp[this]
def uN.wide{M M'}{bI}{s1 Bm}(h:uN D Λ cE ρ s s' bI s1 Bm)(a:∀n,Λ n->M n)(b:∀n,cE n->M' n)(j:∀n,M n->D n):uN D M M' ρ s s' bI s1 Bm:=
 ⟨⟨h.kp.ok,λn q=>a n<|h.kp.new n q,h.kp.run.wide a⟩,⟨h.iS.ok,λn q=>b n<|h.iS.new n q,h.iS.run.wide b⟩,h.rel,h.ty,λn q1 q2 d q3=>h.any n q1 q2 d λq=>q3<|a n q,j⟩
def KN rc x{e:Nd}(O:NdE pl e e'){U F V G:EM}(hp:xB pl U F)(hf:xB pl V G):xB pl (nK rc x e U V) (nK rc x e' F G):=by
 intro Γ o s s' D Λ cE ρ h z l E;unfold nK;have hv:xD e=xD e':=by rw[<-uR e,<-uR e',O.es]
 rw[<-hv];refine(As rc x O hp Γ o s s' D Λ cE ρ h z l E).and λt u t' u'⟨bI,eU,a1,a2,a3⟩=>?_;have d:=z.run eU.kp.run;have B:=l.run eU.iS.run;have j:=E.e8 z eU;have⟨X,Y⟩:=xI eU.kp.ok eU.kp.new d a1 rc x<|xD e;have⟨I,J⟩:=xI eU.iS.ok eU.iS.new B a2 rc x<|xD e;have Z:Kz D bI u u' (iq (if rc then lN Γ x else Γ) u.k t (xD e)) (iq (if rc then lN o x else o) u'.k t' (xD e)):=by
  cases rc with
  |true=>simp only[if_true];exact RJ eU.both (d.del x) (j.del x) a1 a3 _|false=>exact RJ eU.both d j a1 a3 _
 exact kH.imp (hf _ _ u u' D _ _ bI ⟨λn q=>h.dom n q.1,eU.kp.ok,Y,eU.iS.ok,J,eU.rel⟩ X I<|j.set x Z) λy w y' w'⟨nV,gQ,b1,b2,b3⟩=>
  ⟨nV,eU.trans<|gQ.wide (λn q=>q.1) (λn q=>q.1) h.dom,⟨b1.use,λn q=>(b1.loc n q).1⟩,⟨b2.use,λn q=>(b2.loc n q).1⟩,b3⟩
end
def UJ{E}{l:List α}{k:List β}(h:dL E l k):dL E l.tail k.tail:=by
 cases h with
 |nil=>exact .nil|cons _ h=>exact h
def KG.tail:∀{L L':List Nd},KG pl L L'->KG pl L.tail L'.tail
 |[],[],_=>⟨rfl,λ_=>rfl⟩|[],_::_,h=>by have:=h.es;simp[bB]at this|_::_,[],h=>by have:=h.es;simp[bB]at this|_::_,_::_,h=>h.cons.2
def Fk{p:Prop}(h:p:=by
 exact .ret ⟨ρ,h.refl,bL,bL,.aM _⟩):p:=h
def KO mk k x{t t'}(X:pl->f=f'/\t=t'){ps ps'}(O:KG pl L L')(U:dL (xB pl) ps ps'):xB pl (ls mk k x L f t ps) (ls mk k x L' f' t' ps'):=by
 intro Γ B s s' D Λ cE ρ h j d o;have G:=Fh U 0;have I:=Fh U 1;have Y:=Fh U 2;have J:=O.nth 0;have V:=O.nth 1;have Z:=O.nth 2;rw[ls];refine kH.ite (λ_=>?_) λ_=>?_
 .exact ZD h j d o _ X
 refine kH.ite (λ_=>?_) λ_=>?_
 .rw[upM]
  cases mk x with
  |none=>exact .no|some p=>exact(uP h .zero (.zero _ _) (.zero _ _) _).and λq u q' u'⟨bI,eU,a1,a2,a3,_⟩=>.ret ⟨bI,eU,a1,a2,a3⟩
 refine kH.ite (λ_=>?_) λ_=>?_
 .exact Fk
 refine kH.ite (λ_=>?_) λ_=>?_
 .exact Fk
 refine kH.ite (λ_=>?_) λ_=>?_
 .exact Fk
 refine kH.ite (λ_=>?_) λ_=>?_
 .refine(G Γ B s s' D Λ cE ρ h j d o).and λa u a' u'⟨bI,eU,a1,a2,a3⟩=>?_;refine(I Γ B u u' D Λ cE bI eU.both (j.run eU.kp.run) (d.run eU.iS.run)<|o.e8 j eU).and λb v b' v'⟨nV,gQ,b1,b2,b3⟩=>?_;exact .ret ⟨nV,eU.trans gQ,dY (a1.run gQ.kp.run) b1,dY (a2.run gQ.iS.run) b2,.two _ (gQ.o5 a1 a3) b3⟩
 refine kH.ite (λ_=>?_) λ_=>?_
 .rw[<-V.es];refine kH.ite (λhz=>?_) λ_=>.no;refine(G Γ B s s' D Λ cE ρ h j d o).and λa u a' u'⟨bI,eU,a1,a2,a3⟩=>?_;refine(im eU.both a1 (jM hz) a2 (jM hz) a3 (.shut hz)<|λp=>J.sp p).and λ_ v _ v'⟨nV,gQ⟩=>?_;exact .ret ⟨nV,eU.trans gQ,jM hz,jM hz,.shut hz⟩
 refine kH.ite (λ_=>?_) λ_=>?_
 .refine(G Γ B s s' D Λ cE ρ h j d o).and λa u a' u'⟨bI,eU,a1,a2,a3⟩=>?_;refine(im eU.both a1 bL a2 bL a3 (.aM _)<|λp=>J.sp p).and λ_ v _ v'⟨nV,gQ⟩=>?_;have l:=eU.trans gQ;refine(I Γ B v v' D Λ cE nV gQ.both (j.run l.kp.run) (d.run l.iS.run)<|o.e8 j l).and λb w b' w'⟨ρ3,rJ,b1,b2,b3⟩=>?_;refine(im rJ.both b1 bL b2 bL b3 (.aM _)<|λp=>V.sp p).and λ_ y _ y'⟨BW,KH⟩=>?_;refine .ret ⟨BW,(l.trans rJ).trans KH,?_⟩;split<;>exact⟨bL,bL,.aM _⟩
 refine kH.ite (λ_=>?_) λ_=>?_
 .refine(G Γ B s s' D Λ cE ρ h j d o).and λa u a' u'⟨bI,eU,a1,a2,a3⟩=>?_;refine(I Γ B u u' D Λ cE bI eU.both (j.run eU.kp.run) (d.run eU.iS.run)<|o.e8 j eU).and λb v b' v'⟨nV,gQ,b1,b2,b3⟩=>?_;refine(my gQ.both).and λc w c' w'⟨ρ3,rJ,c1,c2,c3⟩=>?_;have E:=gQ.trans rJ;refine(im rJ.both (a1.run E.kp.run) (dY (b1.run rJ.kp.run) c1) (a2.run E.iS.run) (dY (b2.run rJ.iS.run) c2) (E.o5 a1 a3) (.two _ (rJ.o5 b1 b3) c3) X).and λ_ y _ y'⟨BW,KH⟩=>?_;exact .ret ⟨BW,(eU.trans E).trans KH,c1.run KH.kp.run,c2.run KH.iS.run,KH.o5 c1 c3⟩
 refine kH.ite (λ_=>?_) λ_=>?_
 .refine(my h).and λc u c' u'⟨bI,eU,c1,c2,c3⟩=>?_;refine(G _ _ u u' D Λ cE bI eU.both ((j.run eU.kp.run).set _ c1.mono) ((d.run eU.iS.run).set _ c2.mono)<|(o.e8 j eU).set _ c3.mono).and λa v a' v'⟨nV,gQ,a1,a2,a3⟩=>?_;exact .ret ⟨nV,eU.trans gQ,dY (c1.run gQ.kp.run) a1,dY (c2.run gQ.iS.run) a2,.two _ (gQ.o5 c1 c3) a3⟩
 refine kH.ite (λ_=>?_) λ_=>?_
 .exact KN ia x J G I Γ B s s' D Λ cE ρ h j d o
 refine kH.ite (λ_=>?_) λ_=>?_
 .exact KN ga x J G I Γ B s s' D Λ cE ρ h j d o
 refine kH.ite (λ_=>?_) λ_=>?_
 .refine(G Γ B s s' D Λ cE ρ h j d o).and λa u a' u'⟨bI,eU,a1,a2,a3⟩=>?_;refine(im eU.both a1 bL a2 bL a3 (.aM _)<|λp=>J.sp p).and λ_ v _ v'⟨nV,gQ⟩=>?_;have l:=eU.trans gQ;refine(I Γ B v v' D Λ cE nV gQ.both (j.run l.kp.run) (d.run l.iS.run)<|o.e8 j l).and λb w b' w'⟨ρ3,rJ,b1,b2,b3⟩=>?_;have E:=l.trans rJ;refine(Y Γ B w w' D Λ cE ρ3 rJ.both (j.run E.kp.run) (d.run E.iS.run)<|o.e8 j E).and λc y c' y'⟨BW,KH,c1,c2,c3⟩=>?_;refine(im KH.both (b1.run KH.kp.run) c1 (b2.run KH.iS.run) c2 (KH.o5 b1 b3) c3<|λp=>Z.sp p).and λ_ z _ z'⟨ρ5,st5⟩=>?_;have F:=KH.trans st5;exact .ret ⟨ρ5,E.trans F,b1.run F.kp.run,b2.run F.iS.run,F.o5 b1 b3⟩
 refine kH.ite (λ_=>?_) λ_=>.no
 .refine(G Γ B s s' D Λ cE ρ h j d o).and λa u a' u'⟨bI,eU,a1,a2,a3⟩=>?_;refine(my eU.both).and λc v c' v'⟨nV,gQ,c1,c2,c3⟩=>?_;have l:=eU.trans gQ;refine(C_ mk O.tail (UJ U) Γ B a a' _ _ v v' D Λ cE nV gQ.both (j.run l.kp.run) (d.run l.iS.run) (o.e8 j l) (a1.run gQ.kp.run) (a2.run gQ.iS.run) (gQ.o5 a1 a3) c1 c2 c3).and λ_ w _ w'⟨ρ3,rJ⟩=>?_;exact .ret ⟨ρ3,l.trans rJ,c1.run rJ.kp.run,c2.run rJ.iS.run,rJ.o5 c1 c3⟩
mutual
def RK{pl:Prop}(mk:Mks):∀x x',NdE pl x x'->xB pl (inf mk x) (inf mk x')
 |.mk k s n L f t a,.mk k' s' n' L' f' t' a',h=>by
  obtain⟨rfl,l,o⟩:=RE h.es;have d:KG pl L L':=⟨o,λp=>by have:=h.pl p;injection this⟩;have j:pl->f=f'/\t=t':=λp=>h.sp p;unfold inf;by_cases e:k=3\/k=15
  .rw[UH mk s' s L' f' t' _ e];exact KO mk k s j d<|At mk L L' d
  .rw[<-l ⟨λq=>e<|ja q,λq=>e<|jc q⟩];exact KO mk k s j d<|At mk L L' d
def At{pl:Prop}(mk:Mks):∀L L',KG pl L L'->dL (xB pl) (pM mk L) (pM mk L')
 |[],[],_=>.nil|[],_::_,h=>by have:=h.es;simp[bB]at this|_::_,[],h=>by have:=h.es;simp[bB]at this|x::L,x'::L',h=>.cons (RK mk x x' h.cons.1)<|At mk L L' h.cons.2
end
end In
namespace In
def nxt(rs:Bool)(s:St):St:=⟨if rs then Ty.var else s.k,s.u⟩
def ud(rs:Bool):List Dc->Mks->Env->St->List (BA×Ty)->Option Ft->Prop
 |[],_,_,_,B,F=>B=[]/\F=fa|.ty t vs ms::r,mk,Γ,s0,B,F=>ud rs r (rK t vs ms mk) Γ s0 B F
 |.lt rc t b::r,mk,Γ,s0,B,F=>∃o,cG rc t.text b (inf mk b) Γ s0 o/\match o with
  |.error x=>B=[]/\F=ea x
  |.ok (a,s)=>(48<size (sub s.k a)/\B=[]/\F=ea (p9 t.ah t.to))\/
   (size (sub s.k a)<=48/\∃T B',T=(if xD b then sub s.k a else fW (sub s.k a))/\B=(t.text,T)::B'/\ud rs r mk (cV Γ t.text ⟨T,vars [] T⟩) (nxt rs s) B' F)
def rZ u:Ok ⟨Ty.var,u⟩:=⟨λ_ _=>rfl,λv n q1 q2=>by simp[aA]at q2;subst q2;exact q1,λv n q=>by simp[aA]at q;subst q;rfl⟩
def VE(s:St)(Γ:Env):=∀y c,Γ y=ea c->c.any=vars [] c.of/\∀v,v∈c.any->s.u v/\s.k v=.var v
def VE.fix{s:St}{Γ:Env}(h:VE s Γ){y}{c}(q:Γ y=ea c):sub s.k c.of=c.of:=gZ λn hn=>((h y c q).2 n (by rw[(h y c q).1];exact aE.2 hn)).2
def VE.env{s:St}{Γ:Env}(h:VE s Γ):bA (λn=>¬s.u n) s Γ:=λy c q=>by
 have⟨d,j⟩:=h y c q;refine⟨λn hn=>(j n (by rw[d];exact aE.2 hn)).1,λn hn=>ja ?_,λv hv=>⟨(j v hv).2,λq=>q (j v hv).1⟩,λv hv=>by rw[d]at hv;exact aE.1 hv⟩;rw[d];rw[h.fix q]at hn;exact aE.2 hn
def Fm(u:Nat->Prop)(Γ:Env):Nat->Prop:=λn=>¬u n\/∃y c,Γ y=ea c/\n∈c.any
structure UK ρ s s' Γ Lz:Prop where
 ok:Ok s
 LF:Ok s'
 top:VE s Γ
 UL:VE s' Lz
 rel:Rel (Fm s.u Γ) ρ s s'
 env:gI (Fm s.u Γ) ρ s s' Γ Lz
def UK.both{s s':St}{Γ d:Env}(h:UK ρ s s' Γ d):pW (Fm s.u Γ) (λn=>¬s.u n) (λn=>¬s'.u n) ρ s s':=⟨λn q=>ja q,h.ok,λ_ q=>q,h.LF,λ_ q=>q,h.rel⟩
def ZF{s:St}(h:Ok s)rs:Ok (nxt rs s):=by
 cases rs with
 |false=>exact h|true=>exact rZ _
def tg{s:St}(h:s.k n=.var n)rs:(nxt rs s).k n=.var n:=by
 cases rs with
 |false=>exact h|true=>rfl
inductive DcE(pl:Prop):Dc->Dc->Prop where
 |ty(t t':jd)(vs vs':List jd)(ms ms':List Nd):t.text=t'.text->vs.map (·.text)=vs'.map (·.text)->bB ms=bB ms'->DcE pl (.ty t vs ms) (.ty t' vs' ms')
 |lt(r:Bool)(t t':jd)(b b':Nd):t.text=t'.text->(pl->t=t')->NdE pl b b'->DcE pl (.lt r t b) (.lt r t' b')
def ZG:∀{x y:Nd},RA x=2->es x=es y->Gb x=Gb y
 |.mk k s n L f t a,.mk k' s' n' L' f' t' a',h,e=>(RE e).2.1 (by simp only[RA]at h;omega)
def ZH:∀{x y:Nd},es x=es y->yu ns x=yu ns y
 |.mk k s n L f t a,.mk k' s' n' L' f' t' a',e=>by simp only[yu,(RE e).2.2]
def KQ{t t':jd}{vs d:List jd}(l:t.text=t'.text)(hv:vs.map (·.text)=d.map (·.text)):∀{ms j:List Nd},(∀m∈ms,RA m=2)->bB ms=bB j->∀mk,rK t vs ms mk=rK t' d j mk
 |[],[],_,_,mk=>rfl|[],_::_,_,h,_=>by simp[bB]at h|_::_,[],_,h,_=>by simp[bB]at h|m::ms,m'::j,hk,h,mk=>by
  simp only[bB,List.cons.injEq]at h;have o:vs.length=d.length:=by have:=congrArg List.length hv;simpa using this
  simp only[rK];rw[KQ l hv (λm q=>hk m qBf) h.2,ZG (hk m ag) h.1,ZH h.1,hv];simp only[Dp,l,o]
def DcK:Dc->Prop
 |.ty _ _ ms=>∀m∈ms,RA m=2|.lt _ _ _=>True
section
variable (dec:Nat->List UInt8)
def RL(x:Ft):List UInt8:=wr dec (vars [] x.l) x.l 0
def Fo(x:Ft):List UInt8:=wr dec (vars (vars [] x.l) x.r) x.r 0
def FtR.texts{x j:Ft}(h:FtR pl x j):RL dec j=RL dec x/\Fo dec j=Fo dec x:=by
 obtain⟨_,_,ρ,o,E,F⟩:=h;have d:∀n,n∈vars [] x.l->aA n x.l:=λn q=>aE.1 q;have u:∀n,n∈vars (vars [] x.l) x.r->aA n x.l\/aA n x.r:=λn q=>by
  obtain q|q:=(bC x.r _ n).1 q
  .exact ja (d n q)
  .exact jc q
 have y:Ren ρ (vars [] x.l):=λm hm n hn e=>o m n (ja<|d m hm) (ja<|d n hn) e;have z:Ren ρ (vars (vars [] x.l) x.r):=λm hm n hn e=>o m n (u m hm) (u n hn) e;have B:=lY (ρ:=ρ) x.l (a:=[]) y;have G:=lY (ρ:=ρ) x.r (a:=vars [] x.l) z;simp only[jq]at B;rw[RL,Fo];rw[E,F,B,G,DV dec y x.l<|λn hn=>aE.2 hn,DV dec z x.r<|λn hn=>(bC x.r _ n).2<|jc hn];exact⟨rfl,rfl⟩
def th(B:List (BA×Ty)):List (BA×List UInt8):=B.map λp=>(p.1,j5 dec p.2)
def afG(pl:Prop):Option Ft->Option Ft->Prop
 |none,fa=>True|some x,ea x'=>FtR pl x x'|_,_=>False
def o6 t:vars [] (fW t)=[]:=by
 cases e:vars [] (fW t)with
 |nil=>rfl|cons n l=>
  have:aA n (fW t):=aE.1 (by rw[e];simp);have⟨m,_,c⟩:=(bS _).1 this;simp[aA,bZ]at c
def NP ρ t:fW (sub (pA ρ) t)=fW t:=by
 unfold fW;rw[lm]
def UK.next{E I:St}{Γ U:Env}(h:UK ρ E I Γ U){s s':St}(st:uN (Fm E.u Γ) (λn=>¬E.u n) (λn=>¬I.u n) ρ E I bI s s')(a1:cy (λn=>¬E.u n) s a)(a2:cy (λn=>¬I.u n) s' a')(a3:kE bI s s' a a')(x:BA)(v:Bool){T F:Ty}(V:T=if v then sub s.k a else fW (sub s.k a))(o:F=if v then sub s'.k a' else fW (sub s'.k a'))(rs B:Bool):
 j5 dec F=j5 dec T/\UK bI (nxt rs s) (nxt B s') (cV Γ x ⟨T,vars [] T⟩) (cV U x ⟨F,vars [] F⟩):=by
 have X:∀n,aA n T->s.u n/\s.k n=.var n/\¬E.u n:=λn hn=>by
  cases v with
  |true=>simp only[if_true]at V;subst V;exact⟨(st.kp.ok.nR a1.use hn).1,(st.kp.ok.nR a1.use hn).2,a1.loc n hn⟩|false=>simp at V;subst V;have:=aE.2 hn;rw[o6]at this;simp at this
 have Y:∀n,aA n F->s'.u n/\s'.k n=.var n:=λn hn=>by
  cases v with
  |true=>simp only[if_true]at o;subst o;exact st.iS.ok.nR a2.use hn|false=>simp at o;subst o;have:=aE.2 hn;rw[o6]at this;simp at this
 have dT:∀n,aA n T->Fm E.u Γ n:=λn hn=>ja (X n hn).2.2;have hR:Ren bI (vars [] T):=λm hm n hn e=>by
  have d:=X m<|aE.1 hm;have j:=X n<|aE.1 hn;exact st.rel.inj m n (dT m<|aE.1 hm) (dT n<|aE.1 hn) d.1 d.2.1 j.1 j.2.1 e
 have eT:F=sub (pA bI) T:=by
  rw[kE]at a3
  cases v with
  |true=>grind|false=>
   simp at V o;rw[o,a3,NP,<-V];exact(gZ λn hn=>by have:=aE.2 hn;rw[V,o6]at this;simp at this).symm
 have hv:=lY (ρ:=bI) T (a:=[]) hR;simp only[jq]at hv;refine⟨by rw[eT];exact GQ dec hR,?_⟩;have G:∀y c n,Γ y=ea c->n∈c.any->E.u n/\s.u n/\s.k n=.var n/\bI n=ρ n/\Fm E.u Γ n:=λy c n d j=>by
  have⟨l,J⟩:=(h.top y c d).2 n j;have O:Fm E.u Γ n:=jc ⟨y,c,d,j⟩;exact⟨l,st.kp.run.mono n l,st.kp.fix J<|λq=>q l,st.any n l J O<|λq=>q l,O⟩
 have l:∀n,Fm s.u (cV Γ x ⟨T,vars [] T⟩) n->s.u n->Fm E.u Γ n/\s.k n=.var n:=λn d j=>by
  obtain q|⟨y,c,J,O⟩:=d
  .exact absurd j q
  .rw[cV]at J;split at J
   .injection J with J;subst J;exact⟨dT n<|aE.1 O,(X n<|aE.1 O).2.1⟩
   .grind
 have tp:VE (nxt rs s) (cV Γ x ⟨T,vars [] T⟩):=λy c q=>by
  rw[cV]at q;split at q
  .injection q with q;subst q;exact⟨rfl,λv hv=>⟨(X v<|aE.1 hv).1,tg (X v<|aE.1 hv).2.1 rs⟩⟩
  .exact⟨(h.top y c q).1,λv hv=>⟨(G y c v q hv).2.1,tg (G y c v q hv).2.2.1 rs⟩⟩
 have O:VE (nxt B s') (cV U x ⟨F,vars [] F⟩):=λy c q=>by
  rw[cV]at q;split at q
  .injection q with q;subst q;exact⟨rfl,λv hv=>⟨(Y v<|aE.1 hv).1,tg (Y v<|aE.1 hv).2 B⟩⟩
  .exact⟨(h.UL y c q).1,λv hv=>⟨st.iS.run.mono v ((h.UL y c q).2 v hv).1,tg (st.iS.fix ((h.UL y c q).2 v hv).2<|λz=>z ((h.UL y c q).2 v hv).1) B⟩⟩
 refine⟨ZF st.kp.ok rs,ZF st.iS.ok B,tp,O,⟨λn d j _=>?_,λm n p1 p2 d _ j _ e=>?_⟩,λy=>?_⟩
 .have⟨Z,b2⟩:=l n d j;exact⟨(st.rel.live n Z j b2).1,tg (st.rel.live n Z j b2).2 B⟩
 .have⟨Z,b2⟩:=l m p1 d;have⟨c1,c2⟩:=l n p2 j;exact st.rel.inj m n Z c1 d b2 j c2 e
 .by_cases e:y=x
  .refine jc ⟨⟨T,vars [] T⟩,⟨F,vars [] F⟩,by simp[cV,e],by simp[cV,e],?_,?_,λv hv=>jc ⟨x,_,by simp[cV],hv⟩⟩
   .rw[kE];rw[tp.fix (y:=x)<|by simp[cV],O.fix (y:=x)<|by simp[cV]];exact eT
   .grind
  .obtain⟨d,j⟩|⟨c,Z,d,j,J⟩:=h.env y
   .exact ja ⟨by simp[cV,e,d],by simp[cV,e,j]⟩
   .refine jc ⟨c,Z,by simp[cV,e,d],by simp[cV,e,j],?_,?_,λv hv=>jc ⟨y,c,by simp[cV,e,d],hv⟩⟩
    .have:=J.of;rw[kE]at this⊢;rw[tp.fix (y:=y)<|by simp[cV,e,d],O.fix (y:=y)<|by simp[cV,e,j]];rw[h.top.fix d,h.UL.fix j]at this;rw[this];exact uO λn hn=>(G y c n d (by rw[(h.top y c d).1];exact aE.2 hn)).2.2.2.1.symm
    .rw[J.any];exact jx λv hv=>(G y c v d hv).2.2.2.1.symm
def Au{pl:Prop}{rs G:Bool}:∀{l V:List Dc},dL (DcE pl) l V->(∀d∈l,DcK d)->∀(mk:Mks)(ρ:Nat->Nat)(u y:St)(Γ j:Env),UK ρ u y Γ j->∀B F B' F',ud rs l mk Γ u B F->ud G V mk j y B' F'->th dec B'=th dec B/\afG pl F F'
 |[],[],.nil,_,mk,ρ,u,y,Γ,j,_,B,F,B',F',⟨q1,q2⟩,⟨q1',q2'⟩=>by subst q1;subst q2;subst q1';subst q2';exact⟨rfl,trivial⟩|.ty t vs ms::r,.ty t' vs' ms'::r',.cons (.ty _ _ _ _ _ _ h1 h2 h3) hr,hk,mk,ρ,u,y,Γ,j,hT,B,F,B',F',q,q'=>by
  rw[ud]at q q';rw[<-KQ h1 h2 (hk (.ty t vs ms) ag) h3]at q';exact Au hr (λd q=>hk d qBf) _ ρ u y Γ j hT B F B' F' q q'
 |.lt rc t b::r,.lt _ t' b'::r',.cons (.lt _ _ _ _ _ h1 h2 h3) hr,hk,mk,ρ,u,y,Γ,j,hT,B,F,B',F',q,q'=>by
  rw[ud]at q q';obtain⟨o,q1,q2⟩:=q;obtain⟨J,q1',q2'⟩:=q';rw[<-h1]at q1';have S:=As rc t.text h3 (RK mk b b' h3) Γ j _ _ _ _ _ ρ hT.both hT.top.env hT.UL.env hT.env o J q1 q1'
  match o,J,S with
  |.error x,.error x',S=>
   obtain⟨rfl,rfl⟩:=q2;obtain⟨rfl,rfl⟩:=q2';exact⟨rfl,S⟩
  |.ok (a,s),.ok (a',s'),S=>
   obtain⟨bI,X,Y,Z,O⟩:=S;have z:=O.size;obtain⟨z1,rfl,rfl⟩|⟨z1,T,C,hC,rfl,q2⟩:=q2<;>obtain⟨z1',rfl,rfl⟩|⟨z1',T',C',E,rfl,q2'⟩:=q2'
   .refine⟨rfl,rfl,λp=>?_,λn=>n,λm n _ _ e=>e,?_,?_⟩
    .rw[h2 p]
    .simp[p9,j3,pA]
    .simp[p9,j3,pA]
   .omega
   .omega
   .have hv:xD b=xD b':=by rw[<-uR b,<-uR b',h3.es]
    rw[<-hv]at E;have⟨w,I⟩:=hT.next dec X Y Z O t.text (xD b) hC E rs G;rw[<-h1]at q2';have⟨U,g2⟩:=Au hr (λd q=>hk d qBf) mk bI _ _ _ _ I C F C' F' q2 q2';refine⟨?_,g2⟩;simp only[th,jz]at U⊢;rw[U,w,h1]
def ZI{rs j:Bool}{l E:List Dc}(h:dL (DcE pl) l E)(G:∀d∈l,DcK d)(mk:Mks){u I:Nat->Prop}{B o:List (BA×Ty)}{F z:Option Ft}(q:ud rs l mk (λ_=>fa) ⟨Ty.var,u⟩ B F)(J:ud j E mk (λ_=>fa) ⟨Ty.var,I⟩ o z):th dec o=th dec B/\afG pl F z:=by
 refine Au dec h G mk (λn=>n) _ _ _ _ ⟨rZ _,rZ _,λy c q=> iP,λy c q=> iP,⟨λn d un _=>?_,λm n d1 d2 u1 _ u2 _ e=>e⟩,.none⟩ B F o z q J;obtain d|⟨y,c,q,_⟩:=d
 .exact absurd un d
 .cases q
end
end In
def ZK l n:(Un.seen l n).length<=l.length+1:=by rw[Un.seen];split<;>simp
mutual
def rW:∀(t:Ty)(l:List Nat),(vars l t).length<=l.length+size t
 |.var n,l=>by have:=ZK l n;simp[vars,size];omega|.aM c L,l=>by have:=Da L l;simp[vars,size];omega
def Da:∀(L:List Ty)(l:List Nat),(aX l L).length<=l.length+ak L
 |[],l=>by simp[aX,ak]|t::L,l=>by
   have h1:=rW t l;have h2:=Da L<|vars l t;simp[aX,ak];omega
end
mutual
def Wf:Ty->Prop
 |.var _=>True|.aM c l=>VS c l.length/\Dw l
def Dw:List Ty->Prop
 |[]=>True|t::l=>Wf t/\Dw l
end
def QB:∀(l:List Ty),Dw l↔∀t,t∈l->Wf t
 |[]=>by simp[Dw]|a::l=>by simp[Dw,QB l]
mutual
def Wf.ZL{R:Nat->Ty}:∀t,Wf t->(∀v,aA v t->Wf (R v))->Wf (j3 R t)
 |.var n,_,hR=>by simpa[j3]using hR n (by simp[aA])|.aM c l,h,hR=>by simp only[j3,Wf,eK];exact⟨h.1,Dw.ZL l h.2<|λv hv=>hR v<|by simpa[aA]using hv⟩
def Dw.ZL{R:Nat->Ty}:∀l,Dw l->(∀v,bZ v l->Wf (R v))->Dw (aU R l)
 |[],_,_=>by simp[aU,Dw]|t::l,h,hR=>⟨Wf.ZL t h.1<|λv hv=>hR v<|ja hv,Dw.ZL l h.2<|λv hv=>hR v<|jc hv⟩
end
def oW{l}{M}(h:vars l t<+:M):wr dec M t=wr dec (vars l t) t:=
 WH dec h t λn hn=>(bC t l n).2<|jc hn
namespace In
open Classical in
mutual
noncomputable def trim:Ty->Ty
 |.var n=>.var n|.aM c l=>if VS c l.length then .aM c (Db l)else .var 0
noncomputable def Db:List Ty->List Ty
 |[]=>[]|t::l=>trim t::Db l
end
def Dd(σ:Nat->Ty):∀l,(aU σ l).length=l.length
 |[]=>rfl|t::l=>by simp[aU,Dd σ l]
mutual
def Aw{θ:Nat->Ty}:∀t,Wf t->trim (sub θ t)=sub (λv=>trim<|θ v) t
 |.var n,_=>rfl|.aM c l,h=>by
  simp only[sub,trim];rw[if_pos (by rw[Dd];exact h.1),De l h.2]
def De{θ:Nat->Ty}:∀l,Dw l->Db (aU θ l)=aU (λv=>trim<|θ v) l
 |[],_=>rfl|t::l,h=>by simp only[aU,Db];rw[Aw t h.1,De l h.2]
end
mutual
def RM{σ:Nat->Ty}:∀t,sub σ t=trim t->Wf t
 |.var n,_=>trivial|.aM c l,h=>by
  simp only[sub,trim]at h;by_cases q:VS c l.length
  .rw[if_pos q]at h;injection h with _ h;exact⟨q,KR l h⟩
  .rw[if_neg q]at h;cases h
def KR{σ:Nat->Ty}:∀l,aU σ l=Db l->Dw l
 |[],_=>trivial|t::l,h=>by
  simp only[aU,Db]at h;injection h with d j;exact⟨RM t d,KR l j⟩
end
def wY.wf(h:wY θ a b)(d:Wf a)(j:Wf b)v:Wf (θ v):=by
 refine RM _<|h.gen (λv=>trim<|θ v) ?_ v;rw[<-Aw a d,<-Aw b j,h.one]
def lD n:Wf (.var n):=trivial
theorem oe(h:Wf t)(k:∀n,Wf<|σ n):Wf (sub σ t):=Wf.ZL t h λn _=>k n
def FtF(z:Ft):Prop:=z.f.kind=7\/z.f.kind=6/\(Wf z.l/\size z.l<=48)/\Wf z.r/\size z.r<=48
def FtF.six{z:Ft}(h:FtF z)(k:z.f.kind=6):(Wf z.l/\size z.l<=48)/\Wf z.r/\size z.r<=48:=by
 obtain h|h:=h
 .omega
 .exact h.2
def KF(s:St):=∀n,Wf<|s.k n
def EF(Γ:Env):=∀y c,Γ y=ea c->Wf c.of
def MF(mk:Mks):=∀x tk m,mk x=ea (tk,m)->Dw tk/\Wf m
def Hf{α:Type}(m:MM α)s(Q:α->Prop):=∀o,m s o->match o with
 |.ok (a,s')=>Q a/\KF s'|.error z=>FtF z
section
variable {s:St}
def Hf.ret{a}{Q:α->Prop}(h:Q a)(k:KF s):Hf (dl a) s Q:=by grind[KF,Hf,dl]
def Hf.and{m}{g}{Q:α->Prop}{R:β->Prop}(h:Hf m s Q)(k:∀a s',Q a->KF s'->Hf (g a) s' R):Hf (andM m g) s R:=by grind[Hf,KF,andM]
def Hf.no{Q:α->Prop}:Hf noM s Q:=λ_ q=>q.elim
def Hf.ite{c:Prop}[Decidable c]{m m'}{Q:α->Prop}(h:c->Hf m s Q)(k:¬c->Hf m' s Q):Hf (if c then m else m') s Q:=BS
def DU f t:FtF (p9 f t):=.inl rfl
def uS(k:KF s):Hf lC s λ_=>True:=by simp_all[KF,Hf,lC]
def qK(k:KF s)(z:Wf a)(B:Wf b)f t:Hf (tG a b f t) s λ_=>True:=λo q=>by
 have d:=oe z k;have j:=oe B k;obtain⟨_,rfl⟩|⟨l,u,⟨θ,y,rfl⟩|⟨_,rfl⟩⟩:=q
 .exact DU f t
 .exact⟨trivial,λn=>oe (k n)<|y.wf d j⟩
 .exact .inr ⟨rfl,⟨d,l⟩,j,u⟩
def RN(k:KF s)l ρ:Hf (r9 l ρ) s λ_=>True:=by simp_all[KF,Hf,r9]
def ZM ρ(h:Wf t):Wf (sub (via ρ) t):=by grind[Wf,sub,via,oe]
def Fp(k:KF s)(h:Wf t)ρ:Hf (qD t ρ) s λq=>Wf q.1:=(RN k _ _).and λiU _ _ k1=>.ret (ZM iU h) k1
def afH(k:KF s){Γ:Env}(d:EF Γ)x f t:Hf (rY Γ x f t) s Wf:=by
 unfold rY
 cases hx:Γ x with
 |none=>exact .no|some c=>
  rintro o(⟨_,rfl⟩|⟨_,ρ,s',j,rfl⟩)
  .exact DU f t
  .exact⟨ZM ρ<|oe (d x c hx) k,(RN k _ _ _ j).2⟩
def afI{tk}{m}(h:Dw tk)(k:Wf m):Wf (arr tk m):=by
 induction tk with
 |nil=>exact k|cons t tk ih=>exact⟨⟨aD,λ_=>rfl,.inl rfl⟩,h.1,ih h.2,trivial⟩
def Ax:Wf iT:=⟨⟨aD,λe=>(by obtain e|e:=e<;>exact absurd e aD),.inr<|.inr ⟨_,_,toList_mk _,aD,aD⟩⟩,trivial⟩
def yf:Wf nX:=⟨⟨aD,λe=>(by obtain e|e:=e<;>exact absurd e aD),.inr<|.inr ⟨_,_,toList_mk _,aD,aD⟩⟩,trivial⟩
def Dy:Wf kM:=⟨⟨aD,λe=>(by obtain e|e:=e<;>exact absurd e aD),.inr<|.inr ⟨_,_,toList_mk _,aD,aD⟩⟩,trivial⟩
def adI(d:Wf a)(j:Wf b):Wf (mD a b):=⟨⟨aD,λ_=>rfl,.inl rfl⟩,d,j,trivial⟩
def adJ(d:Wf a)(j:Wf b):Wf (tPr a b):=⟨⟨aD,λ_=>rfl,.inr<|.inl rfl⟩,d,j,trivial⟩
end
def EF.set{Γ:Env}(h:EF Γ)x{c}(hc:Wf c.of):EF (cV Γ x c):=λy d q=>by
 unfold cV at q;split at q
 .grind
 .exact h y d q
theorem EF.over{g Γ}(hg:EF g)(h:EF Γ):EF (over g Γ):=by grind[EF,over]
def PF(p:PM):=∀g s,KF s->EF g->Hf (p g) s λq=>Wf q.1/\EF q.2
def XF(p:EM):=∀Γ s,KF s->EF Γ->Hf (p Γ) s Wf
def RP{p:Prop}(h:p:=by
 rw[jo,ju ae];intro _ _ _ _;exact .no):p:=h
def ZN{ps}(h:∀p∈ps,PF p)i:PF (dB ps i):=by
 unfold dB;by_cases hi:i<ps.length
 .exact ye
 .exact RP
def NQ{ps}(h:∀p∈ps,XF p)i:XF (dB ps i):=by
 unfold dB;by_cases hi:i<ps.length
 .exact ye
 .exact RP
def RQ:∀(tk:List Ty)(L:List Nd)(ps:List PM),Dw tk->(∀p∈ps,PF p)->∀(g:Env)(ρ:Rn)(s:St),KF s->EF g->Hf (me tk L ps g ρ) s λq=>EF q.1
 |u::tk,x::L,p::ps,hw,hp,g,ρ,s,k,hg=>by
  unfold me;refine(hp p ag g s k hg).and λq s1⟨t1,g1⟩k1=>?_;refine(Fp k1 hw.1 ρ).and λi s2 t2 k2=>?_;refine(qK k2 t1 t2 _ _).and λ_ s3 _ k3=>?_;exact RQ tk L ps hw.2 (λp h=>hp p<|by simp[h]) q.2 i.2 s3 k3 g1
 |[],_,_,_,_,g,ρ,s,k,hg=>.ret hg k|_::_,[],_,_,_,g,ρ,s,k,hg=>.ret hg k|_::_,_::_,[],_,_,g,ρ,s,k,hg=>.ret hg k
def afJ{mk:Mks}(u:MF mk)k x L ps(j:∀p∈ps,PF p):PF (tZ mk k x L ps):=by
 intro g s h d;unfold tZ;split
 .exact(uS h).and λv s1 _ k1=>.ret ⟨trivial,d⟩ k1
 split
 .exact(uS h).and λv s1 _ k1=>.ret ⟨trivial,d.set _ trivial⟩ k1
 split
 .exact .ret ⟨Ax,d⟩ h
 split
 .exact .ret ⟨yf,d⟩ h
 split
 .exact .ret ⟨Dy,d⟩ h
 split
 .refine(ZN j 0 g s h d).and λa s1⟨t1,g1⟩k1=>?_;refine(ZN j 1 _ s1 k1 g1).and λb s2⟨t2,g2⟩k2=>?_;exact .ret ⟨adJ t1 t2,g2⟩ k2
 cases e:mk x with
 |none=>exact .no|some p=>
  obtain⟨tk,m⟩:=p;have⟨l,o⟩:=u x tk m e;refine(RQ tk L ps l j g Bt s h d).and λq s1 g1 k1=>?_;refine(Fp k1 o q.2).and λi s2 t2 k2=>?_;exact .ret ⟨t2,g1⟩ k2
mutual
def ZO{mk:Mks}(d:MF mk):∀nd,PF<|dG mk nd
 |.mk k s n L f t a=>afJ d k s L _<|RS d L
def RS{mk:Mks}(d:MF mk):∀L,∀p∈nC mk L,PF p
 |[],p,h=>by simp[nC]at h|x::l,p,h=>by
  simp only[nC,jp]at h;obtain rfl|h:=h
  .exact ZO d x
  .exact RS d l p h
end
def RT{mk:Mks}(d:MF mk):∀(L:List Nd)(ps:List EM),(∀p∈ps,XF p)->∀(Γ:Env)(t r:Ty)(s:St),KF s->EF Γ->Wf t->Wf r->Hf (nI mk Γ t r L ps) s λ_=>True
 |p::e::L,_::pe::ps,hp,Γ,t,r,s,h,hΓ,ht,hr=>by
  unfold nI;refine(ZO d p _ s h<|λ_ _ q=> iP).and λq s1⟨t1,g1⟩k1=>?_;refine(qK k1 ht t1 _ _).and λ_ s2 _ k2=>?_;refine(hp pe ag _ s2 k2<|g1.over hΓ).and λu s3 t3 k3=>?_;refine(qK k3 hr t3 _ _).and λ_ s4 _ k4=>?_;exact RT d L ps (λp h=>hp p<|by simp[h]) Γ t r s4 k4 hΓ ht hr
 |[],_,_,_,_,_,s,h,_,_,_=>.ret trivial h|[_],_,_,_,_,_,s,h,_,_,_=>.ret trivial h|_::_::_,[],_,_,_,_,s,h,_,_,_=>.ret trivial h|_::_::_,[_],_,_,_,_,s,h,_,_,_=>.ret trivial h
def GI rc x e{j:EM}(l:XF j):XF (cG rc x e j):=by
 intro Γ s h d;unfold cG
 cases rc with
 |false=>exact l Γ s h d|true=>
  refine(uS h).and λv s1 _ k1=>?_;refine(l _ s1 k1<|d.set x (c:=mono<|.var v)<|lD v).and λt s2 t2 k2=>?_;exact(qK k2 (lD v) t2 _ _).and λ_ s3 _ k3=>.ret t2 k3
def ZP rc x e{j l:EM}(o:XF j)(u:XF l):XF (nK rc x e j l):=by
 intro Γ s h d;refine(GI rc x e o Γ s h d).and λt s1 t1 k1=>?_;exact u _ s1 k1<|d.set x<|oe t1 k1
def afK{mk:Mks}(u:MF mk)k x L f t ps(o:∀p∈ps,XF p)(y:k=14->Wf (bm []<|es<|iH L 1).1):XF (ls mk k x L f t ps):=by
 intro Γ s h d;have j:=NQ o 0;have l:=NQ o 1;have z:=NQ o 2;unfold ls;refine .ite (λ_=>?_) λ_=>?_
 .exact afH h d _ _ _
 refine .ite (λ_=>?_) λ_=>?_
 .unfold upM
  cases e:mk x with
  |none=>exact .no|some p=>
   obtain⟨tk,m⟩:=p;have⟨B,E⟩:=u x tk m e;exact(Fp h (afI B E) Bt).and λq s1 t1 k1=>.ret t1 k1
 refine .ite (λ_=>?_) λ_=>?_
 .exact .ret Ax h
 refine .ite (λ_=>?_) λ_=>?_
 .exact .ret yf h
 refine .ite (λ_=>?_) λ_=>?_
 .exact .ret Dy h
 refine .ite (λ_=>?_) λ_=>?_
 .refine(j Γ s h d).and λa s1 t1 k1=>?_;exact(l Γ s1 k1 d).and λb s2 t2 k2=>.ret (adJ t1 t2) k2
 refine .ite (λe=>?_) λ_=>?_
 .refine .ite (λ_=>?_) λ_=>.no;refine(j Γ s h d).and λa s1 t1 k1=>?_;exact(qK k1 t1 (y e) _ _).and λ_ s2 _ k2=>.ret (y e) k2
 refine .ite (λ_=>?_) λ_=>?_
 .refine(j Γ s h d).and λa s1 t1 k1=>?_;refine(qK k1 t1 Ax _ _).and λ_ s2 _ k2=>?_;refine(l Γ s2 k2 d).and λb s3 t3 k3=>?_;refine(qK k3 t3 Ax _ _).and λ_ s4 _ k4=>.ret ?_ k4;split
  .exact yf
  .exact Ax
 refine .ite (λ_=>?_) λ_=>?_
 .refine(j Γ s h d).and λa s1 t1 k1=>?_;refine(l Γ s1 k1 d).and λb s2 t2 k2=>?_;refine(uS k2).and λv s3 _ k3=>?_;exact(qK k3 t1 (adI t2<|lD v) _ _).and λ_ s4 _ k4=>.ret (lD v) k4
 refine .ite (λ_=>?_) λ_=>?_
 .refine(uS h).and λv s1 _ k1=>?_;exact(j _ s1 k1<|d.set _ (c:=mono<|.var v)<|lD v).and λa s2 t2 k2=>.ret (adI (lD v) t2) k2
 refine .ite (λ_=>?_) λ_=>?_
 .exact ZP _ _ _ j l Γ s h d
 refine .ite (λ_=>?_) λ_=>?_
 .exact ZP _ _ _ j l Γ s h d
 refine .ite (λ_=>?_) λ_=>?_
 .refine(j Γ s h d).and λa s1 t1 k1=>?_;refine(qK k1 t1 yf _ _).and λ_ s2 _ k2=>?_;refine(l Γ s2 k2 d).and λb s3 t3 k3=>?_;refine(z Γ s3 k3 d).and λc s4 t4 k4=>?_;exact(qK k4 t3 t4 _ _).and λ_ s5 _ k5=>.ret t3 k5
 refine .ite (λ_=>?_) λ_=>?_
 .refine(j Γ s h d).and λa s1 t1 k1=>?_;refine(uS k1).and λv s2 _ k2=>?_;exact(RT u L.tail ps.tail (λp h=>o p<|List.mem_of_mem_tail h) Γ a _ s2 k2 d t1<|lD v).and λ_ s3 _ k3=>.ret (lD v) k3
 .exact .no
mutual
def NW:Nd->Prop
 |.mk k _ _ L _ _ _=>(k=14->Wf (bm []<|es<|iH L 1).1)/\NWL L
def NWL:List Nd->Prop
 |[]=>True|x::l=>NW x/\NWL l
end
mutual
def adh{mk:Mks}(d:MF mk):∀nd,NW nd->XF (inf mk nd)
 |.mk k s n L f t a,h=>afK d k s L f t _ (ZQ d L h.2) h.1
def ZQ{mk:Mks}(d:MF mk):∀L,NWL L->∀p∈pM mk L,XF p
 |[],_,p,h=>by simp[pM]at h|x::l,hn,p,h=>by
  simp only[pM,jp]at h;obtain rfl|h:=h
  .exact adh d x hn.1
  .exact ZQ d l hn.2 p h
end
end In
mutual
def nm(M:List BA):Nd->Ty
 |.mk k s _ L _ _ _=>if k=16 then .var (ix s M+1)else .aM (pP k s) (nmL M L)
def nmL(M:List BA):List Nd->List Ty
 |[]=>[]|x::l=>nm M x::nmL M l
end
def tr(d j:List BA)i:=ix (d.getD (i-1) ⟨#[]⟩) j+1
def vn i:=bs (39::118::dec i)
def lvl tight:=if tight=0 then 2 else if tight=1 then 1 else 0
end
def Ay:joinedFacts j6 3 Tryz.f3 Rows.retypedSpec Rows.retypedRow=ga:=by
 rw[joinedFacts];exact(fC (fC (fC (fC (fC (fC (fC (fC (fC (fC (fC (fC (fC (fC (fC (fC (fC (fC (fC (fC (fC (fC (fC (fC (fC (fC (fC (fC (fC (fC (fC MD DC) OJ) ME) MH) MI) cp6) MJ) cp8) ML) Io) Ip) Iq) Ir) It) Iu) Iw) Ix) Iy) Iz) IA) IB) IC) ID) aiw) aix) IE) IF) qkr) II) IJ) IK)
end Go.Proofs.YtonaidfgokhmoaaGreatDoor

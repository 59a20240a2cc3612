import Derived.Deep.CutRange
import Derived.Deep.RegionLaw
import Derived.LaidMore
import Derived.Laws.EntriesVeiled
import Derived.Test.YtnldmeakhapdhaaGreatDoorTie
import Derived.Test.YtnldmeakhapdhaaGreatDoorRPure
import Derived.Test.YtnldmeakhapdhaaGreatDoorRLd0
set_option linter.all false
set_option maxRecDepth 100000
set_option maxHeartbeats 8000000
namespace Go.Proofs.YtnldmeakhapdhaaGreatDoor
open Or renaming inl->ja,inr->jc
open Pu renaming Tok->jd,aX->jf,bH->jh,cX->ji,BT->jj,gn->jk,at_->jl,gV->jm
open _root_.List renaming getD_eq_getElem?_getD->jo,mem_cons->jp,cons_append->jq,getElem?_eq_getElem->jt,map_nil->ju,getElem?_eq_none->jv,mem_cons_of_mem->jx,map_congr_left->jy,getElem_mem->jz,map_cons->j5
open Un renaming sub->j6,written->j7
open _root_.Nat renaming le_trans->j8,lt_of_lt_of_le->j9
open Go.ByteArray renaming toList_eq->qe
open Go.Proofs.Tryz renaming prog->qf,underlying9->qg
open Go Go.RowKit Proofs.Tryz
variable {C:Array Value} {c s:BA} {ns:List BA} {L L':List Nd} {T:List jd} {m:List UInt8} {e expr part sS sm small Hh:M Nd} {A N base cap f f' g i k k' kb len n nb pb rb v xb:Nat} {r:Nat->Int} {ρ bK:Nat->Nat} {K:Nat->Option Un.Ty} {D P Q S Λ cG:Nat->Prop} {R θ σ:Nat->Un.Ty} {e':Nd} {p:Option Addr} {pl:Prop} {α β:Type} {x:UInt8} {a a' b b' t t':Un.Ty} {hv iv nv:Value} {w w':World}
section
open Un
def dg n:=UInt8.ofNat<|48+n%10
def dec(n:Nat):List UInt8:=if n<10 then[dg n]else dec (n/10)++[dg n]
termination_by n
decreasing_by omega
def bs(l:List UInt8):BA:=⟨l.toArray⟩
def dY l:(bs l).size=l.length:=by simp[bs,ByteArray.size]
def kG a b:bs a++bs b=bs (a++b):=by
 apply ByteArray.ext;simp[bs]
def yz n:(dec n).length<=n+1:=by
 induction n using Nat.strongRecOn with
 |_ n ih=>
  rw[dec];split
  .simp
  .grind
structure P10(w:World):Prop where
 c:∀j,j<10->w.cell? ⟨2,j,none⟩=some (.int .u64 ((10^j:Nat):Int))
 z:2<w.heap.size
end
section
open Go.ChangeShapes Go.WideShapes Go.ChangeAt Go.WideMaps Go.WideElems
def own:ownKnob Tryz.prog.godebug=none:=qkr
def laidOut:laidOutB qf=true:=qkr
def gWords:Tryz.prog.globalNamed "assay/reader.words" =some 1:=qkr
def gSigns:Tryz.prog.globalNamed "assay/reader.signs" =some 0:=qkr
def ahr:(Tryz.prog.globals[1]?).map (·.type)=some 270:=qkr
def ahs:(Tryz.prog.globals[0]?).map (·.type)=some 270:=qkr
def SA:List (String×DataW Unit):=Rows.renamedRow.laid
def aa8 os args:laidMetH qf SA ((World.doorLaid qf 72 os).forCall (λ_ _=>0) ⟨#[],args,[]⟩).memory:=
 laidMetH_of_parts3 (fuel:=8) (laidMet_of_run' 8 qkr qkr) qkr qkr
def adZ{W}(h:laidMetH qf SA W):Laid W:=by
 rw[MakeChecks.laidMetH_plain _ _ _ qkr]at h;obtain⟨ps,⟨g0,t0,cs0,f0,p0,q0,hg0,ht0,hv0,hd0,⟨g1,t1,cs1,f1,p1,q1,hg1,ht1,M6,Dq,⟨g2,t2,cs2,f2,p2,q2,MP,ht2,Ui,hd2,⟨g3,t3,cs3,f3,p3,q3,hg3,ht3,hv3,hd3,⟨g4,t4,cs4,f4,p4,q4,hg4,ht4,hv4,hd4,⟨g5,t5,cs5,f5,p5,q5,hg5,ht5,hv5,hd5,⟨g6,t6,cs6,f6,p6,q6,Lj,ht6,hv6,hd6,_,_⟩,_⟩,_⟩,_⟩,_⟩,_⟩,_⟩,_,_⟩:=h;obtain rfl:=Option.some.inj<|gWords.symm.trans hg5;obtain rfl:=Option.some.inj<|gSigns.symm.trans Lj;obtain rfl:=Option.some.inj<|ahr.symm.trans ht5;obtain rfl:=Option.some.inj<|ahs.symm.trans ht6;have hw:=zS Pu.words Tryz.underlying270 qg strCells hd5;have hs:=zS signs Tryz.underlying270 qg strCells hd6;have c1:∀j,j<13->W.cell? ⟨1,j,none⟩=some (Sv<|Pu.kN j):=λj hj=>by
  rw[World.var?_cell hg5 hv5 j];have:=hw j hj;rw[Array.getElem?_toList]at this;exact this
 have c0:∀j,j<13->W.cell? ⟨0,j,none⟩=some (Sv<|cS j):=λj hj=>by
  rw[World.var?_cell Lj hv6 j];have:=hs j hj;rw[Array.getElem?_toList]at this;exact this
 exact⟨c1,c0,World.block_lt_of_cell? _ _<|c1 0 ae⟩
end
section
open Un
structure TV where
 n:Int
 s:BA
 la:Option Addr
 ll:Nat
 lc:Nat
def TV.l(x:TV):List Value:=[Iv x.n,.string x.s,.slice x.la x.ll x.lc]
def at3(w:World)g i(x:TV):=∀j,j<3->w.cell? ⟨g,i*3+j,none⟩=(x.l)[j]?
def BV(s:BA):=∃x r,s.toList=x::r/\jj x.toNat=true/\(∀y∈r,jf y.toNat=true)
def YO c n:=c.size<=1000/\(c=pN\/c=m9->n=2)/\(c=pN\/c=m9\/BV c)
def far(rk:Nat->Nat):Ty->Nat
 |.var n=>rk n+1|.aM _ _=>0
def _root_.Go.RowKit.Below.drewN{B}{a}(h:Below B a w)n:Below B a (w.drewN n):=⟨h.os,h.tape,h.output,h.size,h.block⟩
def Bx.drewN{w}{b}{C}(h:Bx w b C)n:Bx (w.drewN n) b C:=h.below<|(Below.refl _ _).drewN n
def aa9 c n(h0: -9223372036854775808<=c)(h1:c<=9223372036854775807)(hn:0<n)(W6:n<=1000):Cq 13 #[Iv c,Iv n] w λe w'=>∃r:Int,e=.returned (Iv r)/\0<=r/\r<n/\w'=w:=by
 by_cases hc:c<0
 .go_enter func13,ntmps13
  go_wp2
  go_ret;refine⟨_,rfl,?_,?_,rfl⟩
  .show 0<=-((c+1).tmod n);rw[<-Int.neg_tmod];exact Int.tmod_nonneg _ ae
  .show-((c+1).tmod n)<n;rw[<-Int.neg_tmod];exact Int.tmod_lt_of_pos _ hn
 .have hc':decide (c<0)=false:=bF;go_enter func13,ntmps13
  go_wp2
  go_ret;exact⟨_,rfl,Int.emod_nonneg _ ae,Int.emod_lt_of_pos _ hn,rfl⟩
structure Src w xb p len cap(r:Nat->Int)(A:Nat):Prop where
 b:Bx w xb #[.slice p len cap,.int .i64 (A:Int)]
 a:A<=len
 l:(len:Int)<=9223372036854775807
 c:∀i,i<len->∃g o,p=some ⟨g,o,none⟩/\g<w.heap.size/\g≠xb/\w.cell? ⟨g,o+i,none⟩=some (.int .i64<|r i)
 r:∀i,i<len->-9223372036854775808<=r i/\r i<=9223372036854775807
def Src.ke{w}{A':Nat}(h:Src w xb p len cap r A)(hk:Ke xb w w')(hb:Bx w' xb #[.slice p len cap,.int .i64 (A':Int)])(ha:A'<=len):Src w' xb p len cap r A':=by
 refine⟨hb,ha,h.l,λi hi=>?_,h.r⟩;have⟨g,o,e,hg,cV,hc⟩:=h.c i hi;exact⟨g,o,e,j9 hg hk.size,cV,(World.cell?_of_block (a:=⟨g,o+i,none⟩) (w:=w)<|hk.block g hg cV).trans hc⟩
def Src.af{w}(h:Src w xb p len cap r A)(hb:Bq w w'):Src w' xb p len cap r A:=h.ke (Ke.of hb) (h.b.below hb) h.a
def yj xb p len cap r w w':=∃A,Src w' xb p len cap r A/\Ke xb w w'
def yk(h:Src w xb p len cap r A)n(hn:0<n)(W6:n<=1000):Cq 10 #[Pv xb,Iv n] w λe w'=>∃q:Int,e=.returned (Iv q)/\0<=q/\q<n/\yj xb p len cap r w w':=by
 have⟨c0,f0,z0⟩:=h.b;have hl:=h.l;have ha:=h.a;by_cases hA:A<len
 .have hA':decide ((len:Int)<=(A:Int))=false:=bF;obtain⟨g,o,rfl,hg,cV,hc⟩:=h.c A hA;have⟨r0,r1⟩:=h.r A hA;have hA2:(A:Int)<(len:Int):=ae;go_enter func10,ntmps10
  go_wp2
  go_quiet(fail)
  go_wp2
  go_quiet(fail);go_wp2_with fail;refine(aa9 (r A) n r0 r1 hn W6).mono ?_;rintro e w'⟨q,rfl,q0,q1,rfl⟩
  go_wp2
  go_ret;have e1:((A+1:Nat):Int)=(A:Int)+1:=ae;have hk:∀m,Ke xb w<|(w.drewN m).setCell ⟨xb,1,none⟩<|Iv<|(A:Int)+1:=λm=>(Ke.of<|(Below.refl _ _).drewN m).set 1 _;exact⟨q,rfl,q0,q1,A+1,h.ke (hk _) (by rw[e1];exact(h.b.drewN _).rK 1 _ _ rfl ag) ae,hk _⟩
 .have hA':decide ((len:Int)<=(A:Int))=true:=bF;go_enter func10,ntmps10
  go_wp2
  go_quiet(fail)
  go_wp2
  go_ret;have hk:∀m,Ke xb w<|w.drewN m:=λm=>Ke.of<|(Below.refl _ _).drewN m;exact⟨0,rfl,ae,hn,A,h.ke (hk _) (h.b.drewN _) h.a,hk _⟩
def Raw(w:World)(p:Option Addr)len(r:Nat->Int):=
 ∀i,i<len->(∃g o,p=some ⟨g,o,none⟩/\g<w.heap.size/\w.cell? ⟨g,o+i,none⟩=some (Iv<|r i))/\-9223372036854775808<=r i/\r i<=9223372036854775807
def Txt(w:World)g n(f:Nat->BA):=∀j,j<n->w.cell? ⟨g,j,none⟩=some (.string<|f j)
def OY(h:Src w xb p len cap r A){lc}{f}(ht:Txt w g n f)(hg:g<w.heap.size)(Xf:g≠xb)(hn:0<n)(W6:n<=1000):
 Cq 16 #[Pv xb,.slice (some ⟨g,0,none⟩) n lc] w λe w'=>∃j,j<n/\e=.returned (.string<|f j)/\yj xb p len cap r w w':=by
 have HC:=yk h (n:Int) ae ae;go_enter func16,ntmps16;go_wp2_with fail;refine HC.mono ?_;rintro e w'⟨q,rfl,q0,q1,A',HS,HK⟩;obtain⟨j,rfl⟩:∃j:Nat,q=j:=⟨q.toNat,ae⟩;have hj:j<n:=ae;have c1:=(World.cell?_of_block (a:=⟨g,j,none⟩) (w:=w)<|HK.block g hg Xf).trans<|ht j hj
 go_wp2
 go_ret;exact⟨j,hj,rfl,A',HS,HK⟩
end
section
open Go.ChangeShapes Go.WideShapes Go.ChangeAt Go.WideMaps Go.WideElems
def AP:Tryz.prog.underlying 22=some (.slice 3):=qkr
def aa_{H:Type}{enc}{fuel}{x:DataW H×List MemPlace}(h:DataW.trod enc qf w base (λ_=>true) true fuel 22 [.slice p len cap]=some x):(len:Int)<=9223372036854775807/\∃r,Raw w p len r:=by
 obtain⟨e,_⟩|⟨a,amH,aha,zs,e,_,hl,hm,hz,_,bY,hwz⟩:=open_ints AP Tryz.underlying3 YU h
 .simp at e;obtain⟨rfl,rfl,rfl⟩:=e;exact⟨ag,λ_=>0,λi hi=>ae⟩
 .simp at e;obtain⟨rfl,rfl,rfl⟩:=e;simp only[if_true]at hz;refine⟨by simp only[maxLen]at hm;omega,λi=>zs.getD i 0,λi hi=>?_⟩;have Xs:i<zs.length:=ae;obtain⟨g,o,sp⟩:=a;have hsp:sp=none:=by simpa[Addr.add]using World.cell?_spot (bY 0 ae)
  subst hsp;have hc:=bY i Xs;rw[add_plain]at hc;have hw:=hwz (zs.getD i 0) (by rw[jo,jt Xs];exact jz _);have e1:IntKind.i64.min= -9223372036854775808:=rfl;have e2:IntKind.i64.max=9223372036854775807:=rfl;simp only[Lit.wf,Bool.and_eq_true,decide_eq_true_eq,e1,e2]at hw;exact⟨⟨g,o,rfl,World.block_lt_of_cell? _ _ hc,hc⟩,hw.1,hw.2⟩
end
section
open Un
def aP:List (Nd×Nd)->List Nd
 |[]=>[]|p::l=>p.1::p.2::aP l
def lv:Nd->Nat
 |.mk k s _ L _ _ _=>if k=1\/k=3\/k=4\/k=5\/k=6\/k=14\/k=15\/k=16 then 5 else if k=2 then(if L=[]then 5 else 4)else if k=8 then 4 else if k=17 then 1 else if k=7 then(if s.toList=[42]then 3 else if s.toList=[60]then 1 else 2)else 0
inductive Dc where
 |ty(name:jd)(vars:List jd)(aaR:List Nd)
 |lt(amE:Bool)(name:jd)(body:Nd)
def dr(T:List jd)sm:=aK (cY T 2) λt k=>dM T sm 1 T.length (.mk 2 t.text 0 [] t.al (aG T k) t.al) k
def lW(T:List jd)(mk:M Nd)(go:List Nd->M (List Nd))l:=λk=>if aU (tk T k) UA=true then go l (k+1)else .ok (l,k)
def dZ(T:List jd)(mk:M Nd):Nat->List Nd->M (List Nd)
 |0,l=>λk=>.ok (l,k)|f+1,l=>aK mk λx=>lW T mk (dZ T mk f)<|l++[x]
def mN(T:List jd):Nat->List jd->M (List jd)
 |0,l=>λk=>.ok (l,k)|f+1,l=>λk=>if(tk T k).kind=3 then mN T f (l++[tk T k]) (k+1)else .ok (l,k)
def DI(T:List jd)(mk:M Nd):M Dc:=aK (bz T nY) λ_=>aK (cY T 2) λt=>aK (mN T T.length []) λvs=>aK (bz T QE) λ_=>aK (dZ T mk T.length []) λms=>aK (bz T Aj) λ_ k=>.ok (.ty t vs ms,k)
def AH(T:List jd)(e:M Nd):M Dc:=aK (bX T e) λb=>aK (bz T Aj) λ_ k=>.ok (.lt (b.1==11) b.2.1 b.2.2,k)
def dD(T:List jd)n:=λk=>if aU (tk T k) nY=true then DI T (dr T<|aH T (gP T n) (gP T n) 1) k else AH T (bq T n) k
def cT(T:List jd)(d:M Dc):Nat->List Dc->M (List Dc)
 |0,l=>λk=>.ok (l,k)|f+1,l=>λk=>if aU (tk T k) nY=true\/aU (tk T k) sR=true then aK d (λx=>cT T d f<|l++[x]) k else .ok (l,k)
def Gk(T:List jd)(l:List Dc):M (List Dc):=λk=>if(tk T k).kind=7 then .ok (l,k)else .error (d_<|tk T k)
def bV(s:BA):Except Fl (List Dc):=
 if 400<s.size then .error ⟨1,0,0⟩else
 match aK (cT (jh s 0) (dD (jh s 0) (jh s 0).length) (jh s 0).length []) (Gk<|jh s 0) 0 with
 |.error f=>.error f|.ok (l,_)=>.ok l
end
section
variable {σ:St}
def bB s:∀k a k',bz T s k=.ok (a,k')->k'=k+1:=by
 intro k a k' h;rw[bz]at h;split at h
 .cases h;rfl
 .cases h
def eR n:∀k a k',cY T n k=.ok (a,k')->k'=k+1:=by
 intro k a k' h;rw[cY]at h;split at h
 .cases h;rfl
 .cases h
def aA{m}{f:α->M β}{b:β}(h:aK m f k=.ok (b,k')):∃a k1,m k=.ok (a,k1)/\f a k1=.ok (b,k'):=by
 rw[aK]at h;split at h
 .cases h
 .grind
def rX{mk}{a}(h:oY T mk k=.ok (a,k')):k<k':=by
 have⟨_,k1,h1,h2⟩:=aA h;have:=bB _ _ _ _ h1
 cases h2
 omega
theorem cH(hp:Fm part)(ht:Fm Hh)sort:∀k a k',aH T part Hh sort k=.ok (a,k')->k<k':=by
 intro k a k' h;rw[aH]at h;split at h
 .split at h
  .rw[gq]at h;split at h
   .cases h;omega
   .have⟨a1,k1,h1,h2⟩:=aA h;have m1:=hp _ _ _ h1;rw[kx]at h2;split at h2
    .have⟨b,k3,h3,h4⟩:=aA h2;have:=hp _ _ _ h3;have:=rX h4;omega
    .split at h2
     .have⟨b,k3,h3,h4⟩:=aA h2;have:=ht _ _ _ h3;have:=rX h4;omega
     .have:=rX h2;omega
  .cases h;omega
 .cases h
def ZK sort:∀k,(tk T k).kind=2->aH T part Hh sort k=.ok (b_<|tk T k,k+1):=by
 intro k hk;have h1:aU (tk T k) ls=false:=by simp[aU,hk]
 have h2:aF (tk T k) sort=true:=by
  rw[aF,bI];simp[hk]
 rw[aH];rw[h1,h2];rfl
def L0{p:Prop}(h:p:=by
 split at h
 .obtain⟨y,k1,h1,h2⟩:=aA h;have:=hm _ _ _ h1;have:=ih _ _ _ _ h2;omega
 .cases h;omega):p:=h
def QI(hm:∀k a k',small k=.ok (a,k')->k<k')sort:∀f x k a k',dM T small sort f x k=.ok (a,k')->k<=k':=by
 intro f
 induction f with
 |zero=>intro x k a k' h;cases h;omega|succ f ih=>
  intro x k a k' h;unfold dM at h;exact L0
def uQ(hm:∀k a k',small k=.ok (a,k')->k<k')sort:∀k a k',iY T small sort k=.ok (a,k')->k<k':=by
 intro k a k' h;rw[iY]at h;split at h
 .have⟨y,k1,h1,h2⟩:=aA h;have:=hm _ _ _ h1;have:=QI hm sort _ _ _ _ _ h2;omega
 .exact hm _ _ _ h
def nM:Fm (lO (α:=α) T):=by
 intro k a k' h
 cases h
theorem df:∀n,Fm<|gP T n:=by
 intro n
 induction n with
 |zero=>exact nM|succ n ih=>
  intro k a k' h;rw[gP]at h;have⟨y,k1,h1,h2⟩:=aA h;have:=uQ (cH ih ih 1) 1 _ _ _ h1;rw[oK]at h2;split at h2
  .have⟨z,k3,h3,h4⟩:=aA h2;have:=ih _ _ _ h3
   cases h4
   omega
  .cases h2;omega
def ph:∀n,Fm<|dv T n:=by
 intro n
 induction n with
 |zero=>exact nM|succ n ih=>
  intro k a k' h;have:=uQ (cH ih nM 2) 2 k a k' h;omega
end
def mY{α:Type}(m:M α):=∀k a k',m k=.ok (a,k')->k<k'
def mY.mono{m:M Nd}(h:mY m):Fm m:=λk a k' q=>Nat.le_of_lt<|h k a k' q
def OP(hm:mY sm)fr:∀f x k a k',gp T sm fr f x k=.ok (a,k')->k<=k':=by
 intro f
 induction f with
 |zero=>intro x k a k' h;cases h;omega|succ f ih=>
  intro x k a k' h;unfold gp at h;exact L0
def OQ(hm:mY sm)fr:∀f x k a k',iX T sm fr f x k=.ok (a,k')->k<=k':=by
 intro f
 induction f with
 |zero=>intro x k a k' h;cases h;omega|succ f ih=>
  intro x k a k' h;unfold iX at h;exact L0
def VB(hm:mY sm)fr:∀f x k a k',qD T sm fr f x k=.ok (a,k')->k<=k':=by
 intro f
 induction f with
 |zero=>intro x k a k' h;cases h;omega|succ f ih=>
  intro x k a k' h;unfold qD at h;exact L0
def tS(hm:mY sm):mY (cO T sm):=λk a k' h=>by
 rw[cO]at h;have⟨y,k1,h1,h2⟩:=aA h;have:=hm _ _ _ h1;have:=OP hm _ _ _ _ _ _ h2;omega
def AK(hm:mY sm):mY (eE T sm):=λk a k' h=>by
 rw[eE]at h;have⟨y,k1,h1,h2⟩:=aA h;have:=hm _ _ _ h1;have:=OQ hm _ _ _ _ _ _ h2;omega
def Sg(hm:mY sm):mY (rE T sm):=λk a k' h=>by
 rw[rE]at h;have⟨y,k1,h1,h2⟩:=aA h;have:=hm _ _ _ h1;have:=VB hm _ _ _ _ _ _ h2;omega
def aaS(hm:mY sm):mY (oH T sm):=λk a k' h=>by
 rw[oH]at h;have⟨y,k1,h1,h2⟩:=aA h;have:=hm _ _ _ h1;split at h2
 .have⟨z,k2,h3,h4⟩:=aA h2;have:=hm _ _ _ h3
  cases h4
  omega
 .cases h2;omega
def am_{p:Prop}(h:p:=by
 have:=eR _ _ _ _ h3;have:=bB _ _ _ _ h5;have:=hm _ _ _ h7
 omega):p:=h
def Gl(hm:mY e):mY (rF T e):=λk a k' h=>by
 rw[rF]at h;have⟨_,k1,h1,h2⟩:=aA h;have⟨_,k2,h3,h4⟩:=aA h2;have⟨_,k3,h5,h6⟩:=aA h4;have⟨_,k4,h7,h8⟩:=aA h6
 cases h8
 have:=bB _ _ _ _ h1;exact am_
def DJ(hm:mY e):mY (bX T e):=λk a k' h=>by
 rw[bX]at h;have⟨_,k1,h1,h2⟩:=aA h;have:=bB _ _ _ _ h1;split at h2
 .have⟨_,k2,h3,h4⟩:=aA h2;have⟨_,k3,h5,h6⟩:=aA h4;have⟨_,k4,h7,h8⟩:=aA h6
  cases h8
  have:=eR _ _ _ _ h3;have:=bB _ _ _ _ h5;have:=Gl hm _ _ _ h7;omega
 .have⟨_,k2,h3,h4⟩:=aA h2;have⟨_,k3,h5,h6⟩:=aA h4;have⟨_,k4,h7,h8⟩:=aA h6
  cases h8
  exact am_
def VC{p}(hp:Fm p)(hm:mY e):∀f l k a k',lA T p e f l k=.ok (a,k')->k<=k':=by
 intro f
 induction f with
 |zero=>intro l k a k' h;cases h;omega|succ f ih=>
  intro l k a k' h;rw[lA]at h;have⟨_,k1,h1,h2⟩:=aA h;have⟨_,k2,h3,h4⟩:=aA h2;have⟨_,k3,h5,h6⟩:=aA h4;have:=hp _ _ _ h1;have:=bB _ _ _ _ h3;have:=hm _ _ _ h5;split at h6
  .grind
  .cases h6;omega
theorem kM:∀n,mY<|bq T n
 |0=>λk a k' h=>Mp|n+1=>λk a k' h=>by
  have ih:=kM n;unfold bq at h;split at h
  .exact Gl ih _ _ _ h
  split at h
  .unfold lz at h;have⟨_,k1,h1,h2⟩:=aA h;have⟨_,k2,h3,h4⟩:=aA h2;have⟨_,k3,h5,h6⟩:=aA h4;have⟨_,k4,h7,h8⟩:=aA h6;have⟨_,k5,h9,h10⟩:=aA h8;have⟨_,k6,h11,h12⟩:=aA h10
   cases h12
   have:=bB _ _ _ _ h1;have:=ih _ _ _ h3;have:=bB _ _ _ _ h5;have:=ih _ _ _ h7;have:=bB _ _ _ _ h9;have:=ih _ _ _ h11;omega
  split at h
  .unfold oI at h;have⟨_,k1,h1,h2⟩:=aA h;have⟨_,k2,h3,h4⟩:=aA h2;have⟨_,k3,h5,h6⟩:=aA h4;have⟨_,k4,h7,h8⟩:=aA h6;have⟨_,k5,h9,h10⟩:=aA h8
   cases h10
   have:=bB _ _ _ _ h1;have:=ih _ _ _ h3;have:=bB _ _ _ _ h5;have:=VC (ph n) ih _ _ _ _ _ h7;have:=bB _ _ _ _ h9;omega
  split at h
  .unfold oe at h;have⟨_,k1,h1,h2⟩:=aA h;have⟨_,k2,h3,h4⟩:=aA h2;have⟨_,k3,h5,h6⟩:=aA h4
   cases h6
   have:=DJ ih _ _ _ h1;have:=bB _ _ _ _ h3;have:=ih _ _ _ h5;omega
  .exact aaS (Sg<|AK<|tS<|cH ih.mono (df n) 3) _ _ _ h
def u_ n:Fm (bq T n):=(kM n).mono
section
open Un
def parts:Ty->List Ty
 |.var _=>[]|.aM _ l=>l
def mP(v:Nat):∀(l:List Ty),bW v l↔∃t,t∈l/\aw v t
 |[]=>by simp[bW]|a::l=>by simp[bW,mP v l]
def bO{L}:bW v (aT R L)↔∃j,∃h:j<L.length,aw v<|sub R L[j]:=by
 rw[mP,iC];constructor
 .rintro⟨t,ht,ho⟩;obtain⟨u,hu,rfl⟩:=List.mem_map.1 ht;obtain⟨j,hj,rfl⟩:=List.getElem_of_mem hu;exact⟨j,hj,ho⟩
 .grind
section
variable {rk:Nat->Nat}
open Classical in
end
def th{e}{size}{v}{xs}(h:w.ownsRow base e size v n xs)(hb:∀g,v.ownBlock=some g->w'.heap[g]? =w.heap[g]?):w'.ownsRow base e size v n xs:=by
 obtain⟨h1,h2⟩:=h;refine⟨h1,?_⟩;obtain h2|⟨g,cap,lZ,hv,hg,hh,r⟩:=h2
 .exact ja h2
 .exact jc ⟨g,cap,lZ,hv,hg,by rw[hb g (by rw[hv];rfl)];exact hh,r⟩
structure Fr(S:Nat->Prop)(w w':World):Prop where
 os:w'.os=w.os
 tape:w'.tape=w.tape
 output:w'.output=w.output
 size:w.heap.size<=w'.heap.size
 block:∀k,k<w.heap.size->¬S k->w'.heap[k]? =w.heap[k]?
def Fr.refl S w:Fr S w w:=⟨rfl,rfl,rfl,br _,λ_ _ _=>rfl⟩
def Fr.of(h:Bq w w'):Fr S w w':=⟨h.os,h.tape,h.output,h.size,λk hk _=>h.block k hk⟩
def Fr.trans{S}{a b c}(h:Fr S a b)(k:Fr S b c):Fr S a c:=
 ⟨k.os.trans h.os,k.tape.trans h.tape,k.output.trans h.output,j8 h.size k.size,λi hi hn=>(k.block i (j9 hi h.size) hn).trans<|h.block i hi hn⟩
def Fr.low{S:Nat->Prop}{a b c:World}(h:Fr S a b)(k:Below a.heap.size b c):Fr S a c:=
 ⟨k.os.trans h.os,k.tape.trans h.tape,k.output.trans h.output,j8 h.size k.size,λi hi hn=>(k.block i hi).trans<|h.block i hi hn⟩
def Fr.set{a:World}(h:Fr S a w){b:Nat}(hb:S b\/a.heap.size<=b)j u:Fr S a (w.setCell ⟨b,j,none⟩ u):=
 ⟨h.os,h.tape,h.output,by simpa[World.setCell]using h.size,λk hk hn=>by
  rw[Below.heap_setCell _ _ _ _ (by show k≠b;rintro rfl;obtain hb|hb:=hb;exact hn hb;omega)];exact h.block k hk hn⟩
def Fr.drewN{a:World}(h:Fr S a w)n:Fr S a (w.drewN n):=⟨h.os,h.tape,h.output,h.size,h.block⟩
def Fr.drew{a:World}(h:Fr S a w):Fr S a w.drew:=⟨h.os,h.tape,h.output,h.size,h.block⟩
def Bx.fr{b:Nat}(h:Bx w b C)(hb:Fr S w w')(hn:¬S b):Bx w' b C:=h.same hb.size<|hb.block b h.z hn
def KB(hv iv:Value)b:=hv.ownBlock=some b\/iv.ownBlock=some b
def filter_lt{p q:Nat->Bool}:∀{l:List Nat}(_:∀i,q i=true->p i=true){m:Nat}(_:m∈l)(_:p m=true)(_:q m=false),(l.filter q).length<(l.filter p).length
 |[],_,_,h,_,_=>vQ|x::l,hi,m,h,hp,hq=>by
   have hle:∀l:List Nat,(l.filter q).length<=(l.filter p).length:=by
    intro l
    induction l with
    |nil=>simp|cons y l ih=>
     simp only[List.filter_cons];split
     .rename_i hy;simp[hi y hy];exact ih
     .grind
   simp only[List.filter_cons];obtain rfl|h:=List.mem_cons.1 h
   .grind
   .have ih:=filter_lt (l:=l) hi h hp hq;split
    .rename_i hx;simp[hi x hx];exact ih
    .grind
def iR{P}{ops}{o}{a}{K}{Q}{E:Prop}(hg:o.guard=none)s x t(EB:o.op=Op.call {callee:=Callee.builtin Builtin.append,args:=#[s,x],argTypes:=#[t,t]})base e i z size bytes(h1:P.underlying t=some (.slice e))(h2:P.info? e=some i)(h3:i.zero=some z)(h4:i.size=size)(h5:i.bytes=bytes)(h6:z.cells.size=size)(h7:0<size)v n xs(hs:a.eval s=v)(fX:w.ownsRow base e size v n xs)ad m c news(hx:a.eval x=.slice (some ad) m c)(hn:news.length=m*size)(hc:∀j u,news[j]? =some u->w.cell? (ad.add j)=some u)(h1c:∀u∈news,u.oneCell'=true)(b1:n+m<=maxLen)(b2:(n+m)*bytes<=140737488355328)(qU:base<=w.heap.size)(hK:∀v' w',w'.ownsRow base e size v' (n+m) (xs++news)->w.grownBy w' v.ownBlock->(v'.ownBlock=v.ownBlock\/v'.ownBlock=some w.heap.size)->K (a.put o.dst v') w'):
 if Region.wanted o (yielded ops a.tmps)=true then Oper.wp P o a w K Q else E:=by
 have hw:Region.wanted o (yielded ops a.tmps)=true:=by simp[Region.wanted,hg]
 rw[if_pos hw];have⟨v',w',lR,r1,r2,_,r4⟩:=run_append_own_at (P:=P) w base t o.type e i z size bytes h1 h2 h3 h4 h5 h6 h7 v n xs fX ad m c news hn hc h1c b1 b2 qU;rw[Oper.wp];simp[execOp,EB,resolve,invoke,builtin,hs,hx,lR,Result.andThen];exact hK v' w' r1 r2 r4
theorem toList_inj{a b:BA}(h:a.toList=b.toList):a=b:=by
 rw[qe,qe]at h;exact ByteArray.ext<|Array.ext' h
def Kl(L:List α)j(h:j<L.length):L=L.take j++L[j]::L.drop (j+1):=by simp_all
section
variable {lv:Value}
def ix(s:BA):List BA->Nat
 |[]=>0|a::l=>if a.toList=s.toList then 0 else ix s l+1
end
def qJ s ns:=if ix s ns<ns.length then ns else ns++[s]
theorem NG{s:BA}:∀{ns:List BA},s∈ns->ix s ns<ns.length
 |[],h=>vQ|a::ns,h=>by
   simp only[ix];split
   .simp
   .rename_i ne;obtain e|h:=List.mem_cons.1 h
    .exact absurd (by rw[e]) ne
    .have:=NG h;simp;omega
def ana{p:Prop}(h:p:=by
 rename_i e;exact absurd (List.mem_cons.2<|ja (toList_inj e).symm) h):p:=h
theorem aba{s:BA}:∀{ns:List BA},¬s∈ns->ix s ns=ns.length
 |[],_=>rfl|a::ns,h=>by
   simp only[ix];split
   .exact ana
   .rw[aba<|λk=>h<|jx _ k];simp
def Rb{s:BA}:∀{ns:List BA},¬s∈ns->ix s (ns++[s])=ns.length
 |[],_=>by simp[ix]|a::ns,h=>by
   simp only[jq,ix];split
   .exact ana
   .rw[Rb<|λk=>h<|jx _ k];simp
def QG(h:s∈ns):qJ s ns=ns:=by grind[qJ,NG]
def Z_(h:¬s∈ns):qJ s ns=ns++[s]:=by grind[qJ,aba]
def iO k s:=if k=17 then pN else if k=6 then m9 else s
mutual
def bt(ns:List BA):Nd->Ty×List BA
 |.mk k s _ L _ _ _=>if k=16 then(.var<|ix s (qJ s ns)+1,qJ s ns)else(.aM (iO k s) (aI ns L).1,(aI ns L).2)
def aI(ns:List BA):List Nd->List Ty×List BA
 |[]=>([],ns)|x::l=>((bt ns x).1::(aI (bt ns x).2 l).1,(aI (bt ns x).2 l).2)
end
inductive zO:Nd->Prop where
 |var(s:BA)(n f t a:Nat):zO (.mk 16 s n [] f t a)
 |two(k:Nat)(s:BA)(n:Nat)(x y:Nd)(f t a:Nat)(hk:k=17\/k=6)(hx:zO x)(hy:zO y):zO (.mk k s n [x,y] f t a)
 |up(s:BA)(n:Nat)(L:List Nd)(f t a:Nat)(hw:∀n,YO s n)(hl:L.length<=1001)(hL:∀i(h:i<L.length),zO L[i]):zO (.mk 2 s n L f t a)
def Fr.trans'{T}{a b c}(h:Fr S a b)(k:Fr T b c)(hT:∀x,T x->S x\/a.heap.size<=x):Fr S a c:=
 ⟨k.os.trans h.os,k.tape.trans h.tape,k.output.trans h.output,j8 h.size k.size,λi hi hn=>(k.block i (j9 hi h.size) (λt=>by obtain t|t:=hT i t;exact hn t;omega)).trans (h.block i hi hn)⟩
def Bx.afa{b b2}(h:Bx w b C)(hn:b≠b2)v0 v1 v2:Bx (((w.setCell ⟨b2,0,none⟩ v0).setCell ⟨b2,1,none⟩ v1).setCell ⟨b2,2,none⟩ v2) b C:=
 ((h.ol hn 0 v0).ol hn 1 v1).ol hn 2 v2
def J9 s ns:ns.length<=(qJ s ns).length:=by rw[qJ];split<;>simp
mutual
def abb:∀(nd:Nd)(ns:List BA),ns.length<=(bt ns nd).2.length
 |.mk k s n L f t a,ns=>by
  simp only[bt];split
  .exact J9 s ns
  .exact uR L ns
def uR:∀(L:List Nd)(ns:List BA),ns.length<=(aI ns L).2.length
 |[],ns=>by simp[aI]|x::l,ns=>by simp only[aI];exact j8 (abb x ns)<|uR l _
end
mutual
def cnt:Nd->Nat
 |.mk k _ _ L _ _ _=>(if k=16 then 1 else 0)+ajP L
def ajP:List Nd->Nat
 |[]=>0|x::l=>cnt x+ajP l
end
def MI(f:Fl):Value:=.agg #[Nv f.kind,Nv f.al,Nv f.to]
mutual
def es:Nd->Nd
 |.mk k s n L _ _ _=>.mk k (if k=3\/k=15 then eW else s) (if k=3 then n else 0) (dI L) 0 0 0
def dI:List Nd->List Nd
 |[]=>[]|x::l=>es x::dI l
end
mutual
def nn:Nd->Nat
 |.mk _ _ _ L _ _ _=>1+cD L
def cD:List Nd->Nat
 |[]=>0|x::l=>nn x+cD l
end
def sX:∀l m,cD (l++m)=cD l+cD m
 |[],m=>by simp[cD]|x::l,m=>by simp[cD,sX l m];omega
def FY x:1<=nn x:=by cases x;simp[nn]
def pS:∀l,l.length<=cD l
 |[]=>by simp[cD]|x::l=>by have:=FY x;have:=pS l;simp[cD];omega
def fQ s(l:List BA):=l.any λx=>decide (x=s)
def yh{l:List BA}:fQ s l=true↔s∈l:=by simp[fQ]
def Gm{l:List BA}:fQ s l=false↔s∉l:=by grind[fQ]
def tell k a b(z:Fl):=if z.kind=0\/a<z.al then⟨k,a,b⟩else z
def ba(c:Bool)k a b z:=if c then tell k a b z else z
mutual
def v_(ty:BA->Option Nat)(own:List BA):Nd->Fl->Fl
 |.mk k s _ L f _ a,z=>iP ty own L<|ba (k==2&&ty s !=some L.length) 4 a (a+s.size)<|ba (k==16&& !fQ s own) 4 f (f+s.size) z
def iP(ty:BA->Option Nat)(own:List BA):List Nd->Fl->Fl
 |[],z=>z|x::l,z=>iP ty own l<|v_ ty own x z
end
mutual
def oo(mk:BA->Option Nat):Nd->List BA×Fl->List BA×Fl
 |.mk k s _ L f t a,q=>if k==1 then(q.1++[s],ba (fQ s q.1) 5 f t q.2)else dV mk L (q.1,ba (k==2&&mk s !=some L.length) 5 a (a+s.size) q.2)
def dV(mk:BA->Option Nat):List Nd->List BA×Fl->List BA×Fl
 |[],q=>q|x::l,q=>dV mk l<|oo mk x q
end
mutual
def dA(ty mk:BA->Option Nat):Nd->List BA->Fl->Fl
 |.mk k s _ L f t _,l,z=>
  if k==1 then ba (!fQ s l) 5 f t z
  else if k==2 then ba (mk s).isNone 5 f t z
  else if k==9 then Ss ty mk L (l++[s]) z
  else if k==10 then UB ty mk L l (l++[s]) z
  else if k==11 then UB ty mk L (l++[s]) (l++[s]) z
  else if k==13 then YE ty mk L l z
  else if k==14 then YP ty mk L l z
  else hY ty mk L l z
def Ss(ty mk:BA->Option Nat):List Nd->List BA->Fl->Fl
 |[],_,z=>z|x::_,l,z=>dA ty mk x l z
def UB(ty mk:BA->Option Nat):List Nd->List BA->List BA->Fl->Fl
 |[],_,_,z=>z|x::r,l,l',z=>Ss ty mk r l'<|dA ty mk x l z
def YP(ty mk:BA->Option Nat):List Nd->List BA->Fl->Fl
 |[],_,z=>z|x::r,l,z=>(match r with|[]=>id|y::_=>v_ ty [] y)<|dA ty mk x l z
def hY(ty mk:BA->Option Nat):List Nd->List BA->Fl->Fl
 |[],_,z=>z|x::r,l,z=>hY ty mk r l<|dA ty mk x l z
def YE(ty mk:BA->Option Nat):List Nd->List BA->Fl->Fl
 |[],_,z=>z|x::r,l,z=>oJ ty mk r l<|dA ty mk x l z
def oJ(ty mk:BA->Option Nat):List Nd->List BA->Fl->Fl
 |[],_,z=>z|p::r,l,z=>UC ty mk r l<|oo mk p ([],z)
def UC(ty mk:BA->Option Nat):List Nd->List BA->List BA×Fl->Fl
 |[],_,q=>q.2|e::r,l,q=>oJ ty mk r l<|dA ty mk e (l++q.1) q.2
end
structure SE where
 ty:BA->Option Nat
 mks:BA->Option Nat
 nm:List BA
 f:Fl
abbrev Y4:=(BA->Option Nat)->BA->Nat->BA->Option Nat
def eM:Y4:=λt x n y=>if y=x then some n else t y
def ET:List BA->List jd->Fl->Fl
 |_,[],z=>z|p,v::r,z=>ET (p++[v.text]) r<|ba (fQ v.text p) 4 v.al v.to z
def Rd(u:Y4)(ty:BA->Option Nat)(own:List BA):List Nd->(BA->Option Nat)×Fl->(BA->Option Nat)×Fl
 |[],q=>q|.mk _ s _ L _ _ a::r,q=>Rd u ty own r (u q.1 s L.length,iP ty own L<|ba (q.1 s).isSome 4 a (a+s.size) q.2)
def NZ(u:Y4):Dc->SE->SE
 |.ty t vs ms,e=>⟨u e.ty t.text vs.length,(Rd u (u e.ty t.text vs.length) (vs.map (·.text)) ms (e.mks,ET [] vs<|ba (e.ty t.text).isSome 4 t.al t.to e.f)).1,e.nm,(Rd u (u e.ty t.text vs.length) (vs.map (·.text)) ms (e.mks,ET [] vs<|ba (e.ty t.text).isSome 4 t.al t.to e.f)).2⟩|.lt r t b,e=>⟨e.ty,e.mks,e.nm++[t.text],dA e.ty e.mks b (if r then e.nm++[t.text]else e.nm) e.f⟩
def dx(u:Y4):List Dc->SE->SE
 |[],e=>e|d::r,e=>dx u r<|NZ u d e
abbrev ry:BA:=⟨#[73,110,116]⟩
abbrev ys:BA:=⟨#[66,111,111,108]⟩
abbrev iW:BA:=⟨#[85,110,105,116]⟩
def ty0:BA->Option Nat:=λx=>if x=ry\/x=ys\/x=iW then some 0 else none
def oP:SE:=⟨ty0,λ_=>none,[],oj⟩
mutual
def Ge(lo:Nat):Nd->Prop
 |.mk _ s _ L f _ a=>(lo<=f/\lo<=a)/\(f<=400/\a<=400/\s.size<=400)/\ME lo L
def ME(lo:Nat):List Nd->Prop
 |[]=>True|x::l=>Ge lo x/\ME lo l
end
def Told(z:Fl)lo:=z.kind≠0/\z.al<=lo
def VD k a b z(hk:k≠0):Told (tell k a b z) a:=by grind[Told,tell]
mutual
def Ge.mono{lo hi:Nat}(h:lo<=hi):∀{nd:Nd},Ge hi nd->Ge lo nd
 |.mk _ _ _ L _ _ _,g=>⟨⟨j8 h g.1.1,j8 h g.1.2⟩,g.2.1,ME.mono h g.2.2⟩
def ME.mono{lo hi:Nat}(h:lo<=hi):∀{L:List Nd},ME hi L->ME lo L
 |[],_=>trivial|_::_,g=>⟨Ge.mono h g.1,ME.mono h g.2⟩
end
end
def Has(s:BA)(i:Nat)(l:List UInt8):=∀j(h:j<l.length),i+j<s.size/\jl s (i+j)=l[j].toNat
def Has.left{l:List UInt8}(h:Has s i (l++m)):Has s i l:=λj hj=>by
 have:=h j bF
 rwa[List.getElem_append_left hj]at this
def Has.right{l:List UInt8}(h:Has s i (l++m)):Has s (i+l.length) m:=λj hj=>by
 have:=h (l.length+j) bF;rw[List.getElem_append_right ae]at this;simpa[Nat.add_assoc]using this
def Has.hd(h:Has s i (x::m)):i<s.size/\jl s i=x.toNat:=h 0 ag
def Has.tl(h:Has s i (x::m)):Has s (i+1) m:=λj hj=>by
 have:=h (j+1) bF;simpa[Nat.add_assoc,Nat.add_comm 1 j]using this
def Has.le{l:List UInt8}(h:Has s i l)(hi:i<=s.size):i+l.length<=s.size:=by
 cases l with
 |nil=>simpa using hi|cons x r=>have:=(h r.length ag).1;simp;omega
def Has.ext{l:List UInt8}(h:Has s i l)(hi:i<=s.size):(s.extract i<|i+l.length).toList=l:=by
 have hle:=h.le hi;rw[qe,ByteArray.data_extract];apply List.ext_getElem
 .have hd:s.data.size=s.size:=rfl;simp;omega
 .intro j h1 h2;have⟨h3,h4⟩:=h j h2;rw[Pu.mF h3]at h4;have:s[i+j]=l[j]:=UInt8.toNat_inj.1 h4;rw[<-this];simp[ByteArray.getElem_eq_getElem_data]
def Has.end_{s:BA}{p:Nat->Bool}:∀{l:List UInt8}{i:Nat},Has s i l->(∀x∈l,p x.toNat=true)->p (jl s<|i+l.length)=false->Pu.aJ s p i=i+l.length
 |[],i,_,_,hn=>by
  simp at hn;by_cases hi:i<s.size
  .simpa using Pu.o6 hi hn
  .simpa using Pu.mI ae
 |x::r,i,h,hp,hn=>by
   rw[Pu.eQ h.hd.1 (by rw[h.hd.2];exact hp x ag),Has.end_ h.tl (λy hy=>hp y<|by simp[hy])<|by simpa[Nat.add_assoc,Nat.add_comm 1]using hn];simp[Nat.add_assoc,Nat.add_comm 1]
def Lx(nb:Bool)(l:List UInt8)(p:List Ky):=∀s i,Has s i l->i<=s.size->(nb=true->jf (jl s<|i+l.length)=false)->∃T,jh s i=T++jh s (i+l.length)/\T.map iL=p
def Lx.C9{b1 b2}{l1 l2}{p1 p2}(h1:Lx b1 l1 p1)(h2:Lx b2 l2 p2)(hb:b1=true->∃x r,l2=x::r/\jf x.toNat=false):Lx b2 (l1++l2) (p1++p2):=by
 intro s i hs hi hn;have hl:=hs.left.le hi
 have⟨T1,e1,k1⟩:=h1 s i hs.left hi (λq=>by
  obtain⟨x,r,rfl,hx⟩:=hb q;rw[hs.right.hd.2]
  exact hx)
 have⟨T2,e2,k2⟩:=h2 s (i+l1.length) hs.right hl (λq=>by have:=hn q;simpa[Nat.add_assoc]using this);refine⟨T1++T2,?_,by simp[k1,k2]⟩;rw[e1,e2];simp[Nat.add_assoc]
def Lx.zK{b}{l:List UInt8}{p:List Ky}(h:Lx b l p):Lx true l p:=λs i hs hi hn=>h s i hs hi<|λ_=>hn rfl
def mA:Lx false [32] []:=by
 intro s i hs hi _;refine⟨[],?_,rfl⟩;rw[Pu.Ai hs.hd.1 (by rw[hs.hd.2];rfl)];rfl
def nj{l:List UInt8}(hs:Has s i l)(hi:i<=s.size)(h0:i<s.size)(hb:Pu.cL (jl s i)=false)(ht:ji s i=jm s i k (i+l.length)):∃T,jh s i=T++jh s (i+l.length)/\T.map iL=[(k,l)]:=by
 refine⟨[jm s i k<|i+l.length],?_,?_⟩
 .rw[Pu.JW h0 hb,ht];rfl
 .simp only[j5,ju,iL,jm];rw[hs.ext hi]
def Ev c(hc:c=40\/c=41\/c=44):Lx false [c] [(5,[c])]:=by
 intro s i hs hi _;have⟨h0,h1⟩:=hs.hd;refine nj hs hi h0 ?_ ?_
 .rw[h1];obtain rfl|rfl|rfl:=hc<;>rfl
 .rw[ji];rw[h1];obtain rfl|rfl|rfl:=hc<;>simp[jk,jj,Pu.dB,Pu.GH]
def YA:Lx false [45,62] [(5,[45,62])]:=by
 intro s i hs hi _;have⟨h0,h1⟩:=hs.hd;have⟨h2,h3⟩:=hs.tl.hd;refine nj hs hi h0 ?_ ?_
 .rw[h1];rfl
 .rw[ji];rw[h1,h3];simp[jk,jj,Pu.dB]
def Yv x r(hx:jj x.toNat=true)(hr:∀y∈r,jf y.toNat=true):Lx true (x::r) [(2,x::r)]:=by
 intro s i hs hi hn;have⟨h0,h1⟩:=hs.hd;have xP:jk x.toNat=false:=by simp[jj]at hx;simp[jk];omega
 have he:=hs.end_ (p:=jf) (λy hy=>by
  obtain rfl|hy:=List.mem_cons.1 hy
  .simp[jf,hx]
  .exact hr y hy) (hn rfl)
 refine nj hs hi h0 ?_ ?_
 .rw[h1];simp[jj]at hx;simp[Pu.cL];omega
 .rw[ji];rw[h1,he];simp[xP,hx]
def agm x r(hx:jk x.toNat=true)(hr:∀y∈r,jf y.toNat=true)(hw:Pu.fk ⟨(x::r).toArray⟩=false):Lx true (39::x::r) [(3,39::x::r)]:=by
 intro s i hs hi hn;have⟨h0,h1⟩:=hs.hd;have⟨h2,h3⟩:=hs.tl.hd
 have he:=hs.tl.end_ (p:=jf) (λy hy=>by
  obtain rfl|hy:=List.mem_cons.1 hy
  .simp[jf,hx]
  .exact hr y hy) (by have:=hn rfl;simpa[Nat.add_assoc,Nat.add_comm 1]using this)
 have hx2:s.extract (i+1) (i+1+(x::r).length)=⟨(x::r).toArray⟩:=GI (by rw[hs.tl.ext ae,toList_mk]);refine nj hs hi h0 ?_ ?_
 .rw[h1];rfl
 .rw[ji];rw[h1,h3,he,hx2,hw,if_neg aB,if_neg aB,if_pos ⟨aB,hx⟩,if_neg aB];simp[Nat.add_assoc,Nat.add_comm 1]
def ag2 l:Has (bs l) 0 l:=by
 intro j hj;have h1:0+j<(bs l).size:=by rw[dY];omega
 refine⟨h1,?_⟩;rw[Pu.mF h1];simp[bs,ByteArray.getElem_eq_getElem_data]
section
open Un
namespace In
structure Ml where
 of:Ty
 any:List Nat
structure St where
 k:Nat->Ty
 u:Nat->Prop
structure Ft where
 f:Fl
 l:Ty
 r:Ty
abbrev Env:=BA->Option Ml
abbrev Mks:=BA->Option (List Ty×Ty)
abbrev Rn:=Nat->Option Nat
abbrev MM(α:Type):=St->Except Ft (α×St)->Prop
def cZ(a:α):MM α:=λs o=>o=.ok (a,s)
def andM(m:MM α)(g:α->MM β):MM β:=λs o=>(∃x,m s (.error x)/\o=.error x)\/∃a s',m s (.ok (a,s'))/\g a s' o
def noM:MM α:=λ_ _=>False
def jZ:MM Nat:=λs o=>∃v,¬s.u v/\o=.ok (v,⟨s.k,λn=>s.u n\/n=v⟩)
structure xQ θ a b:Prop where
 one:sub θ a=sub θ b
 gen:∀σ,sub σ a=sub σ b->∀v,sub σ (θ v)=σ v
 out:∀v,¬aw v a->¬aw v b->θ v=.var v
 rng:∀v n,aw v a\/aw v b->aw n (θ v)->aw n a\/aw n b
def qN(f t:Nat):Ft:=⟨⟨7,f,t⟩,.var 0,.var 0⟩
def ur(a b:Ty)(f t:Nat):MM Unit:=λs o=>
 ((48<size (sub s.k a)\/48<size (sub s.k b))/\o=.error (qN f t))\/
 (size (sub s.k a)<=48/\size (sub s.k b)<=48/\((∃θ,xQ θ (sub s.k a) (sub s.k b)/\o=.ok ((),⟨λv=>sub θ<|s.k v,s.u⟩))\/((∀σ,sub σ (sub s.k a)≠sub σ (sub s.k b))/\o=.error ⟨⟨6,f,t⟩,sub s.k a,sub s.k b⟩)))
structure Cs(l:List Nat)(ρ dS:Rn)(u u':Nat->Prop):Prop where
 fe:∀v n,ρ v=some n->dS v=some n
 out:∀v,v∉l->dS v=ρ v
 all:∀v,v∈l->dS v≠none
 new:∀v n,ρ v=none->dS v=some n->¬u n
 one:∀v v' n,ρ v=none->dS v=some n->dS v'=some n->v=v'
 use:∀n,u' n↔u n\/∃v,ρ v=none/\dS v=some n
def sC(l:List Nat)(ρ:Rn):MM Rn:=λs o=>∃dS u',Cs l ρ dS s.u u'/\o=.ok (dS,⟨s.k,u'⟩)
def Cr:Rn:=λ_=>none
def via(ρ:Rn):Nat->Ty:=λv=>match ρ v with
 |some n=>.var n|none=>.var v
def cz(Γ:Env)x c:=λy=>if y=x then some c else Γ y
def lL(Γ:Env)x:=λy=>if y=x then none else Γ y
def over(g Γ:Env):Env:=λy=>match g y with
 |some c=>some c|none=>Γ y
abbrev mono(t:Ty):Ml:=⟨t,[]⟩
def vJ(Γ:Env)k v:=∃y c,Γ y=some c/\aw v (sub k c.of)/\v∉c.any
open Classical in
noncomputable def yL (Γ:Env) (k:Nat->Ty) (T:Ty):List Nat:=(vars [] T).filter λv=>decide (¬vJ Γ k v)
noncomputable def gd (Γ:Env) (k:Nat->Ty) (t:Ty) (v:Bool):Ml:=⟨sub k t,if v then yL Γ k (sub k t)else[]⟩
abbrev i_:Ty:=.aM ry []
abbrev oB:Ty:=.aM ys []
abbrev nX:Ty:=.aM iW []
abbrev lY(a b:Ty):Ty:=.aM pN [a,b]
abbrev tPr(a b:Ty):Ty:=.aM m9 [a,b]
def arr(tk:List Ty)m:=tk.foldr lY m
def iJ:Nd->Nat|.mk _ _ _ _ f _ _=>f
def xD:Nd->Nat|.mk _ _ _ _ _ t _=>t
def Kq:Nd->Nat|.mk k _ _ _ _ _ _=>k
mutual
def sg:Nd->Bool
 |.mk k _ _ L _ _ _=>if k=6 then Vl L else if k=14 then Vm L else if k=8 then isC L&&SN L else k==1||k==2||k==3||k==4||k==5||k==9
def Vl:List Nd->Bool
 |[]=>true|x::l=>sg x&&Vl l
def Vm:List Nd->Bool
 |[]=>false|x::_=>sg x
def SN:List Nd->Bool
 |[]=>false|_::l=>Vm l
def isC:List Nd->Bool
 |[]=>false|x::_=>isM x
def isM:Nd->Bool
 |.mk k _ _ L _ _ _=>if k=8 then isC L&&SN L else k==2
end
def rA(Γ:Env)(x:BA)(f t:Nat):MM Ty:=match Γ x with
 |none=>noM|some c=>λs o=>(48<size (sub s.k c.of)/\o=.error (qN f t))\/(size (sub s.k c.of)<=48/\∃ρ s',sC c.any Cr s (.ok (ρ,s'))/\o=.ok (sub (via ρ)<|sub s.k c.of,s'))
def qM t ρ:=andM (sC (vars [] t) ρ) λdS=>cZ (sub (via dS) t,dS)
def upM(mk:Mks)x:=match mk x with
 |none=>noM|some (tk,m)=>andM (qM (arr tk m) Cr) λq=>cZ q.1
abbrev PM:=Env->MM (Ty×Env)
abbrev EM:=Env->MM Ty
def Eh:List Ty->List Nd->List PM->Env->Rn->MM (Env×Rn)
 |u::tk,x::L,p::ps,g,ρ=>andM (p g) λq=>andM (qM u ρ) λi=>andM (ur q.1 i.1 (iJ x)<|xD x) λ_=>Eh tk L ps q.2 i.2|_,_,_,g,ρ=>cZ (g,ρ)
def di{α:Type}(ps:List (Env->MM α))i:=ps.getD i λ_=>noM
def sw(mk:Mks)k s L ps g:=
 if k=15 then andM jZ λv=>cZ (.var v,g)
 else if k=1 then andM jZ λv=>cZ (.var v,cz g s<|mono<|.var v)
 else if k=3 then cZ (i_,g)
 else if k=4 then cZ (oB,g)
 else if k=5 then cZ (nX,g)
 else if k=6 then andM (di ps 0 g) λa=>andM (di ps 1 a.2) λb=>cZ (tPr a.1 b.1,b.2)
 else match mk s with
  |none=>noM|some (tk,m)=>andM (Eh tk L ps g Cr) λq=>andM (qM m q.2) λi=>cZ (i.1,q.1)
mutual
def dv(mk:Mks):Nd->PM
 |.mk k s _ L _ _ _=>sw mk k s L<|mh mk L
def mh(mk:Mks):List Nd->List PM
 |[]=>[]|x::l=>dv mk x::mh mk l
end
def nZ(mk:Mks)(Γ:Env)(t r:Ty):List Nd->List EM->MM Unit
 |p::e::L,_::pe::ps=>andM (dv mk p λ_=>none) λq=>andM (ur t q.1 (iJ p)<|xD p) λ_=>andM (pe<|over q.2 Γ) λu=>andM (ur r u (iJ e)<|xD e) λ_=>nZ mk Γ t r L ps|_,_=>cZ ()
def bX(rc:Bool)x e(pe:EM)Γ:=
 if rc then andM jZ λv=>andM (pe<|cz Γ x<|mono<|.var v) λt=>andM (ur (.var v) t (iJ e)<|xD e) λ_=>cZ t
 else pe Γ
noncomputable def oe (rc:Bool) (x:BA) (e:Nd) (pe pf:EM) (Γ:Env):MM Ty:=
 andM (bX rc x e pe Γ) λt=>λs=>pf (cz Γ x<|gd (if rc then lL Γ x else Γ) s.k t (sg e)) s
def nd0:Nd:=.mk 0 ⟨#[]⟩ 0 [] 0 0 0
def j_(L:List Nd)i:=L.getD i nd0
noncomputable def kZ (mk:Mks) (k:Nat) (s:BA) (L:List Nd) (f t:Nat) (ps:List EM) (Γ:Env):MM Ty:=
 if k=1 then rA Γ s f t
 else if k=2 then upM mk s
 else if k=3 then cZ i_
 else if k=4 then cZ oB
 else if k=5 then cZ nX
 else if k=6 then andM (di ps 0 Γ) λa=>andM (di ps 1 Γ) λb=>cZ<|tPr a b
 else if k=14 then(if vars [] (bt []<|es<|j_ L 1).1=[]then andM (di ps 0 Γ) λa=>andM (ur a (bt []<|es<|j_ L 1).1 (iJ<|j_ L 0)<|xD<|j_ L 0) λ_=>cZ (bt []<|es<|j_ L 1).1 else noM)
 else if k=7 then andM (di ps 0 Γ) λa=>andM (ur a i_ (iJ<|j_ L 0)<|xD<|j_ L 0) λ_=>andM (di ps 1 Γ) λb=>andM (ur b i_ (iJ<|j_ L 1)<|xD<|j_ L 1) λ_=>cZ<|if s=dL then oB else i_
 else if k=8 then andM (di ps 0 Γ) λa=>andM (di ps 1 Γ) λb=>andM jZ λv=>andM (ur a (lY b<|.var v) f t) λ_=>cZ<|.var v
 else if k=9 then andM jZ λv=>andM (di ps 0<|cz Γ s<|mono<|.var v) λa=>cZ<|lY (.var v) a
 else if k=10 then oe false s (j_ L 0) (di ps 0) (di ps 1) Γ
 else if k=11 then oe true s (j_ L 0) (di ps 0) (di ps 1) Γ
 else if k=12 then andM (di ps 0 Γ) λa=>andM (ur a oB (iJ<|j_ L 0)<|xD<|j_ L 0) λ_=>andM (di ps 1 Γ) λb=>andM (di ps 2 Γ) λc=>andM (ur b c (iJ<|j_ L 2)<|xD<|j_ L 2) λ_=>cZ b
 else if k=13 then andM (di ps 0 Γ) λa=>andM jZ λv=>andM (nZ mk Γ a (.var v) L.tail ps.tail) λ_=>cZ<|.var v
 else noM
mutual
noncomputable def inf (mk:Mks):Nd->EM
 |.mk k s _ L f t _=>kZ mk k s L f t<|rh mk L
noncomputable def rh (mk:Mks):List Nd->List EM
 |[]=>[]|x::l=>inf mk x::rh mk l
end
def Kr ns(m:Nd):=match m with|.mk _ _ _ L _ _ _=>(aI ns<|dI L).1
def Ry:Nd->BA|.mk _ s _ _ _ _ _=>s
def OG(t:jd)(vs:List jd):Ty:=.aM t.text<|(List.range vs.length).map λi=>.var<|i+1
def wa(t:jd)(vs:List jd):List Nd->Mks->Mks
 |[],mk=>mk|m::r,mk=>wa t vs r λy=>if y=Ry m then some (Kr (vs.map (·.text)) m,OG t vs)else mk y
def dU t:=sub (λ_=>nX) t
end In
namespace In
mutual
def bO{n:Nat}{σ:Nat->Ty}:∀t,aw n (sub σ t)↔∃m,aw m t/\aw n (σ m)
 |.var m=>by simp[sub,aw]|.aM c l=>by simp[sub,aw,Ks l]
def Ks{n:Nat}{σ:Nat->Ty}:∀l,bW n (aT σ l)↔∃m,bW m l/\aw n (σ m)
 |[]=>by simp[aT,bW]|t::l=>by
  simp only[aT,bW,bO t,Ks l];constructor
  .rintro(⟨m,a,b⟩|⟨m,a,b⟩)
   .exact⟨m,ja a,b⟩
   .exact⟨m,jc a,b⟩
  .rintro⟨m,a|a,b⟩
   .exact ja ⟨m,a,b⟩
   .exact jc ⟨m,a,b⟩
end
def gH(h:∀n,aw n t->σ n=.var n):sub σ t=t:=(sub_congr t h).trans<|cK t
def ag3(h:sub σ t=t)(hn:aw n t):σ n=.var n:=Qc t (h.trans (cK t).symm) n hn
def xQ.idem(h:xQ θ a b)v:sub θ (θ v)=θ v:=h.gen θ h.one v
def xQ.fix(h:xQ θ a b)(hn:aw n (θ v)):θ n=.var n:=ag3 (h.idem v) hn
structure Ok(s:St):Prop where
 out:∀v,¬s.u v->s.k v=.var v
 use:∀v n,s.u v->aw n (s.k v)->s.u n
 idem:∀v n,aw n (s.k v)->s.k n=.var n
def Ok.og{s:St}(h:Ok s)(ht:∀n,aw n t->s.u n)(hn:aw n (sub s.k t)):s.u n/\s.k n=.var n:=by
 have⟨m,h1,h2⟩:=(bO t).1 hn;exact⟨h.use m n (ht m h1) h2,h.idem m n h2⟩
def Ok.qW{s:St}(h:Ok s)t:sub s.k (sub s.k t)=sub s.k t:=by
 refine gH λn hn=>?_;have⟨m,_,h2⟩:=(bO t).1 hn;exact h.idem m n h2
structure Mq(Λ:Nat->Prop)(s s':St):Prop where
 mono:∀n,s.u n->s'.u n
 step:∃θ:Nat->Ty,(∀v,s'.k v=sub θ (s.k v))/\(∀v,¬Λ v->θ v=.var v)/\∀v n,Λ v->aw n (θ v)->Λ n
def Mq.refl Λ s:Mq Λ s s:=⟨λ_ h=>h,Ty.var,λ_=>(cK _).symm,λ_ _=>rfl,λv n h k=>by simp[aw]at k;subst k;exact h⟩
def Mq.trans{s s1 s2:St}(h:Mq Λ s s1)(k:Mq Λ s1 s2):Mq Λ s s2:=by
 obtain⟨h1,θ,a1,a2,a3⟩:=h;obtain⟨k1,τ,b1,b2,b3⟩:=k;refine⟨λn q=>k1 n<|h1 n q,λv=>sub τ<|θ v,λv=>by rw[b1,a1,sub_sub],λv hv=>by show sub τ (θ v)=_;rw[a2 v hv,sub,b2 v hv],λv n hv hn=>?_⟩;have⟨m,c1,c2⟩:=(bO _).1 hn;exact b3 m n (a3 v m hv c1) c2
def Mq.wide{M}{s s':St}(h:Mq Λ s s')(hm:∀n,Λ n->M n):Mq M s s':=by
 obtain⟨h1,θ,a1,a2,a3⟩:=h;refine⟨h1,θ,a1,λv hv=>a2 v λq=>hv<|hm v q,λv n hv hn=>?_⟩;by_cases q:Λ v
 .grind
 .rw[a2 v q]at hn;simp[aw]at hn;subst hn;exact hv
structure cA(Λ:Nat->Prop)(s:St)t:Prop where
 use:∀n,aw n t->s.u n
 loc:∀n,aw n (sub s.k t)->Λ n
def FD{s s':St}(h:∀v,s'.k v=sub θ (s.k v))t:sub s'.k t=sub θ (sub s.k t):=by grind[sub,sub_sub,sub_congr]
def cA.run{s s':St}(h:cA Λ s t)(r:Mq Λ s s'):cA Λ s' t:=by
 have⟨θ,a1,a2,a3⟩:=r.step;refine⟨λn hn=>r.mono n<|h.use n hn,λn hn=>?_⟩;rw[FD a1]at hn;have⟨m,c1,c2⟩:=(bO _).1 hn;exact a3 m n (h.loc m c1) c2
structure nV(Λ:Nat->Prop)(s:St)(c:Ml):Prop where
 use:∀n,aw n c.of->s.u n
 loc:∀n,aw n (sub s.k c.of)->n∈c.any\/Λ n
 fix:∀v,v∈c.any->s.k v=.var v/\¬Λ v
 sub:∀v,v∈c.any->aw v c.of
def nV.run{s s':St}{c:Ml}(h:nV Λ s c)(r:Mq Λ s s'):nV Λ s' c:=by
 have⟨θ,a1,a2,a3⟩:=r.step;refine⟨λn hn=>r.mono n<|h.use n hn,λn hn=>?_,λv hv=>?_,h.sub⟩
 .rw[FD a1]at hn;have⟨m,c1,c2⟩:=(bO _).1 hn;obtain q|q:=h.loc m c1
  .rw[a2 m (h.fix m q).2]at c2;simp[aw]at c2;subst c2;exact ja q
  .grind
 .have⟨q1,q2⟩:=h.fix v hv;exact⟨by rw[a1,q1,j6,a2 v q2],q2⟩
def bC Λ s(Γ:Env):=∀y c,Γ y=some c->nV Λ s c
def bC.run{Λ}{s s'}{Γ}(h:bC Λ s Γ)(r:Mq Λ s s'):bC Λ s' Γ:=λy c q=>(h y c q).run r
def cA.mono{s:St}(h:cA Λ s t):nV Λ s (mono t):=⟨h.use,λn hn=>jc<|h.loc n hn,λv hv=>(by simp at hv),λv hv=>(by simp at hv)⟩
def bC.set{s:St}{Γ}(h:bC Λ s Γ)x{c:Ml}(hc:nV Λ s c):bC Λ s (cz Γ x c):=λy d q=>by
 rw[cz]at q;split at q
 .grind
 .exact h y d q
theorem bC.over{Λ}{s}{g Γ}(hg:bC Λ s g)(h:bC Λ s Γ):bC Λ s (over g Γ):=by grind[bC,over]
def bC.none Λ s:bC Λ s (λ_=>none):=by grind[bC]
def du{α:Type}(m:MM α)s(Q:α->St->Prop):=∀a s',m s (.ok (a,s'))->Q a s'
section
variable {s:St}
def du.ret{a}{Q:α->St->Prop}(h:Q a s):du (cZ a) s Q:=by grind[du,cZ]
def du.and{m}{g}{Q:α->St->Prop}{R:β->St->Prop}(h:du m s Q)(k:∀a s',Q a s'->du (g a) s' R):du (andM m g) s R:=by grind[du,andM]
def du.no{Q:α->St->Prop}:du noM s Q:=λ_ _ q=>q.elim
def du.imp{m}{Q R:α->St->Prop}(h:du m s Q)(k:∀a s',Q a s'->R a s'):du m s R:=by grind[du]
structure Kp(Λ:Nat->Prop)s s':Prop where
 ok:Ok s'
 new:∀n,¬s'.u n->Λ n
 run:Mq Λ s s'
def Kp.refl(h:Ok s)(hn:∀n,¬s.u n->Λ n):Kp Λ s s:=⟨h,hn,Mq.refl _ _⟩
def Kp.trans{s1 s2}(h:Kp Λ s s1)(k:Kp Λ s1 s2):Kp Λ s s2:=⟨k.ok,k.new,h.run.trans k.run⟩
def ig(h:Ok s)(hn:∀n,¬s.u n->Λ n):du jZ s λv s'=>Kp Λ s s'/\cA Λ s' (.var v)/\s'.k=s.k:=λv s' q=>by
 obtain⟨w,hw,q⟩:=q;injection q with q;injection q with q1 q2;subst q1;subst q2;have hk:=h.out v hw;refine⟨⟨⟨λn q=>h.out n λq'=>q<|ja q',λm n q1 q2=>?_,h.idem⟩,λn q=>hn n λq'=>q<|ja q',⟨λn q=>ja q,Ty.var,λ_=>(cK _).symm,λ_ _=>rfl,λm n h k=>by simp[aw]at k;subst k;exact h⟩⟩,⟨λn q=>?_,λn q=>?_⟩,rfl⟩
 .obtain q1|rfl:=q1
  .exact ja (h.use m n q1 q2)
  .rw[hk]at q2;simp[aw]at q2;exact jc q2.symm
 .simp[aw]at q;exact jc q.symm
 .simp only[j6,hk]at q;simp[aw]at q;subst q;exact hn _ hw
def fH(h:Ok s)(hn:∀n,¬s.u n->Λ n)(ha:cA Λ s a)(hb:cA Λ s b)f t:du (ur a b f t) s λ_ s'=>Kp Λ s s'/\sub s'.k a=sub s'.k b:=λv s' q=>by
 obtain⟨_,q⟩|⟨_,_,⟨θ,vO,q⟩|⟨_,q⟩⟩:=q
 .cases q
 .injection q with q;injection q with q1 q2;subst q2;have hu:∀n,aw n (sub s.k a)\/aw n (sub s.k b)->s.u n/\s.k n=.var n/\Λ n:=λn q=>by
   obtain q|q:=q
   .exact⟨(h.og ha.use q).1,(h.og ha.use q).2,ha.loc n q⟩
   .exact⟨(h.og hb.use q).1,(h.og hb.use q).2,hb.loc n q⟩
  have hr:∀v n,aw n (θ v)->n=v\/(aw n (sub s.k a)\/aw n (sub s.k b)):=λv n q=>by
   by_cases e:aw v (sub s.k a)\/aw v (sub s.k b)
   .exact jc (vO.rng v n e q)
   .rw[vO.out v (λq=>e<|ja q)<|λq=>e<|jc q]at q;simp[aw]at q;exact ja q.symm
  refine⟨⟨⟨λv q=>?_,λv n q1 q2=>?_,λv n q=>?_⟩,hn,⟨λn q=>q,θ,λ_=>rfl,λv q=>?_,λv n q1 q2=>?_⟩⟩,?_⟩
  .show sub θ (s.k v)=_;rw[h.out v q,j6];exact vO.out v (λq'=>q (hu v<|ja q').1)<|λq'=>q (hu v<|jc q').1
  .have⟨m,c1,c2⟩:=(bO _).1 q2;obtain rfl|e:=hr m n c2
   .exact h.use v n q1 c1
   .exact(hu n e).1
  .have⟨m,c1,c2⟩:=(bO _).1 q;have:s.k n=.var n:=by
    obtain rfl|e:=hr m n c2
    .exact h.idem v n c1
    .exact(hu n e).2.1
   show sub θ (s.k n)=_;rw[this,j6];exact vO.fix c2
  .exact vO.out v (λq'=>q (hu v<|ja q').2.2) (λq'=>q (hu v<|jc q').2.2)
  .grind
  .have e:∀x,sub (λv=>sub θ<|s.k v) x=sub θ (sub s.k x):=λx=>(sub_sub _ _ x).symm;show sub (λv=>sub θ<|s.k v) a=sub (λv=>sub θ<|s.k v) b;rw[e,e];exact vO.one
 .cases q
def tN(h:Ok s)(hn:∀n,¬s.u n->Λ n)l ρ:du (sC l ρ) s λdS s'=>Kp Λ s s'/\Cs l ρ dS s.u s'.u/\s'.k=s.k:=λdS s' q=>by
 obtain⟨bK,u',hd,q⟩:=q;injection q with q;injection q with q1 q2;subst q1;subst q2;refine⟨⟨⟨λn q=>h.out n λq'=>q<|(hd.use n).2<|ja q',λm n q1 q2=>(hd.use n).2 ?_,h.idem⟩,λn q=>hn n λq'=>q<|(hd.use n).2<|ja q',⟨λn q=>(hd.use n).2<|ja q,Ty.var,λ_=>(cK _).symm,λ_ _=>rfl,λm n h k=>by simp[aw]at k;subst k;exact h⟩⟩,hd,rfl⟩;obtain q1|⟨v,e1,e2⟩:=(hd.use m).1 q1
 .exact ja (h.use m n q1 q2)
 .have:s.k m=.var m:=h.out m<|hd.new v m e1 e2;have q2:=q2;rw[this]at q2;simp[aw]at q2;subst q2;exact jc ⟨v,e1,e2⟩
end
structure iA(Λ:Nat->Prop)(s:St)(ρ:Rn):Prop where
 use:∀v n,ρ v=some n->s.u n
 loc:∀v n m,ρ v=some n->aw m (s.k n)->Λ m
def iA.run{s s':St}{ρ:Rn}(h:iA Λ s ρ)(r:Mq Λ s s'):iA Λ s' ρ:=by
 have⟨θ,a1,a2,a3⟩:=r.step;refine⟨λv n q=>r.mono n<|h.use v n q,λv n m q1 q2=>?_⟩;rw[a1]at q2;have⟨x,c1,c2⟩:=(bO _).1 q2;exact a3 x m (h.loc v n x q1 c1) c2
def iA.draw{s s':St}{ρ dS:Rn}{l}(h:iA Λ s ρ)(ho:Ok s)(hn:∀n,¬s.u n->Λ n)(hk:Kp Λ s s')(hd:Cs l ρ dS s.u s'.u)(e:s'.k=s.k):iA Λ s' dS:=by
 refine⟨λv n q=>?_,λv n m q1 q2=>?_⟩
 .cases e1:ρ v with
  |none=>exact(hd.use n).2 (jc ⟨v,e1,q⟩)|some n'=>have:=hd.fe v n' e1;rw[this]at q;injection q with q;subst q;exact hk.run.mono _<|h.use v _ e1
 .cases e1:ρ v with
  |none=>
   have hu:=hd.new v n e1 q1;rw[e,ho.out n hu]at q2;simp[aw]at q2;subst q2;exact hn n hu
  |some n'=>have:=hd.fe v n' e1;rw[this]at q1;injection q1 with q1;subst q1;rw[e]at q2;exact h.loc v _ m e1 q2
def iA.zero Λ s:iA Λ s Cr:=⟨λv n q=> lq,λv n m q=> lq⟩
def iA.ty{s:St}{ρ:Rn}(h:iA Λ s ρ)(ht:∀v,aw v t->ρ v≠none):cA Λ s (sub (via ρ) t):=by
 refine⟨λn hn=>?_,λn hn=>?_⟩
 .have⟨m,c1,c2⟩:=(bO _).1 hn
  cases e:ρ m with
  |none=>grind|some x=>simp[via,e,aw]at c2;subst c2;exact h.use m _ e
 .rw[sub_sub]at hn;have⟨m,c1,c2⟩:=(bO _).1 hn
  cases e:ρ m with
  |none=>grind|some x=>simp only[via,e,j6]at c2;exact h.loc m x n e c2
end In
namespace In
def aC:n∈vars [] t↔aw n t:=by simp[bP]
section
variable {s:St}
def sE(h:Ok s)(hn:∀n,¬s.u n->Λ n){ρ}(hρ:iA Λ s ρ)t:du (qM t ρ) s λq s'=>Kp Λ s s'/\cA Λ s' q.1/\iA Λ s' q.2:=by
 refine(tN h hn _ _).and λdS s1⟨k1,d1,e1⟩=>?_;have hr:=hρ.draw h hn k1 d1 e1;exact .ret ⟨k1,hr.ty<|λv hv=>d1.all v<|aC.2 hv,hr⟩
def bM:cA Λ s (.aM c []):=⟨λn q=>(by simp[aw,bW]at q),λn q=>(by simp[j6,aT,aw,bW]at q)⟩
def dN(ha:cA Λ s a)(hb:cA Λ s b):cA Λ s (.aM c [a,b]):=by
 refine⟨λn q=>?_,λn q=>?_⟩
 .simp[aw,bW]at q;exact q.elim (ha.use n)<|hb.use n
 .simp[j6,aT,aw,bW]at q;exact q.elim (ha.loc n)<|hb.loc n
def jW(h:vars [] t=[]):cA Λ s t:=by
 have h0:∀n,¬aw n t:=λn q=>by have:=aC.2 q;rw[h]at this;simp at this
 refine⟨λn q=>absurd q<|h0 n,λn q=>?_⟩;have⟨m,c1,_⟩:=(bO t).1 q;exact absurd c1<|h0 m
def FE(h:Ok s)(hn:∀n,¬s.u n->Λ n){Γ:Env}(cq:bC Λ s Γ)x f t:du (rA Γ x f t) s λq s'=>Kp Λ s s'/\cA Λ s' q:=by
 rw[rA]
 cases e:Γ x with
 |none=>exact .no|some c=>
  intro a s' q;obtain⟨_,q⟩|⟨_,ρ,s1,q1,q2⟩:=q
  .cases q
  .have⟨k1,d1,e1⟩:=tN h hn _ _ _ _ q1;injection q2 with q2;injection q2 with q2 q3;subst q2;subst q3;have hc:=cq x c e;have nU:∀v,v∉c.any->ρ v=none:=λv hv=>d1.out v hv;refine⟨k1,λn CU=>?_,λn CU=>?_⟩
   .have⟨m,c1,c2⟩:=(bO _).1 CU;by_cases hm:m∈c.any
    .cases e2:ρ m with
     |none=>exact absurd e2 (d1.all m hm)|some y=>simp[via,e2,aw]at c2;subst c2;exact(d1.use _).2 (jc ⟨m,rfl,e2⟩)
    .simp[via,nU m hm,aw]at c2;subst c2;exact k1.run.mono _ (h.og hc.use c1).1
   .rw[sub_sub,e1]at CU;have⟨m,c1,c2⟩:=(bO _).1 CU;by_cases hm:m∈c.any
    .cases e2:ρ m with
     |none=>exact absurd e2 (d1.all m hm)|some y=>
      have hu:=d1.new m y rfl e2;simp only[via,e2,j6,h.out y hu]at c2;simp[aw]at c2;subst c2;exact hn _ hu
    .simp only[via,nU m hm,j6,(h.og hc.use c1).2]at c2;simp[aw]at c2;subst c2;exact(hc.loc m c1).resolve_left hm
end
def Au(p:PM):=∀(g:Env)(s:St)(Λ:Nat->Prop),Ok s->(∀n,¬s.u n->Λ n)->bC Λ s g->du (p g) s λq s'=>Kp Λ s s'/\cA Λ s' q.1/\bC Λ s' q.2
def n9(p:EM):=∀(Γ:Env)(s:St)(Λ:Nat->Prop),Ok s->(∀n,¬s.u n->Λ n)->bC Λ s Γ->du (p Γ) s λt s'=>Kp Λ s s'/\cA Λ s' t
def P0{p:Prop}(h:p:=by
 rw[jo,jt hi];exact h _<|jz hi):p:=h
def anb{p:Prop}(h:p:=by
 rw[jo,jv ae];intro _ _ _ _ _ _;exact .no):p:=h
def afq{ps}(h:∀p∈ps,Au p)i:Au (di ps i):=by
 rw[di];by_cases hi:i<ps.length
 .exact P0
 .exact anb
def aaA{ps}(h:∀p∈ps,n9 p)i:n9 (di ps i):=by
 rw[di];by_cases hi:i<ps.length
 .exact P0
 .exact anb
def Kt:∀(tk:List Ty)(L:List Nd)(ps:List PM),(∀p∈ps,Au p)->∀(g:Env)(ρ:Rn)(s:St)(Λ:Nat->Prop),Ok s->(∀n,¬s.u n->Λ n)->bC Λ s g->iA Λ s ρ->du (Eh tk L ps g ρ) s λq s'=>Kp Λ s s'/\bC Λ s' q.1/\iA Λ s' q.2
 |u::tk,x::L,p::ps,hp,g,ρ,s,Λ,h,hn,hg,hρ=>by
  rw[Eh];refine(hp p ag g s Λ h hn hg).and λq s1⟨k1,t1,g1⟩=>?_;refine(sE k1.ok k1.new (hρ.run k1.run) u).and λi s2⟨k2,t2,r2⟩=>?_;refine(fH k2.ok k2.new (t1.run k2.run) t2 _ _).and λ_ s3⟨k3,_⟩=>?_;refine(Kt tk L ps (λp h=>hp p<|by simp[h]) q.2 i.2 s3 Λ k3.ok k3.new ((g1.run k2.run).run k3.run)<|r2.run k3.run).imp λ_ s4⟨k4,r4⟩=>?_;exact⟨((k1.trans k2).trans k3).trans k4,r4⟩
 |[],_,_,_,g,ρ,s,Λ,h,hn,hg,hρ=>.ret ⟨.refl h hn,hg,hρ⟩|_::_,[],_,_,g,ρ,s,Λ,h,hn,hg,hρ=>.ret ⟨.refl h hn,hg,hρ⟩|_::_,_::_,[],_,g,ρ,s,Λ,h,hn,hg,hρ=>.ret ⟨.refl h hn,hg,hρ⟩
def Vn mk k x L ps(hp:∀p∈ps,Au p):Au (sw mk k x L ps):=by
 intro g s Λ h hn hg;rw[sw];split
 .exact(ig h hn).and λv s1⟨k1,t1,_⟩=>.ret ⟨k1,t1,hg.run k1.run⟩
 split
 .exact(ig h hn).and λv s1⟨k1,t1,_⟩=>.ret ⟨k1,t1,(hg.run k1.run).set _ t1.mono⟩
 split
 .exact .ret ⟨.refl h hn,bM,hg⟩
 split
 .exact .ret ⟨.refl h hn,bM,hg⟩
 split
 .exact .ret ⟨.refl h hn,bM,hg⟩
 split
 .refine(afq hp 0 g s Λ h hn hg).and λa s1⟨k1,t1,g1⟩=>?_;refine(afq hp 1 _ s1 Λ k1.ok k1.new g1).and λb s2⟨k2,t2,g2⟩=>?_;exact .ret ⟨k1.trans k2,dN (t1.run k2.run) t2,g2⟩
 cases mk x with
 |none=>exact .no|some p=>
  refine(Kt p.1 L ps hp g Cr s Λ h hn hg<|.zero _ _).and λq s1⟨k1,g1,r1⟩=>?_;refine(sE k1.ok k1.new r1 p.2).and λi s2⟨k2,t2,_⟩=>?_;exact .ret ⟨k1.trans k2,t2,g1.run k2.run⟩
mutual
def uz(mk:Mks):∀nd,Au<|dv mk nd
 |.mk k s n L f t a=>Vn mk k s L _<|Aw mk L
def Aw(mk:Mks):∀L,∀p∈mh mk L,Au p
 |[],p,h=>by simp[mh]at h|x::l,p,h=>by
  simp only[mh,jp]at h;obtain rfl|h:=h
  .exact uz mk x
  .exact Aw mk l p h
end
def Ku(mk:Mks):∀(L:List Nd)(ps:List EM),(∀p∈ps,n9 p)->∀(Γ:Env)(t r:Ty)(s:St)(Λ:Nat->Prop),Ok s->(∀n,¬s.u n->Λ n)->bC Λ s Γ->cA Λ s t->cA Λ s r->du (nZ mk Γ t r L ps) s λ_ s'=>Kp Λ s s'
 |p::e::L,_::pe::ps,hp,Γ,t,r,s,Λ,h,hn,cq,ht,hr=>by
  rw[nZ];refine(uz mk p _ s Λ h hn<|.none _ _).and λq s1⟨k1,t1,g1⟩=>?_;refine(fH k1.ok k1.new (ht.run k1.run) t1 _ _).and λ_ s2⟨k2,_⟩=>?_;have k12:=k1.trans k2;refine(hp pe ag _ s2 Λ k2.ok k2.new<|(g1.run k2.run).over<|cq.run k12.run).and λu s3⟨k3,t3⟩=>?_;have k13:=k12.trans k3;refine(fH k3.ok k3.new (hr.run k13.run) t3 _ _).and λ_ s4⟨k4,_⟩=>?_;have k14:=k13.trans k4;exact(Ku mk L ps (λp h=>hp p<|by simp[h]) Γ t r s4 Λ k4.ok k4.new (cq.run k14.run) (ht.run k14.run)<|hr.run k14.run).imp λ_ s5 k5=>k14.trans k5
 |[],_,_,_,_,_,s,Λ,h,hn,_,_,_=>.ret (.refl h hn)|[_],_,_,_,_,_,s,Λ,h,hn,_,_,_=>.ret (.refl h hn)|_::_::_,[],_,_,_,_,s,Λ,h,hn,_,_,_=>.ret (.refl h hn)|_::_::_,[_],_,_,_,_,s,Λ,h,hn,_,_,_=>.ret<|.refl h hn
def iB rc x e{pe:EM}(hp:n9 pe):n9 (bX rc x e pe):=by
 intro Γ s Λ h hn cq;rw[bX];split
 .refine(ig h hn).and λv s1⟨k1,t1,_⟩=>?_;refine(hp _ s1 Λ k1.ok k1.new<|(cq.run k1.run).set _ t1.mono).and λt s2⟨k2,t2⟩=>?_;refine(fH k2.ok k2.new (t1.run k2.run) t2 _ _).and λ_ s3⟨k3,_⟩=>?_;exact .ret ⟨(k1.trans k2).trans k3,t2.run k3.run⟩
 .exact hp Γ s Λ h hn cq
def less(Λ:Nat->Prop)(l:List Nat):Nat->Prop:=λn=>Λ n/\n∉l
section
variable {s:St}
def FI{Γ:Env}{k}{v}(h:n∈(gd Γ k t v).any):aw n (sub k t)/\¬vJ Γ k n:=by
 rw[gd]at h
 cases v with
 |false=>simp at h|true=>simp[yL]at h;exact⟨aC.1 h.1,h.2⟩
def yc(h:Ok s)(hn:∀n,¬s.u n->Λ n){Γ:Env}(cq:bC Λ s Γ)(ht:cA Λ s t)(rc:Bool)x v:
 bC (less Λ (gd (if rc then lL Γ x else Γ) s.k t v).any) s (cz Γ x<|gd (if rc then lL Γ x else Γ) s.k t v)/\∀n,¬s.u n->less Λ (gd (if rc then lL Γ x else Γ) s.k t v).any n:=by
 have hA:∀n,n∈(gd (if rc then lL Γ x else Γ) s.k t v).any->aw n (sub s.k t)/\¬vJ (if rc then lL Γ x else Γ) s.k n:=λn q=>FI q;have hof:(gd (if rc then lL Γ x else Γ) s.k t v).of=sub s.k t:=rfl;generalize gd (if rc then lL Γ x else Γ) s.k t v=S at hA hof⊢;obtain⟨T,A⟩:=S;simp only at hA hof⊢;subst hof;refine⟨λy c e=>?_,λn q=>⟨hn n q,λq'=>q (h.og ht.use (hA n q').1).1⟩⟩;rw[cz]at e;split at e
 .injection e with e;subst e;refine⟨λn q=>(h.og ht.use q).1,λn q=>?_,λn q=>⟨(h.og ht.use (hA n q).1).2,λq'=>q'.2 q⟩,λn q=>(hA n q).1⟩;by_cases hm:n∈A
  .exact ja hm
  .have q:=q;rw[h.qW]at q;exact jc ⟨ht.loc n q,hm⟩
 .rename_i hyx;have hc:=cq y c e;refine⟨hc.use,λn q=>?_,λn q=>⟨(hc.fix n q).1,λq'=>(hc.fix n q).2 q'.1⟩,hc.sub⟩;by_cases hm:n∈c.any
  .exact ja hm
  .refine jc ⟨(hc.loc n q).resolve_left hm,λq'=>(hA n q').2 ⟨y,c,?_,q,hm⟩⟩
   cases rc with
   |true=>simp only[if_true];rw[lL];rw[if_neg hyx];exact e|false=>exact e
def Dt rc x e{pe pf:EM}(hp:n9 pe)(hf:n9 pf):n9 (oe rc x e pe pf):=by
 intro Γ s Λ h hn cq;rw[oe];refine(iB rc x e hp Γ s Λ h hn cq).and λt s1⟨k1,t1⟩=>?_;have⟨hE,hN⟩:=yc k1.ok k1.new (cq.run k1.run) t1 rc x<|sg e;refine du.imp (hf _ s1 _ k1.ok hN hE) λu s2⟨k2,t2⟩=>?_;exact⟨k1.trans ⟨k2.ok,λn q=>(k2.new n q).1,k2.run.wide λn q=>q.1⟩,t2.use,λn q=>(t2.loc n q).1⟩
end
def dh{c:Prop}[Decidable c]{m m'}{s:St}{Q:α->St->Prop}(h:c->du m s Q)(k:¬c->du m' s Q):du (if c then m else m') s Q:=xY
def Vo mk k x L f t ps(hp:∀p∈ps,n9 p):n9 (kZ mk k x L f t ps):=by
 intro Γ s Λ h hn cq;have h0:=aaA hp 0;have h1:=aaA hp 1;have h2:=aaA hp 2;rw[kZ];refine dh (λ_=>?_) λ_=>?_
 .exact FE h hn cq _ _ _
 refine dh (λ_=>?_) λ_=>?_
 .rw[upM]
  cases mk x with
  |none=>exact .no|some p=>exact(sE h hn (.zero _ _) _).and λq s1⟨k1,t1,_⟩=>.ret ⟨k1,t1⟩
 refine dh (λ_=>?_) λ_=>?_
 .exact .ret ⟨.refl h hn,bM⟩
 refine dh (λ_=>?_) λ_=>?_
 .exact .ret ⟨.refl h hn,bM⟩
 refine dh (λ_=>?_) λ_=>?_
 .exact .ret ⟨.refl h hn,bM⟩
 refine dh (λ_=>?_) λ_=>?_
 .refine(h0 Γ s Λ h hn cq).and λa s1⟨k1,t1⟩=>?_;refine(h1 Γ s1 Λ k1.ok k1.new<|cq.run k1.run).and λb s2⟨k2,t2⟩=>?_;exact .ret ⟨k1.trans k2,dN (t1.run k2.run) t2⟩
 refine dh (λ_=>?_) λ_=>?_
 .split
  .rename_i hs;refine(h0 Γ s Λ h hn cq).and λa s1⟨k1,t1⟩=>?_;refine(fH k1.ok k1.new t1 (jW hs) _ _).and λ_ s2⟨k2,_⟩=>?_;exact .ret ⟨k1.trans k2,jW hs⟩
  .exact .no
 refine dh (λ_=>?_) λ_=>?_
 .refine(h0 Γ s Λ h hn cq).and λa s1⟨k1,t1⟩=>?_;refine(fH k1.ok k1.new t1 bM _ _).and λ_ s2⟨k2,_⟩=>?_;have k12:=k1.trans k2;refine(h1 Γ s2 Λ k2.ok k2.new<|cq.run k12.run).and λb s3⟨k3,t3⟩=>?_;refine(fH k3.ok k3.new t3 bM _ _).and λ_ s4⟨k4,_⟩=>?_;refine .ret ⟨(k12.trans k3).trans k4,?_⟩;split<;>exact bM
 refine dh (λ_=>?_) λ_=>?_
 .refine(h0 Γ s Λ h hn cq).and λa s1⟨k1,t1⟩=>?_;refine(h1 Γ s1 Λ k1.ok k1.new<|cq.run k1.run).and λb s2⟨k2,t2⟩=>?_;refine(ig k2.ok k2.new).and λv s3⟨k3,t3,_⟩=>?_;refine(fH k3.ok k3.new ((t1.run k2.run).run k3.run) (dN (t2.run k3.run) t3) _ _).and λ_ s4⟨k4,_⟩=>?_;exact .ret ⟨((k1.trans k2).trans k3).trans k4,t3.run k4.run⟩
 refine dh (λ_=>?_) λ_=>?_
 .refine(ig h hn).and λv s1⟨k1,t1,_⟩=>?_;refine(h0 _ s1 Λ k1.ok k1.new<|(cq.run k1.run).set _ t1.mono).and λa s2⟨k2,t2⟩=>?_;exact .ret ⟨k1.trans k2,dN (t1.run k2.run) t2⟩
 refine dh (λ_=>?_) λ_=>?_
 .exact Dt _ _ _ h0 h1 Γ s Λ h hn cq
 refine dh (λ_=>?_) λ_=>?_
 .exact Dt _ _ _ h0 h1 Γ s Λ h hn cq
 refine dh (λ_=>?_) λ_=>?_
 .refine(h0 Γ s Λ h hn cq).and λa s1⟨k1,t1⟩=>?_;refine(fH k1.ok k1.new t1 bM _ _).and λ_ s2⟨k2,_⟩=>?_;have k12:=k1.trans k2;refine(h1 Γ s2 Λ k2.ok k2.new<|cq.run k12.run).and λb s3⟨k3,t3⟩=>?_;have k13:=k12.trans k3;refine(h2 Γ s3 Λ k3.ok k3.new<|cq.run k13.run).and λc s4⟨k4,t4⟩=>?_;refine(fH k4.ok k4.new (t3.run k4.run) t4 _ _).and λ_ s5⟨k5,_⟩=>?_;exact .ret ⟨(k13.trans k4).trans k5,(t3.run k4.run).run k5.run⟩
 refine dh (λ_=>?_) λ_=>?_
 .refine(h0 Γ s Λ h hn cq).and λa s1⟨k1,t1⟩=>?_;refine(ig k1.ok k1.new).and λv s2⟨k2,t2,_⟩=>?_;have k12:=k1.trans k2;refine(Ku mk L.tail ps.tail (λp h=>hp p<|List.mem_of_mem_tail h) Γ a _ s2 Λ k2.ok k2.new (cq.run k12.run) (t1.run k2.run) t2).and λ_ s3 k3=>?_;exact .ret ⟨k12.trans k3,t2.run k3.run⟩
 .exact .no
mutual
def mn(mk:Mks):∀nd,n9<|inf mk nd
 |.mk k s n L f t a=>Vo mk k s L f t _<|Du mk L
def Du(mk:Mks):∀L,∀p∈rh mk L,n9 p
 |[],p,h=>by simp[rh]at h|x::l,p,h=>by
  simp only[rh,jp]at h;obtain rfl|h:=h
  .exact mn mk x
  .exact Du mk l p h
end
end In
namespace In
structure Rel(D:Nat->Prop)(ρ:Nat->Nat)(s s':St):Prop where
 live:∀n,D n->s.u n->s.k n=.var n->s'.u (ρ n)/\s'.k (ρ n)=.var (ρ n)
 inj:∀m n,D m->D n->s.u m->s.k m=.var m->s.u n->s.k n=.var n->ρ m=ρ n->m=n
def jX(ρ:Nat->Nat)(s s':St)(t t':Ty):Prop:=sub s'.k t'=sub (my ρ) (sub s.k t)
structure Kv(D:Nat->Prop)ρ s s'(c c':Ml):Prop where
 of:jX ρ s s' c.of c'.of
 any:c'.any=c.any.map ρ
 dom:∀v,v∈c.any->D v
def gQ D ρ s s'(Γ dG:Env):=∀y,(Γ y=none/\dG y=none)\/∃c c',Γ y=some c/\dG y=some c'/\Kv D ρ s s' c c'
structure uV D Λ cG ρ s s' bK s1 Ax:Prop where
 kp:Kp Λ s s1
 iI:Kp cG s' Ax
 rel:Rel D bK s1 Ax
 ty:∀t t',(∀n,aw n t->s.u n)->(∀n,aw n (sub s.k t)->D n)->jX ρ s s' t t'->jX bK s1 Ax t t'
 any:∀n,s.u n->s.k n=.var n->D n->¬Λ n->bK n=ρ n
 dom:∀n,Λ n->D n
section
variable {lV:Nat->Nat} {s s' s1 Ax s2 s2':St}
def uV.refl(hD:∀n,Λ n->D n)(h:Ok s)(hn:∀n,¬s.u n->Λ n)(h':Ok s')(CU:∀n,¬s'.u n->cG n)(r:Rel D ρ s s'):uV D Λ cG ρ s s' ρ s s':=⟨.refl h hn,.refl h' CU,r,λ_ _ _ _ h=>h,λ_ _ _ _ _=>rfl,hD⟩
def Kp.fix(k:Kp Λ s s1)(h:s.k n=.var n)(hn:¬Λ n):s1.k n=.var n:=by
 have⟨θ,a1,a2,_⟩:=k.run.step;rw[a1,h,j6,a2 n hn]
def Kp.dom(k:Kp Λ s s1)(hD:∀n,Λ n->D n)(h:∀n,aw n (sub s.k t)->D n)n(hn:aw n (sub s1.k t)):D n:=by
 have⟨θ,a1,a2,a3⟩:=k.run.step;rw[FD a1]at hn;have⟨m,c1,c2⟩:=(bO _).1 hn;by_cases e:Λ m
 .grind
 .rw[a2 m e]at c2;simp[aw]at c2;subst c2;exact h m c1
def uV.trans(h:uV D Λ cG ρ s s' bK s1 Ax)(k:uV D Λ cG bK s1 Ax lV s2 s2'):uV D Λ cG ρ s s' lV s2 s2':=
 ⟨h.kp.trans k.kp,h.iI.trans k.iI,k.rel,λt t' q d r=>k.ty t t' (λn hn=>h.kp.run.mono n<|q n hn) (h.kp.dom h.dom d)<|h.ty t t' q d r,λn a b d c=>by
  rw[k.any n (h.kp.run.mono n a) (h.kp.fix b c) d c,h.any n a b d c],h.dom⟩
def cA.dom(h:cA Λ s t)(hD:∀n,Λ n->D n):∀n,aw n (sub s.k t)->D n:=λn hn=>hD n<|h.loc n hn
def uV.po(h:uV D Λ cG ρ s s' bK s1 Ax)(hi:cA Λ s t)(r:jX ρ s s' t t'):jX bK s1 Ax t t':=h.ty t t' hi.use (hi.dom h.dom) r
def Kv.eZ{c c':Ml}(h:Kv D ρ s s' c c')(hc:nV Λ s c)(k:uV D Λ cG ρ s s' bK s1 Ax):Kv D bK s1 Ax c c':=
 ⟨k.ty _ _ hc.use (λn hn=>(hc.loc n hn).elim (h.dom n)<|k.dom n) h.of,by
  rw[h.any]
  exact jy λv hv=>(k.any v (hc.use v<|hc.sub v hv) (hc.fix v hv).1 (h.dom v hv) (hc.fix v hv).2).symm,h.dom⟩
def gQ.eZ{Γ dG}(h:gQ D ρ s s' Γ dG)(hc:bC Λ s Γ)(k:uV D Λ cG ρ s s' bK s1 Ax):gQ D bK s1 Ax Γ dG:=λy=>by
 obtain q|⟨c,c',q1,q2,q3⟩:=h y
 .exact ja q
 .exact jc ⟨c,c',q1,q2,q3.eZ (hc y c q1) k⟩
def gQ.set{Γ dG:Env}(h:gQ D ρ s s' Γ dG)x{c c':Ml}(hc:Kv D ρ s s' c c'):gQ D ρ s s' (cz Γ x c) (cz dG x c'):=λy=>by
 unfold cz;by_cases e:y=x
 .grind
 .rw[if_neg e,if_neg e];exact h y
def gQ.del{Γ dG:Env}(h:gQ D ρ s s' Γ dG)x:gQ D ρ s s' (lL Γ x) (lL dG x):=by grind[gQ,lL]
theorem gQ.over{g g' Γ dG}(hg:gQ D ρ s s' g g')(h:gQ D ρ s s' Γ dG):gQ D ρ s s' (over g Γ) (over g' dG):=by grind[gQ,over]
def gQ.none:gQ D ρ s s' (λ_=>none) (λ_=>none):=by grind[gQ]
def jX.mono(h:jX ρ s s' t t'):Kv D ρ s s' (mono t) (mono t'):=⟨h,rfl,λv hv=>(by simp at hv)⟩
def jX.aM c:jX ρ s s' (.aM c []) (.aM c []):=by simp[jX,j6,aT]
def jX.two c(ha:jX ρ s s' a a')(hb:jX ρ s s' b b'):jX ρ s s' (.aM c [a,b]) (.aM c [a',b']):=by
 simp only[jX,j6,aT]at ha hb⊢;rw[ha,hb]
def jX.shut(h:vars [] t=[]):jX ρ s s' t t:=by
 have h0:∀n,¬aw n t:=λn q=>by have:=aC.2 q;rw[h]at this;simp at this
 rw[jX];rw[gH (σ:=s'.k) λn q=>absurd q<|h0 n,gH (σ:=s.k) λn q=>absurd q<|h0 n,gH (σ:=my ρ) λn q=>absurd q<|h0 n]
theorem jX.size(h:jX ρ s s' t t'):size (sub s'.k t')=size (sub s.k t):=by rw[h,sJ]
end
def FtR pl(x x':Ft):=x.f.kind=x'.f.kind/\(pl->x.f=x'.f)/\∃ρ:Nat->Nat,(∀m n,(aw m x.l\/aw m x.r)->(aw n x.l\/aw n x.r)->ρ m=ρ n->m=n)/\x'.l=sub (my ρ) x.l/\x'.r=sub (my ρ) x.r
def alx{α β:Type}(pl:Prop)(Q:α->St->β->St->Prop):Except Ft (α×St)->Except Ft (β×St)->Prop
 |.ok (a,s),.ok (b,s')=>Q a s b s'|.error x,.error x'=>FtR pl x x'|_,_=>False
def kR{α β:Type}pl(m:MM α)(m':MM β)s s' Q:=∀o o',m s o->m' s' o'->alx pl Q o o'
section
variable {γ δ:Type} {s s':St}
def kR.ret{a}{b}{Q:α->St->β->St->Prop}(h:Q a s b s'):kR pl (cZ a) (cZ b) s s' Q:=λo o' q q'=>by
 rw[cZ]at q q';subst q;subst q';exact h
def kR.and{m}{m'}{g}{g'}{Q:α->St->β->St->Prop}{R:γ->St->δ->St->Prop}(h:kR pl m m' s s' Q)(k:∀a t b t',Q a t b t'->kR pl (g a) (g' b) t t' R):kR pl (andM m g) (andM m' g') s s' R:=λo o' q q'=>by
 obtain⟨x,q1,rfl⟩|⟨a,t,q1,q2⟩:=q<;>obtain⟨x',W_,rfl⟩|⟨a',t',W_,q2'⟩:=q'
 .exact h _ _ q1 W_
 .exact(h _ _ q1 W_).elim
 .exact(h _ _ q1 W_).elim
 .exact k _ _ _ _ (h _ _ q1 W_) _ _ q2 q2'
def kR.no{Q:α->St->β->St->Prop}{m'}:kR pl noM m' s s' Q:=λ_ _ q=>q.elim
def kR.imp{m}{m'}{Q R:α->St->β->St->Prop}(h:kR pl m m' s s' Q)(k:∀a t b t',Q a t b t'->R a t b t'):kR pl m m' s s' R:=λo o' q q'=>by
 have:=h o o' q q'
 match o,o',this with
 |.ok (a,t),.ok (b,t'),w=>exact k _ _ _ _ w|.error _,.error _,w=>exact w
def kR.ite{c:Prop}[Decidable c]{m n}{m' n'}{Q:α->St->β->St->Prop}(h:c->kR pl m m' s s' Q)(k:¬c->kR pl n n' s s' Q):kR pl (if c then m else n) (if c then m' else n') s s' Q:=xY
end
structure qK(D Λ cG:Nat->Prop)ρ s s':Prop where
 dom:∀n,Λ n->D n
 ok:Ok s
 new:∀n,¬s.u n->Λ n
 FK:Ok s'
 Vp:∀n,¬s'.u n->cG n
 rel:Rel D ρ s s'
def uV.both{s s' s1 Ax:St}(h:uV D Λ cG ρ s s' bK s1 Ax):qK D Λ cG bK s1 Ax:=⟨h.dom,h.kp.ok,h.kp.new,h.iI.ok,h.iI.new,h.rel⟩
def qK.refl{D Λ cG}{ρ}{s s'}(h:qK D Λ cG ρ s s'):uV D Λ cG ρ s s' ρ s s':=.refl h.dom h.ok h.new h.FK h.Vp h.rel
section
variable {s s':St}
def uW{ρ dS}(h:∀n,aw n t->ρ n=dS n):sub (my ρ) t=sub (my dS) t:=by grind[aw,sub,sub_congr]
def lG σ ρ u:sub σ (sub (my ρ) u)=sub (λn=>σ<|ρ n) u:=by rw[sub_sub];rfl
def mM(h:qK D Λ cG ρ s s'):kR pl jZ jZ s s' λv t v' t'=>∃bK,uV D Λ cG ρ s s' bK t t'/\cA Λ t (.var v)/\cA cG t' (.var v')/\jX bK t t' (.var v) (.var v'):=λo o' q q'=>by
 obtain⟨v,hv,rfl⟩:=q;obtain⟨v',Na,rfl⟩:=q';have⟨k1,t1,e1⟩:=ig h.ok h.new v _ ⟨v,hv,rfl⟩;have⟨k1',t1',e1'⟩:=ig h.FK h.Vp v' _ ⟨v',Na,rfl⟩;refine⟨λn=>if n=v then v' else ρ n,⟨k1,k1',⟨λn q0 q1 q2=>?_,λm n g1 g2 a1 a2 b1 b2 e=>?_⟩,λt t' q _ r=>?_,λn q1 q2 _ q3=>?_,h.dom⟩,t1,t1',?_⟩
 .by_cases e:n=v
  .subst e;simp;exact h.FK.out v' Na
  .have q1:=q1.resolve_right e;have:=h.rel.live n q0 q1 q2;simp[e];exact⟨ja this.1,this.2⟩
 .by_cases em:m=v<;>by_cases en:n=v
  .rw[em,en]
  .simp[em,en]at e;have:=h.rel.live n g2 (b1.resolve_right en) b2;rw[<-e]at this;exact absurd this.1 Na
  .simp[em,en]at e;have:=h.rel.live m g1 (a1.resolve_right em) a2;rw[e]at this;exact absurd this.1 Na
  .simp[em,en]at e;exact h.rel.inj m n g1 g2 (a1.resolve_right em) a2 (b1.resolve_right en) b2 e
 .rw[jX]at r⊢;show sub s'.k t'=sub _ (sub s.k t);rw[r];refine uW λn hn=>?_;have:n≠v:=λe=>hv<|e▸(h.ok.og q hn).1;simp[this]
 .grind
 .show sub s'.k (.var v')=sub _ (sub s.k<|.var v);simp[j6,h.ok.out v hv,h.FK.out v' Na,my]
def anc{p:Prop}(h:p:=by
 refine⟨rfl,λp=>?_,λn=>n,λm n _ _ e=>e,?_,?_⟩
 .grind
 .simp[qN,j6,my]
 .simp[qN,j6,my]):p:=h
def ir(h:qK D Λ cG ρ s s')(ha:cA Λ s a)(hb:cA Λ s b)(ha':cA cG s' a')(QZ:cA cG s' b')(ra:jX ρ s s' a a')(rb:jX ρ s s' b b'){t t'}(hp:pl->f=f'/\t=t'):
 kR pl (ur a b f t) (ur a' b' f' t') s s' λ_ t _ t'=>∃bK,uV D Λ cG ρ s s' bK t t':=λo o' q q'=>by
 have za:=ra.size;have zb:=rb.size;have hu:∀n,aw n (sub s.k a)\/aw n (sub s.k b)->s.u n/\s.k n=.var n:=λn q=>by
  obtain q|q:=q
  .exact h.ok.og ha.use q
  .exact h.ok.og hb.use q
 have hd:∀n,aw n (sub s.k a)\/aw n (sub s.k b)->D n:=λn q=>q.elim (ha.dom h.dom n)<|hb.dom h.dom n;have Ms:∀n,aw n (sub s'.k a')\/aw n (sub s'.k b')->s'.u n/\s'.k n=.var n:=λn q=>by
  obtain q|q:=q
  .exact h.FK.og ha'.use q
  .exact h.FK.og QZ.use q
 have hK:=λθ(vO:xQ θ (sub s.k a) (sub s.k b))(hz:size (sub s.k a)<=48)(iZ:size (sub s.k b)<=48)=>(fH h.ok h.new ha hb f t () ⟨λv=>sub θ<|s.k v,s.u⟩<|jc ⟨hz,iZ,ja ⟨θ,vO,rfl⟩⟩).1;have hK':=λθ(vO:xQ θ (sub s'.k a') (sub s'.k b'))(hz:size (sub s'.k a')<=48)(iZ:size (sub s'.k b')<=48)=>(fH h.FK h.Vp ha' QZ f t () ⟨λv=>sub θ<|s'.k v,s'.u⟩<|jc ⟨hz,iZ,ja ⟨θ,vO,rfl⟩⟩).1
 classical
 obtain⟨β,hβ⟩:∃β:Nat->Nat,∀n,D n->s.u n->s.k n=.var n->β (ρ n)=n:=by
  refine⟨λm=>if e:∃n,D n/\s.u n/\s.k n=.var n/\ρ n=m then e.choose else 0,λn q0 q1 q2=>?_⟩;have e:∃m,D m/\s.u m/\s.k m=.var m/\ρ m=ρ n:=⟨n,q0,q1,q2,rfl⟩;simp only[e,dite_true];have⟨w,x,y,z⟩:=e.choose_spec;exact h.rel.inj _ _ w q0 x y q1 q2 z
 have back:∀(θ:Nat->Ty)u,(∀n,aw n u->s.u n/\s.k n=.var n)->(∀n,aw n u->D n)->sub (λm=>θ<|β m) (sub (my ρ) u)=sub θ u:=λθ u hu hd=>by
  rw[lG];refine sub_congr u λn hn=>?_;show θ (β<|ρ n)=_;rw[hβ n (hd n hn) (hu n hn).1 (hu n hn).2]
 obtain⟨z,rfl⟩|⟨z1,z2,⟨θ,vO,rfl⟩|⟨nU,rfl⟩⟩:=q<;>obtain⟨z',rfl⟩|⟨z1',z2',⟨Vq,Ch,rfl⟩|⟨aly,rfl⟩⟩:=q'
 .exact anc
 .omega
 .omega
 .omega
 .have kp:=hK θ vO z1 z2;have iI:=hK' Vq Ch z1' z2';have e1:∀n,s.u n->s.k n=.var n->sub (λn=>Vq<|ρ n) (θ n)=Vq (ρ n):=λn _ _=>by
   have e:=Ch.one;rw[ra,rb,lG,lG]at e;exact vO.gen (λn=>Vq<|ρ n) e n
  have e2:∀m,sub (λm=>θ<|β m) (Vq m)=θ (β m):=λm=>by
   refine Ch.gen (λm=>θ<|β m) ?_ m;rw[ra,rb,back θ _ (λn q=>hu n<|ja q)<|λn q=>hd n<|ja q,back θ _ (λn q=>hu n<|jc q)<|λn q=>hd n<|jc q,vO.one]
  have lv:∀n x,s.u n->s.k n=.var n->aw x (θ n)->(s.u x/\s.k x=.var x)/\θ x=.var x:=λn x q1 q2 q3=>by
   refine⟨?_,vO.fix q3⟩;by_cases e:aw n (sub s.k a)\/aw n (sub s.k b)
   .exact hu x (vO.rng n x e q3)
   .rw[vO.out n (λq=>e<|ja q)<|λq=>e<|jc q]at q3;simp[aw]at q3;subst q3;exact⟨q1,q2⟩
  have ld:∀n x,D n->aw x (θ n)->D x:=λn x q1 q3=>by
   by_cases e:aw n (sub s.k a)\/aw n (sub s.k b)
   .exact hd x (vO.rng n x e q3)
   .rw[vO.out n (λq=>e<|ja q)<|λq=>e<|jc q]at q3;simp[aw]at q3;subst q3;exact q1
  have e3:∀x,D x->s.u x->s.k x=.var x->θ x=.var x->∃y,Vq (ρ x)=.var y:=λx q0 q1 q2 q3=>by
   have:=e2<|ρ x;rw[hβ x q0 q1 q2,q3]at this
   cases e:Vq (ρ x)with
   |var y=>exact⟨y,rfl⟩|aM c l=>rw[e]at this;simp[j6]at this
  have red:∀n,s.u n->sub θ (s.k n)=.var n->s.k n=.var n/\θ n=.var n:=λn q1 q2=>by
   cases e:s.k n with
   |var m=>
    rw[e,j6]at q2;have hm:=h.ok.idem n m (by rw[e];simp[aw]);have hum:=h.ok.use n m q1 (by rw[e];simp[aw]);have:=(lv m n hum hm (by rw[q2];simp[aw])).1.2;rw[e]at this;injection this with this;subst this;exact⟨rfl,q2⟩
   |aM c l=>rw[e]at q2;simp[j6]at q2
  refine⟨λx=>match Vq (ρ x)with|.var y=>y|.aM _ _=>0,⟨kp,iI,⟨λn q0 q1 q2=>?_,λm n g1 g2 a1 a2 b1 b2 e=>?_⟩,λt t' q qd r=>?_,λn q1 q2 qd q3=>?_,h.dom⟩⟩
  .have q2:=q2;have hk:=red n q1 q2;have⟨y,hy⟩:=e3 n q0 q1 hk.1 hk.2;simp only[hy];have⟨l1,l2⟩:=h.rel.live n q0 q1 hk.1;have u1:s'.u y:=by
    by_cases e:aw (ρ n) (sub s'.k a')\/aw (ρ n) (sub s'.k b')
    .exact(Ms y<|Ch.rng (ρ n) y e (by rw[hy];simp[aw])).1
    .rw[Ch.out _ (λq=>e<|ja q)<|λq=>e<|jc q]at hy;injection hy with hy;subst hy;exact l1
   refine⟨u1,?_⟩;show sub Vq (s'.k y)=_;have ky:s'.k y=.var y:=by
    by_cases e:aw (ρ n) (sub s'.k a')\/aw (ρ n) (sub s'.k b')
    .exact(Ms y<|Ch.rng (ρ n) y e (by rw[hy];simp[aw])).2
    .rw[Ch.out _ (λq=>e<|ja q)<|λq=>e<|jc q]at hy;injection hy with hy;subst hy;exact l2
   rw[ky,j6];exact Ch.fix (v:=ρ n) (by rw[hy];simp[aw])
  .grind
  .have hN:∀(θ k:Nat->Ty)t,sub (λv=>sub θ<|k v) t=sub θ (sub k t):=λθ k t=>(sub_sub _ _ t).symm;show sub (λv=>sub Vq<|s'.k v) t'=sub _ (sub (λv=>sub θ<|s.k v) t);rw[jX]at r;rw[hN,hN,r,lG,sub_sub (my _) θ];refine sub_congr _ λn hn=>?_;have⟨q1,q2⟩:=h.ok.og q hn;show Vq (ρ n)=_;rw[<-e1 n q1 q2];refine sub_congr _ λx hx=>?_;have⟨⟨x1,x2⟩,x3⟩:=lv n x q1 q2 hx;have⟨y,hy⟩:=e3 x (ld n x (qd n hn) hx) x1 x2 x3;simp[hy]
  .have hx:=vO.out n (λq=>q3<|ha.loc n q)<|λq=>q3<|hb.loc n q;have:Vq (ρ n)=.var (ρ n):=by
    have adE:∀u u':Ty,jX ρ s s' u u'->cA Λ s u->¬aw (ρ n) (sub s'.k u'):=λu u' r hu q=>by
     rw[jX]at r;rw[r]at q;have⟨m,c1,c2⟩:=(bO _).1 q;simp[my,aw]at c2;have⟨m1,m2⟩:=h.ok.og hu.use c1;have:=h.rel.inj m n (hu.dom h.dom m c1) qd m1 m2 q1 q2 c2;subst this;exact q3<|hu.loc m c1
    exact Ch.out _ (adE a a' ra ha)<|adE b b' rb hb
   simp[this]
 .exact(aly (λm=>θ<|β m)<|by rw[ra,rb,back θ _ (λn q=>hu n<|ja q)<|λn q=>hd n<|ja q,back θ _ (λn q=>hu n<|jc q)<|λn q=>hd n<|jc q,vO.one]).elim
 .omega
 .exact(nU (λn=>Vq<|ρ n) (by have e:=Ch.one;rw[ra,rb,lG,lG]at e;exact e)).elim
 .refine⟨rfl,λp=>?_,ρ,λm n q1 q2 e=>?_,ra,rb⟩
  .grind
  .grind
end
end In
namespace In
section
variable {s s' s1 Ax:St}
def Dv(h:qK D Λ cG ρ s s')π{l l'}{R R':Rn}(hl:l'=l.map π)(hi:∀v,v∈l->∀w,w∈l->π v=π w->v=w)(hR:∀v,v∈l->(R v=none↔R' (π v)=none)):
 kR pl (sC l R) (sC l' R') s s' λr t r' t'=>∃bK,uV D Λ cG ρ s s' bK t t'/\Cs l R r s.u t.u/\Cs l' R' r' s'.u t'.u/\t.k=s.k/\t'.k=s'.k/\(∀n,s.u n->bK n=ρ n)/\∀v,v∈l->R v=none->∃n,r v=some n/\r' (π v)=some (bK n):=λo o' q q'=>by
 obtain⟨r,u,hd,rfl⟩:=q;obtain⟨r',u',UI,rfl⟩:=q';have⟨k1,d1,e1⟩:=tN h.ok h.new l R r _ ⟨r,u,hd,rfl⟩;have⟨k1',d1',e1'⟩:=tN h.FK h.Vp l' R' r' _ ⟨r',u',UI,rfl⟩
 classical
 have rj:∀v n,R v=none->r v=some n->v∈l:=λv n q1 q2=>by
  by_cases e:v∈l
  .exact e
  .rw[hd.out v e,q1]at q2;cases q2
 obtain⟨bK,a1,a2⟩:∃bK:Nat->Nat,(∀n,s.u n->bK n=ρ n)/\∀v n,v∈l->R v=none->r v=some n->r' (π v)=some (bK n):=by
  refine⟨λn=>if e:∃v,R v=none/\r v=some n then(r'<|π e.choose).getD 0 else ρ n,λn q=>?_,λv n q1 q2 q3=>?_⟩
  .have:¬∃v,R v=none/\r v=some n:=λ⟨v,x,y⟩=>hd.new v n x y q;simp[this]
  .have e:∃v,R v=none/\r v=some n:=⟨v,q2,q3⟩;simp only[e,dite_true];have⟨x,y⟩:=e.choose_spec;have:e.choose=v:=hd.one _ _ n x y q3;rw[this];have hm:π v∈l':=xY
   cases e2:r' (π v)with
   |none=>exact absurd e2 (UI.all _ hm)|some m=>rfl
 have nw:∀n,u n->¬s.u n->∃v,v∈l/\R v=none/\r v=some n:=λn q1 q2=>by
  have⟨v,x,y⟩:=((hd.use n).1 q1).resolve_left q2;exact⟨v,rj v n x y,x,y⟩
 have nw':∀v n,v∈l->R v=none->r v=some n->¬s'.u (bK n)/\u' (bK n):=λv n q1 q2 q3=>by
  have e:=a2 v n q1 q2 q3;have e0:=(hR v q1).1 q2;exact⟨UI.new _ _ e0 e,(UI.use _).2<|jc ⟨_,e0,e⟩⟩
 refine⟨bK,⟨k1,k1',⟨λn q0 q1 q2=>?_,λm n g1 g2 p1 p2 q1 q2 e=>?_⟩,λt t' q _ w=>?_,λn q _ _ _=>a1 n q,h.dom⟩,hd,UI,rfl,rfl,a1,λv q1 q2=>?_⟩
 .by_cases e:s.u n
  .rw[a1 n e];have:=h.rel.live n q0 e q2;exact⟨(UI.use _).2<|ja this.1,this.2⟩
  .have⟨v,x,y,z⟩:=nw n q1 e;have⟨g1,g2⟩:=nw' v n x y z;exact⟨g2,h.FK.out _ g1⟩
 .by_cases em:s.u m<;>by_cases en:s.u n
  .rw[a1 m em,a1 n en]at e;exact h.rel.inj m n g1 g2 em p2 en q2 e
  .have⟨v,x,y,z⟩:=nw n q1 en;have:=(nw' v n x y z).1;rw[<-e,a1 m em]at this;exact absurd (h.rel.live m g1 em p2).1 this
  .have⟨v,x,y,z⟩:=nw m p1 em;have:=(nw' v m x y z).1;rw[e,a1 n en]at this;exact absurd (h.rel.live n g2 en q2).1 this
  .have⟨v,x,y,z⟩:=nw m p1 em;have⟨v2,x2,y2,z2⟩:=nw n q1 en;have b1:=a2 v m x y z;have b2:=a2 v2 n x2 y2 z2;rw[e]at b1;have:=UI.one _ _ _ ((hR v x).1 y) b1 b2;have:=hi v x v2 x2 this;subst this;rw[z]at z2;injection z2
 .rw[jX]at w⊢;show sub s'.k t'=sub _ (sub s.k t);rw[w];exact uW λn hn=>(a1 n (h.ok.og q hn).1).symm
 .cases e:r v with
  |none=>exact absurd e (hd.all v q1)|some n=>grind
def RnR ρ s s'(R R':Rn):=∀v,(R v=none/\R' v=none)\/∃n n',R v=some n/\R' v=some n'/\jX ρ s s' (.var n) (.var n')
def RnR.zero:RnR ρ s s' Cr Cr:=λ_=>ja ⟨rfl,rfl⟩
def RnR.eZ{R R':Rn}(h:RnR ρ s s' R R')(hi:iA Λ s R)(k:uV D Λ cG ρ s s' bK s1 Ax):RnR bK s1 Ax R R':=λv=>by
 obtain q|⟨n,n',q1,q2,q3⟩:=h v
 .exact ja q
 .exact jc ⟨n,n',q1,q2,k.ty _ _ (λm hm=>by simp[aw]at hm;subst hm;exact hi.use v _ q1) (λm hm=>k.dom m<|hi.loc v n m q1<|by simpa[j6]using hm) q3⟩
theorem jX.via{R R'}(h:RnR ρ s s' R R'){t}(ht:∀v,aw v t->R v≠none):jX ρ s s' (sub (via R) t) (sub (via R') t):=by
 rw[jX];rw[sub_sub,sub_sub,sub_sub];refine sub_congr t λv hv=>?_;obtain q|⟨n,n',q1,q2,q3⟩:=h v
 .grind
 .simp only[In.via,q1,q2];exact q3
def uX(h:qK D Λ cG ρ s s'){R R':Rn}(hR:RnR ρ s s' R R')(hi:iA Λ s R)(Ag:iA cG s' R')t:
 kR pl (qM t R) (qM t R') s s' λq u q' u'=>∃bK,uV D Λ cG ρ s s' bK u u'/\cA Λ u q.1/\cA cG u' q'.1/\jX bK u u' q.1 q'.1/\iA Λ u q.2/\iA cG u' q'.2/\RnR bK u u' q.2 q'.2:=by
 have hz:∀v,v∈vars [] t->(R v=none↔R' v=none):=λv _=>by
  obtain⟨q1,q2⟩|⟨n,n',q1,q2,q3⟩:=hR v
  .simp[q1,q2]
  .simp[q1,q2]
 refine(Dv h (λv=>v) ag (λv _ w _ e=>e) hz).and λr u r' u'⟨bK,st,d,d',e,e',_,a⟩=>?_;have i1:=hi.draw h.ok h.new st.kp d e;have i2:=Ag.draw h.FK h.Vp st.iI d' e';have hr:RnR bK u u' r r':=λv=>by
  obtain⟨q1,q2⟩|⟨n,n',q1,q2,q3⟩:=hR.eZ hi st v
  .by_cases hv:v∈vars [] t
   .have⟨n,x,y⟩:=a v hv q1;refine jc ⟨n,_,x,y,?_⟩;have h1:=d.new v n q1 x;have h2:=d'.new v _ q2 y;simp[jX,j6,e,e',h.ok.out n h1,h.FK.out _ h2,my]
   .exact ja ⟨by rw[d.out v hv,q1],by rw[d'.out v hv,q2]⟩
  .exact jc ⟨n,n',d.fe v n q1,d'.fe v n' q2,q3⟩
 have Uj:∀v,aw v t->r v≠none:=λv hv=>d.all v<|aC.2 hv;have ajz:∀v,aw v t->r' v≠none:=λv hv=>d'.all v<|aC.2 hv;exact .ret ⟨bK,st,i1.ty Uj,i2.ty ajz,.via hr Uj,i1,i2,hr⟩
def Ay{c:Ml}(hc:nV Λ s c)(hv:v∈c.any):s.u v/\s.k v=.var v:=⟨hc.use v<|hc.sub v hv,(hc.fix v hv).1⟩
def any_map(h:qK D Λ cG ρ s s'){c:Ml}(hc:nV Λ s c)(hd:∀v,v∈c.any->D v)(hn:aw n (sub s.k c.of))(hm:ρ n∈c.any.map ρ):n∈c.any:=by
 have⟨m,x,y⟩:=List.mem_map.1 hm;have⟨l1,l2⟩:=h.ok.og hc.use hn;have⟨g1,g2⟩:=Ay hc x;have:=h.rel.inj m n (hd m x) ((hc.loc n hn).elim (hd n)<|h.dom n) g1 g2 l1 l2 y;subst this;exact x
def aaB(h:qK D Λ cG ρ s s'){Γ dG}(cq:bC Λ s Γ)(gR:bC cG s' dG)(hr:gQ D ρ s s' Γ dG)x{t t':Nat}(hp:pl->f=f'/\t=t'):
 kR pl (rA Γ x f t) (rA dG x f' t') s s' λq u q' u'=>∃bK,uV D Λ cG ρ s s' bK u u'/\cA Λ u q/\cA cG u' q'/\jX bK u u' q q':=by
 intro o o' q q';have K:=FE h.ok h.new cq x f t;have K':=FE h.FK h.Vp gR x f' t';obtain⟨q1,q2⟩|⟨c,c',q1,q2,q3⟩:=hr x
 .rw[rA]at q;rw[q1]at q;exact q.elim
 .have hc:=cq x c q1;have hc':=gR x c' q2;have z:=q3.of.size;have w:=q;have w':=q';rw[rA]at q q';rw[q1]at q;rw[q2]at q';obtain⟨b1,rfl⟩|⟨b1,r,u,b2,rfl⟩:=q<;>obtain⟨b1',rfl⟩|⟨b1',r',u',b2',rfl⟩:=q'
  .exact anc
  .omega
  .omega
  .have⟨bK,st,d,d',e,e',a0,a⟩:=Dv (pl:=pl) h ρ (R:=Cr) (R':=Cr) q3.any (λv hv w hw e=>by
    have⟨g1,g2⟩:=Ay hc hv;have⟨g3,g4⟩:=Ay hc hw
    exact h.rel.inj v w (q3.dom v hv) (q3.dom w hw) g1 g2 g3 g4 e) (λv _=>by simp[Cr]) _ _ b2 b2'
   refine⟨bK,st,(K _ _ w).2,(K' _ _ w').2,?_⟩;rw[jX];have key:∀T,(∀n,aw n T->sub s'.k (via r'<|ρ n)=sub (my bK) (sub s.k<|via r n))->sub s'.k (sub (via r')<|sub (my ρ) T)=sub (my bK) (sub s.k<|sub (via r) T):=λT hT=>by
    rw[lG,sub_sub,sub_sub,sub_sub];exact sub_congr T λn hn=>by rw[hT n hn,sub_sub]
   rw[q3.of,e,e'];refine key _ λn hn=>?_;have⟨l1,l2⟩:=h.ok.og hc.use hn;by_cases hm:n∈c.any
   .have⟨m,x1,x2⟩:=a n hm rfl;have g1:=d.new n m rfl x1;have g2:=d'.new (ρ n) _ rfl x2;simp[via,x1,x2,j6,h.ok.out m g1,h.FK.out _ g2,my]
   .have y1:r n=none:=d.out n hm;have y2:r' (ρ n)=none:=d'.out (ρ n) λq=>hm (any_map h hc q3.dom hn (by rw[<-q3.any];exact q));simp[via,y1,y2,j6,l2,(h.rel.live n (h.dom n<|(hc.loc n hn).resolve_left hm) l1 l2).2,my,a0 n l1]
end
def OH pl(p p':PM):=∀(g g':Env)(s s':St)(D Λ cG:Nat->Prop)(ρ:Nat->Nat),qK D Λ cG ρ s s'->bC Λ s g->bC cG s' g'->gQ D ρ s s' g g'->
 kR pl (p g) (p' g') s s' λq u q' u'=>∃bK,uV D Λ cG ρ s s' bK u u'/\(cA Λ u q.1/\cA cG u' q'.1/\jX bK u u' q.1 q'.1)/\bC Λ u q.2/\bC cG u' q'.2/\gQ D bK u u' q.2 q'.2
def xR pl(p p':EM):=∀(Γ dG:Env)(s s':St)(D Λ cG:Nat->Prop)(ρ:Nat->Nat),qK D Λ cG ρ s s'->bC Λ s Γ->bC cG s' dG->gQ D ρ s s' Γ dG->
 kR pl (p Γ) (p' dG) s s' λq u q' u'=>∃bK,uV D Λ cG ρ s s' bK u u'/\cA Λ u q/\cA cG u' q'/\jX bK u u' q q'
def OI{pl:Prop}:∀{ps FQ:List PM},dH (OH pl) ps FQ->∀i,OH pl (di ps i)<|di FQ i
 |_,_,.nil,i=>by unfold di;simp;intro _ _ _ _ _ _ _ _ _ _ _ _;exact .no|_,_,.cons h _,0=>by unfold di;simpa using h|_,_,.cons _ h,i+1=>by have:=OI h i;unfold di at this⊢;simpa using this
def FT{pl:Prop}:∀{ps FQ:List EM},dH (xR pl) ps FQ->∀i,xR pl (di ps i)<|di FQ i
 |_,_,.nil,i=>by unfold di;simp;intro _ _ _ _ _ _ _ _ _ _ _ _;exact .no|_,_,.cons h _,0=>by unfold di;simpa using h|_,_,.cons _ h,i+1=>by have:=FT h i;unfold di at this⊢;simpa using this
structure NdE pl x x':Prop where
 es:es x=es x'
 pl:pl->x=x'
def NdE.sp{x x'}(h:NdE pl x x')(p:pl):iJ x=iJ x'/\xD x=xD x':=by rw[h.pl p];exact⟨rfl,rfl⟩
structure Kw pl L L':Prop where
 es:dI L=dI L'
 pl:pl->L=L'
def Kw.cons{pl:Prop}{x x'}{L L'}(h:Kw pl (x::L) (x'::L')):NdE pl x x'/\Kw pl L L':=by
 have:=h.es;simp only[dI,List.cons.injEq]at this;exact⟨⟨this.1,λp=>by have:=h.pl p;injection this⟩,⟨this.2,λp=>by have:=h.pl p;injection this⟩⟩
def Kw.nth{pl:Prop}:∀{L L':List Nd},Kw pl L L'->∀i,NdE pl (j_ L i)<|j_ L' i
 |[],[],_,i=>⟨rfl,λ_=>rfl⟩|[],_::_,h,_=>by have:=h.es;simp[dI]at this|_::_,[],h,_=>by have:=h.es;simp[dI]at this|x::L,x'::L',h,0=>by have:=h.cons.1;simpa[j_]using this|x::L,x'::L',h,i+1=>by have:=Kw.nth h.cons.2 i;simpa[j_]using this
def Dw{pl:Prop}:∀(tk:List Ty){L L':List Nd}{ps FQ:List PM},Kw pl L L'->dH (OH pl) ps FQ->∀(g g':Env)(R R':Rn)(s s':St)(D Λ cG:Nat->Prop)(ρ:Nat->Nat),qK D Λ cG ρ s s'->bC Λ s g->bC cG s' g'->gQ D ρ s s' g g'->iA Λ s R->iA cG s' R'->RnR ρ s s' R R'->
 kR pl (Eh tk L ps g R) (Eh tk L' FQ g' R') s s' λq u q' u'=>∃bK,uV D Λ cG ρ s s' bK u u'/\(bC Λ u q.1/\bC cG u' q'.1/\gQ D bK u u' q.1 q'.1)/\iA Λ u q.2/\iA cG u' q'.2/\RnR bK u u' q.2 q'.2
 |a::tk,x::L,x'::L',p::ps,p'::FQ,hL,.cons hp hps,g,g',R,R',s,s',D,Λ,cG,ρ,h,hg,Dx,rg,hR,hR',rR=>by
  rw[Eh];refine(hp g g' s s' D Λ cG ρ h hg Dx rg).and λq u q' u'⟨bK,dP,⟨a1,a2,a3⟩,b1,b2,b3⟩=>?_;refine(uX dP.both (rR.eZ hR dP) (hR.run dP.kp.run) (hR'.run dP.iI.run) a).and λi v i' v'⟨lV,gM,c1,c2,c3,d1,d2,d3⟩=>?_;refine(ir gM.both (a1.run gM.kp.run) c1 (a2.run gM.iI.run) c2 (gM.po a1 a3) c3<|λp=>hL.cons.1.sp p).and λ_ w _ w'⟨ρ3,pQ⟩=>?_;have FU:=gM.trans pQ;refine(Dw tk hL.cons.2 hps q.2 q'.2 i.2 i'.2 w w' D Λ cG ρ3 pQ.both (b1.run FU.kp.run) (b2.run FU.iI.run) (b3.eZ b1 FU) (d1.run pQ.kp.run) (d2.run pQ.iI.run)<|d3.eZ d1 pQ).imp λ_ y _ y'⟨Dy,Kx,r4⟩=>?_;exact⟨Dy,(dP.trans FU).trans Kx,r4⟩
 |[],_,_,_,_,_,_,g,g',R,R',s,s',D,Λ,cG,ρ,h,hg,Dx,rg,hR,hR',rR=>by simp only[Eh];exact .ret ⟨ρ,h.refl,⟨hg,Dx,rg⟩,hR,hR',rR⟩|_::_,[],[],_,_,_,_,g,g',R,R',s,s',D,Λ,cG,ρ,h,hg,Dx,rg,hR,hR',rR=>by simp only[Eh];exact .ret ⟨ρ,h.refl,⟨hg,Dx,rg⟩,hR,hR',rR⟩|_::_,[],_::_,_,_,hL,_,_,_,_,_,_,_,_,_,_,_,_,_,_,_,_,_,_=>by have:=hL.es;simp[dI]at this|_::_,_::_,[],_,_,hL,_,_,_,_,_,_,_,_,_,_,_,_,_,_,_,_,_,_=>by have:=hL.es;simp[dI]at this|_::_,_::_,_::_,[],[],_,.nil,g,g',R,R',s,s',D,Λ,cG,ρ,h,hg,Dx,rg,hR,hR',rR=>by simp only[Eh];exact .ret ⟨ρ,h.refl,⟨hg,Dx,rg⟩,hR,hR',rR⟩
def RT{p:Prop}(h:p:=by
 exact .ret ⟨ρ,h.refl,⟨bM,bM,.aM _⟩,hg,Dx,rg⟩):p:=h
def Kz mk k x{ps FQ}(hL:Kw pl L L')(hp:dH (OH pl) ps FQ):OH pl (sw mk k x L ps) (sw mk k x L' FQ):=by
 intro g g' s s' D Λ cG ρ h hg Dx rg;rw[sw];refine kR.ite (λ_=>?_) λ_=>?_
 .exact(mM h).and λv u v' u'⟨bK,st,a⟩=>.ret ⟨bK,st,a,hg.run st.kp.run,Dx.run st.iI.run,rg.eZ hg st⟩
 refine kR.ite (λ_=>?_) λ_=>?_
 .exact(mM h).and λv u v' u'⟨bK,st,a⟩=>.ret ⟨bK,st,a,(hg.run st.kp.run).set _ a.1.mono,(Dx.run st.iI.run).set _ a.2.1.mono,(rg.eZ hg st).set _ a.2.2.mono⟩
 refine kR.ite (λ_=>?_) λ_=>?_
 .exact RT
 refine kR.ite (λ_=>?_) λ_=>?_
 .exact RT
 refine kR.ite (λ_=>?_) λ_=>?_
 .exact RT
 refine kR.ite (λ_=>?_) λ_=>?_
 .refine(OI hp 0 g g' s s' D Λ cG ρ h hg Dx rg).and λa u a' u'⟨bK,dP,⟨a1,a2,a3⟩,b1,b2,b3⟩=>?_;refine(OI hp 1 _ _ u u' D Λ cG bK dP.both b1 b2 b3).and λb v b' v'⟨lV,gM,⟨c1,c2,c3⟩,d⟩=>?_;exact .ret ⟨lV,dP.trans gM,⟨dN (a1.run gM.kp.run) c1,dN (a2.run gM.iI.run) c2,.two _ (gM.po a1 a3) c3⟩,d⟩
 cases mk x with
 |none=>exact .no|some p=>
  refine(Dw p.1 hL hp g g' Cr Cr s s' D Λ cG ρ h hg Dx rg (.zero _ _) (.zero _ _) .zero).and λq u q' u'⟨bK,dP,⟨a1,a2,a3⟩,b1,b2,b3⟩=>?_;refine(uX dP.both b3 b1 b2 p.2).and λi v i' v'⟨lV,gM,c1,c2,c3,_⟩=>?_;exact .ret ⟨lV,dP.trans gM,⟨c1,c2,c3⟩,a1.run gM.kp.run,a2.run gM.iI.run,a3.eZ a1 gM⟩
def RG{n' t t' a a':Nat}{s'}(h:es (.mk k s n L f t a)=es (.mk k' s' n' L' f' t' a')):k=k'/\((k≠3/\k≠15)->s=s')/\dI L=dI L':=by
 simp only[es,Nd.mk.injEq]at h;obtain⟨rfl,h2,-,h4,-⟩:=h;refine⟨rfl,λq=>?_,h4⟩;rw[if_neg ae,if_neg ae]at h2;exact h2
def Vr mk x y L ps(h:k=3\/k=15):sw mk k x L ps=sw mk k y L ps:=by
 obtain rfl|rfl:=h<;>(funext g;simp[sw])
def Vs mk x y L f t ps(h:k=3\/k=15):kZ mk k x L f t ps=kZ mk k y L f t ps:=by
 obtain rfl|rfl:=h<;>(funext g;simp[kZ])
mutual
def KG{pl:Prop}(mk:Mks):∀x x',NdE pl x x'->OH pl (dv mk x) (dv mk x')
 |.mk k s n L f t a,.mk k' s' n' L' f' t' a',h=>by
  obtain⟨rfl,h2,h3⟩:=RG h.es;have hL:Kw pl L L':=⟨h3,λp=>by have:=h.pl p;injection this⟩;unfold dv;by_cases e:k=3\/k=15
  .rw[Vr mk s' s L' _ e];exact Kz mk k s hL<|uY mk L L' hL
  .rw[<-h2 ⟨λq=>e<|ja q,λq=>e<|jc q⟩];exact Kz mk k s hL<|uY mk L L' hL
def uY{pl:Prop}(mk:Mks):∀L L',Kw pl L L'->dH (OH pl) (mh mk L) (mh mk L')
 |[],[],_=>.nil|[],_::_,h=>by have:=h.es;simp[dI]at this|_::_,[],h=>by have:=h.es;simp[dI]at this|x::L,x'::L',h=>.cons (KG mk x x' h.cons.1)<|uY mk L L' h.cons.2
end
end In
namespace In
def Dz{pl:Prop}(mk:Mks):∀{L L':List Nd}{ps FQ:List EM},Kw pl L L'->dH (xR pl) ps FQ->∀(Γ dG:Env)(t t' r r':Ty)(s s':St)(D Λ cG:Nat->Prop)(ρ:Nat->Nat),qK D Λ cG ρ s s'->bC Λ s Γ->bC cG s' dG->gQ D ρ s s' Γ dG->cA Λ s t->cA cG s' t'->jX ρ s s' t t'->cA Λ s r->cA cG s' r'->jX ρ s s' r r'->
 kR pl (nZ mk Γ t r L ps) (nZ mk dG t' r' L' FQ) s s' λ_ u _ u'=>∃bK,uV D Λ cG ρ s s' bK u u'
 |p::e::L,p'::e'::L',q1::pe::ps,q2::pe'::FQ,hL,.cons _<|.cons hpe hps,Γ,dG,t,t',r,r',s,s',D,Λ,cG,ρ,h,cq,gR,so,a1,a2,a3,b1,b2,b3=>by
  have⟨hp,hL1⟩:=hL.cons;have⟨he,hL2⟩:=hL1.cons;rw[nZ];refine(KG mk p p' hp _ _ s s' D Λ cG ρ h (.none _ _) (.none _ _) .none).and λq u q' u'⟨bK,dP,⟨c1,c2,c3⟩,d1,d2,d3⟩=>?_;refine(ir dP.both (a1.run dP.kp.run) c1 (a2.run dP.iI.run) c2 (dP.po a1 a3) c3<|λp=>hp.sp p).and λ_ v _ v'⟨lV,gM⟩=>?_;have nL:=dP.trans gM;refine(hpe _ _ v v' D Λ cG lV gM.both ((d1.run gM.kp.run).over<|cq.run nL.kp.run) ((d2.run gM.iI.run).over<|gR.run nL.iI.run)<|(d3.eZ d1 gM).over<|so.eZ cq nL).and λx w x' w'⟨ρ3,pQ,e1,e2,e3⟩=>?_;have FX:=nL.trans pQ;refine(ir pQ.both (b1.run FX.kp.run) e1 (b2.run FX.iI.run) e2 (FX.po b1 b3) e3<|λp=>he.sp p).and λ_ y _ y'⟨Dy,Kx⟩=>?_;have Ci:=FX.trans Kx;exact(Dz mk hL2 hps Γ dG t t' r r' y y' D Λ cG Dy Kx.both (cq.run Ci.kp.run) (gR.run Ci.iI.run) (so.eZ cq Ci) (a1.run Ci.kp.run) (a2.run Ci.iI.run) (Ci.po a1 a3) (b1.run Ci.kp.run) (b2.run Ci.iI.run)<|Ci.po b1 b3).imp λ_ _ _ _⟨ρ5,st5⟩=>⟨ρ5,Ci.trans st5⟩
 |[],[],_,_,_,_,_,_,_,_,_,_,s,s',D,Λ,cG,ρ,h,_,_,_,_,_,_,_,_,_=>qBj|[_],[_],_,_,_,_,_,_,_,_,_,_,s,s',D,Λ,cG,ρ,h,_,_,_,_,_,_,_,_,_=>qBj|_::_::_,_::_::_,[],[],_,.nil,_,_,_,_,_,_,s,s',D,Λ,cG,ρ,h,_,_,_,_,_,_,_,_,_=>qBj|_::_::_,_::_::_,[_],[_],_,.cons _ .nil,_,_,_,_,_,_,s,s',D,Λ,cG,ρ,h,_,_,_,_,_,_,_,_,_=>qBj|[],_::_,_,_,hL,_,_,_,_,_,_,_,_,_,_,_,_,_,_,_,_,_,_,_,_,_,_,_=>by have:=hL.es;simp[dI]at this|_::_,[],_,_,hL,_,_,_,_,_,_,_,_,_,_,_,_,_,_,_,_,_,_,_,_,_,_,_=>by have:=hL.es;simp[dI]at this|[_],_::_::_,_,_,hL,_,_,_,_,_,_,_,_,_,_,_,_,_,_,_,_,_,_,_,_,_,_,_=>by have:=hL.es;simp[dI]at this|_::_::_,[_],_,_,hL,_,_,_,_,_,_,_,_,_,_,_,_,_,_,_,_,_,_,_,_,_,_,_=>by have:=hL.es;simp[dI]at this
def Az rc x{e:Nd}(he:NdE pl e e'){pe pe':EM}(hp:xR pl pe pe'):xR pl (bX rc x e pe) (bX rc x e' pe'):=by
 intro Γ dG s s' D Λ cG ρ h cq gR so;rw[bX];refine kR.ite (λ_=>?_) λ_=>hp Γ dG s s' D Λ cG ρ h cq gR so;refine(mM h).and λv u v' u'⟨bK,dP,a1,a2,a3⟩=>?_;refine(hp _ _ u u' D Λ cG bK dP.both ((cq.run dP.kp.run).set _ a1.mono) ((gR.run dP.iI.run).set _ a2.mono)<|(so.eZ cq dP).set _ a3.mono).and λt w t' w'⟨lV,gM,b1,b2,b3⟩=>?_;refine(ir gM.both (a1.run gM.kp.run) b1 (a2.run gM.iI.run) b2 (gM.po a1 a3) b3<|λp=>he.sp p).and λ_ y _ y'⟨ρ3,pQ⟩=>?_;exact .ret ⟨ρ3,(dP.trans gM).trans pQ,b1.run pQ.kp.run,b2.run pQ.iI.run,pQ.po b1 b3⟩
mutual
def uZ:∀x,sg (es x)=sg x
 |.mk k s n L f t a=>by
  simp only[es,sg,RH L,RI L,RJ L,aaC L]
def RH:∀L,Vl (dI L)=Vl L
 |[]=>rfl|x::l=>by simp only[dI,Vl,uZ x,RH l]
def RI:∀L,Vm (dI L)=Vm L
 |[]=>rfl|x::l=>by simp only[dI,Vm,uZ x]
def RJ:∀L,SN (dI L)=SN L
 |[]=>rfl|x::l=>by simp only[dI,SN,RI l]
def aaC:∀L,isC (dI L)=isC L
 |[]=>rfl|x::l=>by simp only[dI,isC,ag4 x]
def ag4:∀x,isM (es x)=isM x
 |.mk k s n L f t a=>by simp only[es,isM,RJ L,aaC L]
end
section
variable {s s':St}
def Vt(h:qK D Λ cG ρ s s'){Γ dG:Env}(cq:bC Λ s Γ)(so:gQ D ρ s s' Γ dG)(d:D v)(u:s.u v)(e:s.k v=.var v):vJ Γ s.k v↔vJ dG s'.k (ρ v):=by
 constructor
 .rintro⟨y,c,q1,q2,q3⟩;obtain⟨z,_⟩|⟨d,c',z1,z2,z3⟩:=so y
  .rw[q1]at z;cases z
  .rw[q1]at z1;injection z1 with z1;subst z1;refine⟨y,c',z2,?_,λq=>q3 ?_⟩
   .rw[z3.of];exact(bO _).2 ⟨v,q2,by simp[my,aw]⟩
   .rw[z3.any]at q;exact any_map h (cq y c q1) z3.dom q2 q
 .rintro⟨y,c',q1,q2,q3⟩;obtain⟨_,z⟩|⟨c,d,z1,z2,z3⟩:=so y
  .rw[q1]at z;cases z
  .rw[q1]at z2;injection z2 with z2;subst z2;rw[z3.of]at q2;have⟨m,c1,c2⟩:=(bO _).1 q2;simp[my,aw]at c2;have⟨l1,l2⟩:=h.ok.og (cq y c z1).use c1;have:=h.rel.inj m v (((cq y c z1).loc m c1).elim (z3.dom m)<|h.dom m) d l1 l2 u e c2;subst this;exact⟨y,c,z1,c1,λq=>q3 (by rw[z3.any];exact List.mem_map.2 ⟨m,q,rfl⟩)⟩
def bC.del{Γ:Env}(h:bC Λ s Γ)x:bC Λ s (lL Γ x):=by grind[bC,lL]
def RK(h:qK D Λ cG ρ s s'){Γ dG:Env}(cq:bC Λ s Γ)(so:gQ D ρ s s' Γ dG)(a1:cA Λ s t)(a3:jX ρ s s' t t')v:Kv D ρ s s' (gd Γ s.k t v) (gd dG s'.k t' v):=by
 refine⟨?_,?_,λn hn=>a1.dom h.dom n (FI hn).1⟩
 .show sub s'.k (sub s'.k t')=sub (my ρ) (sub s.k<|sub s.k t);rw[h.ok.qW,h.FK.qW];exact a3
 .unfold gd
  cases v with
  |false=>simp|true=>
   simp only[if_true,yL];unfold jX at a3;have hR:Ren ρ (vars []<|sub s.k t):=λm hm n hn e=>by
    have⟨x1,x2⟩:=h.ok.og a1.use<|aC.1 hm;have⟨y1,y2⟩:=h.ok.og a1.use<|aC.1 hn;exact h.rel.inj m n (a1.dom h.dom m<|aC.1 hm) (a1.dom h.dom n<|aC.1 hn) x1 x2 y1 y2 e
   have hv:=sI (ρ:=ρ) (sub s.k t) (a:=[]) hR;simp only[ju]at hv;rw[a3,hv,List.filter_map];congr 1;refine List.filter_congr λn hn=>?_;have⟨x1,x2⟩:=h.ok.og a1.use<|aC.1 hn;have:=Vt h cq so (a1.dom h.dom n<|aC.1 hn) x1 x2;simp[this]
def uV.wide{M M'}{bK}{s1 Ax}(h:uV D Λ cG ρ s s' bK s1 Ax)(a:∀n,Λ n->M n)(b:∀n,cG n->M' n)(hD:∀n,M n->D n):uV D M M' ρ s s' bK s1 Ax:=
 ⟨⟨h.kp.ok,λn q=>a n<|h.kp.new n q,h.kp.run.wide a⟩,⟨h.iI.ok,λn q=>b n<|h.iI.new n q,h.iI.run.wide b⟩,h.rel,h.ty,λn q1 q2 d q3=>h.any n q1 q2 d λq=>q3<|a n q,hD⟩
def KH rc x{e:Nd}(he:NdE pl e e'){pe pe' pf pf':EM}(hp:xR pl pe pe')(hf:xR pl pf pf'):xR pl (oe rc x e pe pf) (oe rc x e' pe' pf'):=by
 intro Γ dG s s' D Λ cG ρ h cq gR so;unfold oe;have hv:sg e=sg e':=by rw[<-uZ e,<-uZ e',he.es]
 rw[<-hv];refine(Az rc x he hp Γ dG s s' D Λ cG ρ h cq gR so).and λt u t' u'⟨bK,dP,a1,a2,a3⟩=>?_;have ag5:=cq.run dP.kp.run;have ajA:=gR.run dP.iI.run;have ag6:=so.eZ cq dP;have⟨hE,hN⟩:=yc dP.kp.ok dP.kp.new ag5 a1 rc x<|sg e;have⟨hE',hN'⟩:=yc dP.iI.ok dP.iI.new ajA a2 rc x<|sg e;have hS:Kv D bK u u' (gd (if rc then lL Γ x else Γ) u.k t (sg e)) (gd (if rc then lL dG x else dG) u'.k t' (sg e)):=by
  cases rc with
  |true=>simp only[if_true];exact RK dP.both (ag5.del x) (ag6.del x) a1 a3 _|false=>exact RK dP.both ag5 ag6 a1 a3 _
 exact kR.imp (hf _ _ u u' D _ _ bK ⟨λn q=>h.dom n q.1,dP.kp.ok,hN,dP.iI.ok,hN',dP.rel⟩ hE hE'<|ag6.set x hS) λy w y' w'⟨lV,gM,b1,b2,b3⟩=>
  ⟨lV,dP.trans<|gM.wide (λn q=>q.1) (λn q=>q.1) h.dom,⟨b1.use,λn q=>(b1.loc n q).1⟩,⟨b2.use,λn q=>(b2.loc n q).1⟩,b3⟩
end
def Vu{E}{l:List α}{k:List β}(h:dH E l k):dH E l.tail k.tail:=by
 cases h with
 |nil=>exact .nil|cons _ h=>exact h
def Kw.tail:∀{L L':List Nd},Kw pl L L'->Kw pl L.tail L'.tail
 |[],[],_=>⟨rfl,λ_=>rfl⟩|[],_::_,h=>by have:=h.es;simp[dI]at this|_::_,[],h=>by have:=h.es;simp[dI]at this|_::_,_::_,h=>h.cons.2
def RU{p:Prop}(h:p:=by
 exact .ret ⟨ρ,h.refl,bM,bM,.aM _⟩):p:=h
def KI mk k x{t t'}(hs:pl->f=f'/\t=t'){ps FQ}(hL:Kw pl L L')(hp:dH (xR pl) ps FQ):xR pl (kZ mk k x L f t ps) (kZ mk k x L' f' t' FQ):=by
 intro Γ dG s s' D Λ cG ρ h cq gR so;have h0:=FT hp 0;have h1:=FT hp 1;have h2:=FT hp 2;have n0:=hL.nth 0;have n1:=hL.nth 1;have n2:=hL.nth 2;rw[kZ];refine kR.ite (λ_=>?_) λ_=>?_
 .exact aaB h cq gR so _ hs
 refine kR.ite (λ_=>?_) λ_=>?_
 .rw[upM]
  cases mk x with
  |none=>exact .no|some p=>exact(uX h .zero (.zero _ _) (.zero _ _) _).and λq u q' u'⟨bK,dP,a1,a2,a3,_⟩=>.ret ⟨bK,dP,a1,a2,a3⟩
 refine kR.ite (λ_=>?_) λ_=>?_
 .exact RU
 refine kR.ite (λ_=>?_) λ_=>?_
 .exact RU
 refine kR.ite (λ_=>?_) λ_=>?_
 .exact RU
 refine kR.ite (λ_=>?_) λ_=>?_
 .refine(h0 Γ dG s s' D Λ cG ρ h cq gR so).and λa u a' u'⟨bK,dP,a1,a2,a3⟩=>?_;refine(h1 Γ dG u u' D Λ cG bK dP.both (cq.run dP.kp.run) (gR.run dP.iI.run)<|so.eZ cq dP).and λb v b' v'⟨lV,gM,b1,b2,b3⟩=>?_;exact .ret ⟨lV,dP.trans gM,dN (a1.run gM.kp.run) b1,dN (a2.run gM.iI.run) b2,.two _ (gM.po a1 a3) b3⟩
 refine kR.ite (λ_=>?_) λ_=>?_
 .rw[<-n1.es];refine kR.ite (λhz=>?_) λ_=>.no;refine(h0 Γ dG s s' D Λ cG ρ h cq gR so).and λa u a' u'⟨bK,dP,a1,a2,a3⟩=>?_;refine(ir dP.both a1 (jW hz) a2 (jW hz) a3 (.shut hz)<|λp=>n0.sp p).and λ_ v _ v'⟨lV,gM⟩=>?_;exact .ret ⟨lV,dP.trans gM,jW hz,jW hz,.shut hz⟩
 refine kR.ite (λ_=>?_) λ_=>?_
 .refine(h0 Γ dG s s' D Λ cG ρ h cq gR so).and λa u a' u'⟨bK,dP,a1,a2,a3⟩=>?_;refine(ir dP.both a1 bM a2 bM a3 (.aM _)<|λp=>n0.sp p).and λ_ v _ v'⟨lV,gM⟩=>?_;have nL:=dP.trans gM;refine(h1 Γ dG v v' D Λ cG lV gM.both (cq.run nL.kp.run) (gR.run nL.iI.run)<|so.eZ cq nL).and λb w b' w'⟨ρ3,pQ,b1,b2,b3⟩=>?_;refine(ir pQ.both b1 bM b2 bM b3 (.aM _)<|λp=>n1.sp p).and λ_ y _ y'⟨Dy,Kx⟩=>?_;refine .ret ⟨Dy,(nL.trans pQ).trans Kx,?_⟩;split<;>exact⟨bM,bM,.aM _⟩
 refine kR.ite (λ_=>?_) λ_=>?_
 .refine(h0 Γ dG s s' D Λ cG ρ h cq gR so).and λa u a' u'⟨bK,dP,a1,a2,a3⟩=>?_;refine(h1 Γ dG u u' D Λ cG bK dP.both (cq.run dP.kp.run) (gR.run dP.iI.run)<|so.eZ cq dP).and λb v b' v'⟨lV,gM,b1,b2,b3⟩=>?_;refine(mM gM.both).and λc w c' w'⟨ρ3,pQ,c1,c2,c3⟩=>?_;have FU:=gM.trans pQ;refine(ir pQ.both (a1.run FU.kp.run) (dN (b1.run pQ.kp.run) c1) (a2.run FU.iI.run) (dN (b2.run pQ.iI.run) c2) (FU.po a1 a3) (.two _ (pQ.po b1 b3) c3) hs).and λ_ y _ y'⟨Dy,Kx⟩=>?_;exact .ret ⟨Dy,(dP.trans FU).trans Kx,c1.run Kx.kp.run,c2.run Kx.iI.run,Kx.po c1 c3⟩
 refine kR.ite (λ_=>?_) λ_=>?_
 .refine(mM h).and λc u c' u'⟨bK,dP,c1,c2,c3⟩=>?_;refine(h0 _ _ u u' D Λ cG bK dP.both ((cq.run dP.kp.run).set _ c1.mono) ((gR.run dP.iI.run).set _ c2.mono)<|(so.eZ cq dP).set _ c3.mono).and λa v a' v'⟨lV,gM,a1,a2,a3⟩=>?_;exact .ret ⟨lV,dP.trans gM,dN (c1.run gM.kp.run) a1,dN (c2.run gM.iI.run) a2,.two _ (gM.po c1 c3) a3⟩
 refine kR.ite (λ_=>?_) λ_=>?_
 .exact KH false x n0 h0 h1 Γ dG s s' D Λ cG ρ h cq gR so
 refine kR.ite (λ_=>?_) λ_=>?_
 .exact KH true x n0 h0 h1 Γ dG s s' D Λ cG ρ h cq gR so
 refine kR.ite (λ_=>?_) λ_=>?_
 .refine(h0 Γ dG s s' D Λ cG ρ h cq gR so).and λa u a' u'⟨bK,dP,a1,a2,a3⟩=>?_;refine(ir dP.both a1 bM a2 bM a3 (.aM _)<|λp=>n0.sp p).and λ_ v _ v'⟨lV,gM⟩=>?_;have nL:=dP.trans gM;refine(h1 Γ dG v v' D Λ cG lV gM.both (cq.run nL.kp.run) (gR.run nL.iI.run)<|so.eZ cq nL).and λb w b' w'⟨ρ3,pQ,b1,b2,b3⟩=>?_;have FX:=nL.trans pQ;refine(h2 Γ dG w w' D Λ cG ρ3 pQ.both (cq.run FX.kp.run) (gR.run FX.iI.run)<|so.eZ cq FX).and λc y c' y'⟨Dy,Kx,c1,c2,c3⟩=>?_;refine(ir Kx.both (b1.run Kx.kp.run) c1 (b2.run Kx.iI.run) c2 (Kx.po b1 b3) c3<|λp=>n2.sp p).and λ_ z _ z'⟨ρ5,st5⟩=>?_;have adF:=Kx.trans st5;exact .ret ⟨ρ5,FX.trans adF,b1.run adF.kp.run,b2.run adF.iI.run,adF.po b1 b3⟩
 refine kR.ite (λ_=>?_) λ_=>.no
 .refine(h0 Γ dG s s' D Λ cG ρ h cq gR so).and λa u a' u'⟨bK,dP,a1,a2,a3⟩=>?_;refine(mM dP.both).and λc v c' v'⟨lV,gM,c1,c2,c3⟩=>?_;have nL:=dP.trans gM;refine(Dz mk hL.tail (Vu hp) Γ dG a a' _ _ v v' D Λ cG lV gM.both (cq.run nL.kp.run) (gR.run nL.iI.run) (so.eZ cq nL) (a1.run gM.kp.run) (a2.run gM.iI.run) (gM.po a1 a3) c1 c2 c3).and λ_ w _ w'⟨ρ3,pQ⟩=>?_;exact .ret ⟨ρ3,nL.trans pQ,c1.run pQ.kp.run,c2.run pQ.iI.run,pQ.po c1 c3⟩
mutual
def RL{pl:Prop}(mk:Mks):∀x x',NdE pl x x'->xR pl (inf mk x) (inf mk x')
 |.mk k s n L f t a,.mk k' s' n' L' f' t' a',h=>by
  obtain⟨rfl,h2,h3⟩:=RG h.es;have hL:Kw pl L L':=⟨h3,λp=>by have:=h.pl p;injection this⟩;have hs:pl->f=f'/\t=t':=λp=>h.sp p;unfold inf;by_cases e:k=3\/k=15
  .rw[Vs mk s' s L' f' t' _ e];exact KI mk k s hs hL<|AA mk L L' hL
  .rw[<-h2 ⟨λq=>e<|ja q,λq=>e<|jc q⟩];exact KI mk k s hs hL<|AA mk L L' hL
def AA{pl:Prop}(mk:Mks):∀L L',Kw pl L L'->dH (xR pl) (rh mk L) (rh mk L')
 |[],[],_=>.nil|[],_::_,h=>by have:=h.es;simp[dI]at this|_::_,[],h=>by have:=h.es;simp[dI]at this|x::L,x'::L',h=>.cons (RL mk x x' h.cons.1)<|AA mk L L' h.cons.2
end
end In
namespace In
def nxt(rs:Bool)(s:St):St:=⟨if rs then Ty.var else s.k,s.u⟩
def td(rs:Bool):List Dc->Mks->Env->St->List (BA×Ty)->Option Ft->Prop
 |[],_,_,_,B,F=>B=[]/\F=none|.ty t vs ms::r,mk,Γ,s0,B,F=>td rs r (wa t vs ms mk) Γ s0 B F
 |.lt rc t b::r,mk,Γ,s0,B,F=>∃o,bX rc t.text b (inf mk b) Γ s0 o/\match o with
  |.error x=>B=[]/\F=some x
  |.ok (a,s)=>(48<size (sub s.k a)/\B=[]/\F=some (qN t.al t.to))\/
   (size (sub s.k a)<=48/\∃T B',T=(if sg b then sub s.k a else dU (sub s.k a))/\B=(t.text,T)::B'/\td rs r mk (cz Γ t.text ⟨T,vars [] T⟩) (nxt rs s) B' F)
def sF u:Ok ⟨Ty.var,u⟩:=⟨λ_ _=>rfl,λv n q1 q2=>by simp[aw]at q2;subst q2;exact q1,λv n q=>by simp[aw]at q;subst q;rfl⟩
def Ye(s:St)(Γ:Env):=∀y c,Γ y=some c->c.any=vars [] c.of/\∀v,v∈c.any->s.u v/\s.k v=.var v
def Ye.fix{s:St}{Γ:Env}(h:Ye s Γ){y}{c}(q:Γ y=some c):sub s.k c.of=c.of:=gH λn hn=>((h y c q).2 n (by rw[(h y c q).1];exact aC.2 hn)).2
def Ye.env{s:St}{Γ:Env}(h:Ye s Γ):bC (λn=>¬s.u n) s Γ:=λy c q=>by
 have⟨h1,h2⟩:=h y c q;refine⟨λn hn=>(h2 n (by rw[h1];exact aC.2 hn)).1,λn hn=>ja ?_,λv hv=>⟨(h2 v hv).2,λq=>q (h2 v hv).1⟩,λv hv=>by rw[h1]at hv;exact aC.1 hv⟩;rw[h1];rw[h.fix q]at hn;exact aC.2 hn
def FZ(u:Nat->Prop)(Γ:Env):Nat->Prop:=λn=>¬u n\/∃y c,Γ y=some c/\n∈c.any
structure F_ ρ s s' Γ dG:Prop where
 ok:Ok s
 FK:Ok s'
 top:Ye s Γ
 KJ:Ye s' dG
 rel:Rel (FZ s.u Γ) ρ s s'
 env:gQ (FZ s.u Γ) ρ s s' Γ dG
def F_.both{s s':St}{Γ dG:Env}(h:F_ ρ s s' Γ dG):qK (FZ s.u Γ) (λn=>¬s.u n) (λn=>¬s'.u n) ρ s s':=⟨λn q=>ja q,h.ok,λ_ q=>q,h.FK,λ_ q=>q,h.rel⟩
def aaD{s:St}(h:Ok s)rs:Ok (nxt rs s):=by
 cases rs with
 |false=>exact h|true=>exact sF _
def tO{s:St}(h:s.k n=.var n)rs:(nxt rs s).k n=.var n:=by
 cases rs with
 |false=>exact h|true=>rfl
inductive DcE(pl:Prop):Dc->Dc->Prop where
 |ty(t t':jd)(vs vs':List jd)(ms ms':List Nd):t.text=t'.text->vs.map (·.text)=vs'.map (·.text)->dI ms=dI ms'->DcE pl (.ty t vs ms) (.ty t' vs' ms')
 |lt(r:Bool)(t t':jd)(b b':Nd):t.text=t'.text->(pl->t=t')->NdE pl b b'->DcE pl (.lt r t b) (.lt r t' b')
def aaE:∀{x y:Nd},Kq x=2->es x=es y->Ry x=Ry y
 |.mk k s n L f t a,.mk k' s' n' L' f' t' a',h,e=>(RG e).2.1 (by simp only[Kq]at h;omega)
def aaF:∀{x y:Nd},es x=es y->Kr ns x=Kr ns y
 |.mk k s n L f t a,.mk k' s' n' L' f' t' a',e=>by simp only[Kr,(RG e).2.2]
def KN{t t':jd}{vs vs':List jd}(ht:t.text=t'.text)(hv:vs.map (·.text)=vs'.map (·.text)):∀{ms ms':List Nd},(∀m∈ms,Kq m=2)->dI ms=dI ms'->∀mk,wa t vs ms mk=wa t' vs' ms' mk
 |[],[],_,_,mk=>rfl|[],_::_,_,h,_=>by simp[dI]at h|_::_,[],_,h,_=>by simp[dI]at h|m::ms,m'::ms',hk,h,mk=>by
  simp only[dI,List.cons.injEq]at h;have hl:vs.length=vs'.length:=by have:=congrArg List.length hv;simpa using this
  simp only[wa];rw[KN ht hv (λm q=>hk m qBf) h.2,aaE (hk m ag) h.1,aaF h.1,hv];simp only[OG,ht,hl]
def DcK:Dc->Prop
 |.ty _ _ ms=>∀m∈ms,Kq m=2|.lt _ _ _=>True
section
variable (dec:Nat->List UInt8)
def DA(B:List (BA×Ty)):List (BA×List UInt8):=B.map λp=>(p.1,j7 dec p.2)
def pq t:vars [] (dU t)=[]:=by
 cases e:vars [] (dU t)with
 |nil=>rfl|cons n l=>
  have:aw n (dU t):=aC.1 (by rw[e];simp);have⟨m,_,c⟩:=(bO _).1 this;simp[aw,bW]at c
def OJ ρ t:dU (sub (my ρ) t)=dU t:=by
 unfold dU;rw[lG]
def F_.next{s0 s0':St}{Γ dG:Env}(h:F_ ρ s0 s0' Γ dG){s s':St}(st:uV (FZ s0.u Γ) (λn=>¬s0.u n) (λn=>¬s0'.u n) ρ s0 s0' bK s s')(a1:cA (λn=>¬s0.u n) s a)(a2:cA (λn=>¬s0'.u n) s' a')(a3:jX bK s s' a a')(x:BA)(v:Bool){T T':Ty}(hT:T=if v then sub s.k a else dU (sub s.k a))(Xa:T'=if v then sub s'.k a' else dU (sub s'.k a'))(rs OK:Bool):
 j7 dec T'=j7 dec T/\F_ bK (nxt rs s) (nxt OK s') (cz Γ x ⟨T,vars [] T⟩) (cz dG x ⟨T',vars [] T'⟩):=by
 have oT:∀n,aw n T->s.u n/\s.k n=.var n/\¬s0.u n:=λn hn=>by
  cases v with
  |true=>simp only[if_true]at hT;subst hT;exact⟨(st.kp.ok.og a1.use hn).1,(st.kp.ok.og a1.use hn).2,a1.loc n hn⟩|false=>simp at hT;subst hT;have:=aC.2 hn;rw[pq]at this;simp at this
 have oT':∀n,aw n T'->s'.u n/\s'.k n=.var n:=λn hn=>by
  cases v with
  |true=>simp only[if_true]at Xa;subst Xa;exact st.iI.ok.og a2.use hn|false=>simp at Xa;subst Xa;have:=aC.2 hn;rw[pq]at this;simp at this
 have dT:∀n,aw n T->FZ s0.u Γ n:=λn hn=>ja (oT n hn).2.2;have hR:Ren bK (vars [] T):=λm hm n hn e=>by
  have q1:=oT m<|aC.1 hm;have q2:=oT n<|aC.1 hn;exact st.rel.inj m n (dT m<|aC.1 hm) (dT n<|aC.1 hn) q1.1 q1.2.1 q2.1 q2.2.1 e
 have eT:T'=sub (my bK) T:=by
  rw[jX]at a3
  cases v with
  |true=>grind|false=>
   simp at hT Xa;rw[Xa,a3,OJ,<-hT];exact(gH λn hn=>by have:=aC.2 hn;rw[hT,pq]at this;simp at this).symm
 have hv:=sI (ρ:=bK) T (a:=[]) hR;simp only[ju]at hv;refine⟨by rw[eT];exact vV dec hR,?_⟩;have fe:∀y c n,Γ y=some c->n∈c.any->s0.u n/\s.u n/\s.k n=.var n/\bK n=ρ n/\FZ s0.u Γ n:=λy c n q1 q2=>by
  have⟨hu,hf⟩:=(h.top y c q1).2 n q2;have hd:FZ s0.u Γ n:=jc ⟨y,c,q1,q2⟩;exact⟨hu,st.kp.run.mono n hu,st.kp.fix hf<|λq=>q hu,st.any n hu hf hd<|λq=>q hu,hd⟩
 have OL:∀n,FZ s.u (cz Γ x ⟨T,vars [] T⟩) n->s.u n->FZ s0.u Γ n/\s.k n=.var n:=λn q1 q2=>by
  obtain q|⟨y,c,q3,q4⟩:=q1
  .exact absurd q2 q
  .rw[cz]at q3;split at q3
   .injection q3 with q3;subst q3;exact⟨dT n<|aC.1 q4,(oT n<|aC.1 q4).2.1⟩
   .grind
 have tp:Ye (nxt rs s) (cz Γ x ⟨T,vars [] T⟩):=λy c q=>by
  rw[cz]at q;split at q
  .injection q with q;subst q;exact⟨rfl,λv hv=>⟨(oT v<|aC.1 hv).1,tO (oT v<|aC.1 hv).2.1 rs⟩⟩
  .exact⟨(h.top y c q).1,λv hv=>⟨(fe y c v q hv).2.1,tO (fe y c v q hv).2.2.1 rs⟩⟩
 have tp':Ye (nxt OK s') (cz dG x ⟨T',vars [] T'⟩):=λy c q=>by
  rw[cz]at q;split at q
  .injection q with q;subst q;exact⟨rfl,λv hv=>⟨(oT' v<|aC.1 hv).1,tO (oT' v<|aC.1 hv).2 OK⟩⟩
  .exact⟨(h.KJ y c q).1,λv hv=>⟨st.iI.run.mono v ((h.KJ y c q).2 v hv).1,tO (st.iI.fix ((h.KJ y c q).2 v hv).2<|λz=>z ((h.KJ y c q).2 v hv).1) OK⟩⟩
 refine⟨aaD st.kp.ok rs,aaD st.iI.ok OK,tp,tp',⟨λn q1 q2 _=>?_,λm n p1 p2 q1 _ q2 _ e=>?_⟩,λy=>?_⟩
 .have⟨b1,b2⟩:=OL n q1 q2;exact⟨(st.rel.live n b1 q2 b2).1,tO (st.rel.live n b1 q2 b2).2 OK⟩
 .have⟨b1,b2⟩:=OL m p1 q1;have⟨c1,c2⟩:=OL n p2 q2;exact st.rel.inj m n b1 c1 q1 b2 q2 c2 e
 .by_cases e:y=x
  .refine jc ⟨⟨T,vars [] T⟩,⟨T',vars [] T'⟩,by simp[cz,e],by simp[cz,e],?_,?_,λv hv=>jc ⟨x,_,by simp[cz],hv⟩⟩
   .rw[jX];rw[tp.fix (y:=x)<|by simp[cz],tp'.fix (y:=x)<|by simp[cz]];exact eT
   .grind
  .obtain⟨q1,q2⟩|⟨c,c',q1,q2,q3⟩:=h.env y
   .exact ja ⟨by simp[cz,e,q1],by simp[cz,e,q2]⟩
   .refine jc ⟨c,c',by simp[cz,e,q1],by simp[cz,e,q2],?_,?_,λv hv=>jc ⟨y,c,by simp[cz,e,q1],hv⟩⟩
    .have:=q3.of;rw[jX]at this⊢;rw[tp.fix (y:=y)<|by simp[cz,e,q1],tp'.fix (y:=y)<|by simp[cz,e,q2]];rw[h.top.fix q1,h.KJ.fix q2]at this;rw[this];exact uW λn hn=>(fe y c n q1 (by rw[(h.top y c q1).1];exact aC.2 hn)).2.2.2.1.symm
    .rw[q3.any];exact jy λv hv=>(fe y c v q1 hv).2.2.2.1.symm
end
end In
namespace In
section
variable (dec:Nat->List UInt8)
def AB{rs OK:Bool}{r0:List Dc}:∀{l l':List Dc},dH (DcE False) l l'->(∀d∈l,DcK d)->∀(mk:Mks)(ρ:Nat->Nat)(u u':St)(Γ dG:Env),F_ ρ u u' Γ dG->∀B F B' F',td rs l mk Γ u B F->td OK (l'++r0) mk dG u' B' F'->
 (∃x,F=some x)\/F=none/\∃mk' ρ s s' G G' B0 B1,F_ ρ s s' G G'/\B'=B0++B1/\DA dec B0=DA dec B/\td OK r0 mk' G' s' B1 F'/\(B=[]/\G=Γ\/∃p,B.getLast? =some p/\G p.1=some ⟨p.2,vars [] p.2⟩)
 |[],[],.nil,_,mk,ρ,u,u',Γ,dG,hT,B,F,B',F',⟨q1,q2⟩,q'=>.inr ⟨q2,mk,ρ,u,u',Γ,dG,[],B',hT,rfl,by rw[q1],q',.inl ⟨q1,rfl⟩⟩|.ty t vs ms::r,.ty t' vs' ms'::r',.cons (.ty _ _ _ _ _ _ h1 h2 h3) hr,hk,mk,ρ,u,u',Γ,dG,hT,B,F,B',F',q,q'=>by
  rw[jq]at q';rw[td]at q q';rw[<-KN h1 h2 (hk (.ty t vs ms) ag) h3]at q';exact AB hr (λd q=>hk d qBf) _ ρ u u' Γ dG hT B F B' F' q q'
 |.lt rc t b::r,.lt _ t' b'::r',.cons (.lt _ _ _ _ _ h1 h2 h3) hr,hk,mk,ρ,u,u',Γ,dG,hT,B,F,B',F',q,q'=>by
  rw[jq]at q';rw[td]at q q';obtain⟨o,q1,q2⟩:=q;obtain⟨o',W_,q2'⟩:=q';rw[<-h1]at W_;have S:=Az rc t.text h3 (RL mk b b' h3) Γ dG _ _ _ _ _ ρ hT.both hT.top.env hT.KJ.env hT.env o o' q1 W_
  match o,o',S with
  |.error x,.error x',S=>exact .inl ⟨_,q2.2⟩|.ok (a,s),.ok (a',s'),S=>
   obtain⟨bK,st,a1,a2,a3⟩:=S;have z:=a3.size;obtain⟨z1,_,z2⟩|⟨z1,T,C,hC,rfl,q2⟩:=q2
   .exact .inl ⟨_,z2⟩
   .obtain⟨z1',_⟩|⟨z1',T',C',hC',rfl,q2'⟩:=q2'
    .omega
    .have hv:sg b=sg b':=by rw[<-uZ b,<-uZ b',h3.es]
     rw[<-hv]at hC';have⟨w,hT1⟩:=hT.next dec st a1 a2 a3 t.text (sg b) hC hC' rs OK;rw[<-h1]at q2';obtain g|⟨g0,mk',dS,s1,Ax,G,G',B0,B1,g1,rfl,g3,g4,g5⟩:=AB hr (λd q=>hk d qBf) mk bK _ _ _ _ hT1 C F C' F' q2 q2'
     .exact .inl g
     .refine .inr ⟨g0,mk',dS,s1,Ax,G,G',(t'.text,T')::B0,B1,g1,rfl,?_,g4,.inr ?_⟩
      .simp only[DA,j5]at g3⊢;rw[g3,w,h1]
      .obtain⟨rfl,rfl⟩|⟨p,g5,g6⟩:=g5
       .exact⟨_,rfl,by simp[cz]⟩
       .exact⟨p,by rw[List.getLast?_cons,g5];rfl,g6⟩
def Vz{rs:Bool}{mk:Mks}{s s':St}{G G':Env}(h:F_ ρ s s' G G'){x:BA}{T:Ty}(hG:G x=some ⟨T,vars [] T⟩)(hz:size T<=48){t:jd}{e a:Nat}{B:List (BA×Ty)}{F:Option Ft}(q:td rs [.lt false t<|.mk 1 x n [] f e a] mk G' s' B F):F=none/\∃T',B=[(t.text,T')]/\j7 dec T'=j7 dec T:=by
 obtain⟨z,_⟩|⟨c,c',q1,q2,q3⟩:=h.env x
 .rw[hG]at z;cases z
 rw[hG]at q1;obtain rfl:=Option.some.inj q1;have e1:c'.of=sub (my ρ) T:=by
  have:=q3.of;rw[jX]at this
  rwa[h.top.fix hG,h.KJ.fix q2]at this
 have e2:=h.KJ.fix q2;obtain⟨o,ho,q⟩:=q;simp only[bX,inf,kZ,rA,q2,if_true,Bool.false_eq_true,if_false]at ho;rw[e2,e1,sJ]at ho;obtain⟨z,_⟩|⟨_,lV,s2,⟨dS,u',hd,e3⟩,rfl⟩:=ho
 .omega
 cases e3
 rw[q3.any]at hd;have hv:∀v,v∈vars [] T->∃k,lV (ρ v)=some k/\¬s'.u k:=λv hv=>by
  have⟨k,hk⟩:=Option.ne_none_iff_exists'.1<|hd.all (ρ v)<|List.mem_map_of_mem hv;exact⟨k,hk,hd.new (ρ v) k rfl hk⟩
 have e4:sub (via lV) (sub (my ρ) T)=sub (my λv=>(lV<|ρ v).getD 0) T:=by
  rw[sub_sub];refine sub_congr _ λv o=>?_;have⟨k,hk,_⟩:=hv v<|aC.2 o;simp[my,sub,via,hk]
 have hR:Ren (λv=>(lV<|ρ v).getD 0) (vars [] T):=λm hm n hn e=>by
  have⟨k,hk,_⟩:=hv m hm;have⟨k',gi,_⟩:=hv n hn;simp only[hk,gi,Option.getD_some]at e;subst e;have t1:=(h.top x _ hG).2 m hm;have t2:=(h.top x _ hG).2 n hn;exact h.rel.inj m n (q3.dom m hm) (q3.dom n hn) t1.1 t1.2 t2.1 t2.2<|hd.one _ _ _ rfl hk gi
 have e5:sub s'.k (sub (via lV)<|sub (my ρ) T)=sub (via lV) (sub (my ρ) T):=by
  rw[e4];refine gH λn hn=>?_;have⟨v,o1,o2⟩:=(bO _).1 hn;have⟨k,hk,gi⟩:=hv v<|aC.2 o1;simp only[my,hk,Option.getD_some,aw]at o2;subst o2;exact h.FK.1 _ gi
 obtain⟨z,_⟩|⟨_,T',B',Xa,rfl,rfl,rfl⟩:=q
 .rw[e5,e4,sJ]at z;omega
 .refine⟨rfl,T',rfl,?_⟩;rw[Xa,if_pos<|by simp[sg],e5,e4];exact vV dec hR
end
end In
end
section
open Go.ChangeMaps Un
def OS n:=∀w:World,Cq 150 #[Nv n] w λe w'=>e=.returned (.string<|bs<|dec n)/\w'=w
def SC{p:Prop}(h:p:=by
 obtain rfl|rfl|rfl|rfl|rfl|rfl|rfl|rfl|rfl|rfl|rfl|rfl|rfl|rfl|rfl|rfl|rfl|rfl|rfl|rfl|rfl|rfl|rfl|rfl|rfl|rfl|rfl|rfl|rfl|rfl|rfl|rfl|rfl|rfl|rfl|rfl|rfl|rfl|rfl|rfl|rfl|rfl|rfl|rfl|rfl|rfl|rfl|rfl:=this;all_goals
  intro w;go_enter func150,ntmps150
  go_wp2
  go_ret;refine⟨?_,rfl⟩;first
  |(rw[dec,if_pos aB];kernel_rfl)
  |(rw[dec,if_neg aB,dec,if_pos aB];kernel_rfl)):p:=h
def aaT n(h0:0<=n)(h:n<48):OS n:=by
 have:n=0\/n=1\/n=2\/n=3\/n=4\/n=5\/n=6\/n=7\/n=8\/n=9\/n=10\/n=11\/n=12\/n=13\/n=14\/n=15\/n=16\/n=17\/n=18\/n=19\/n=20\/n=21\/n=22\/n=23\/n=24\/n=25\/n=26\/n=27\/n=28\/n=29\/n=30\/n=31\/n=32\/n=33\/n=34\/n=35\/n=36\/n=37\/n=38\/n=39\/n=40\/n=41\/n=42\/n=43\/n=44\/n=45\/n=46\/n=47:=ae;exact SC
def aaU n(h0:48<=n)(h:n<96):OS n:=by
 have:n=48\/n=49\/n=50\/n=51\/n=52\/n=53\/n=54\/n=55\/n=56\/n=57\/n=58\/n=59\/n=60\/n=61\/n=62\/n=63\/n=64\/n=65\/n=66\/n=67\/n=68\/n=69\/n=70\/n=71\/n=72\/n=73\/n=74\/n=75\/n=76\/n=77\/n=78\/n=79\/n=80\/n=81\/n=82\/n=83\/n=84\/n=85\/n=86\/n=87\/n=88\/n=89\/n=90\/n=91\/n=92\/n=93\/n=94\/n=95:=ae;exact SC
def VE n(h:n<96):OS n:=by
 by_cases q:n<48
 .exact aaT n (Nat.zero_le _) q
 .exact aaU n ae h
def aaK n(h:n<96):Cq 50 #[Nv n] w λe w'=>e=.returned (.string<|bs<|dec n)/\w'=w:=by
 have HC:=VE n h w;have h0:(0:Int)<=(n:Int):=ae;have h1:(n:Int)<100:=ae;go_enter func50,ntmps50;go_wp2_with(first|(go_at_call 150;refine HC.mono ?_;rintro e w'⟨rfl,rfl⟩)|(go_at_call 73;go_in)|(go_at_call 122;go_in));go_ret;exact⟨rfl,rfl⟩
end
section
open Un
def aaL l n:(Un.seen l n).length<=l.length+1:=by rw[Un.seen];split<;>simp
mutual
def tQ:∀(t:Ty)(l:List Nat),(vars l t).length<=l.length+size t
 |.var n,l=>by have:=aaL l n;simp[vars,size];omega|.aM c L,l=>by have:=DE L l;simp[vars,size];omega
def DE:∀(L:List Ty)(l:List Nat),(bh l L).length<=l.length+ak L
 |[],l=>by simp[bh,ak]|t::L,l=>by
   have h1:=tQ t l;have h2:=DE L<|vars l t;simp[bh,ak];omega
end
mutual
def Wf:Ty->Prop
 |.var _=>True|.aM c l=>YO c l.length/\Gf l
def Gf:List Ty->Prop
 |[]=>True|t::l=>Wf t/\Gf l
end
def Gg:∀(l:List Ty),Gf l↔∀t,t∈l->Wf t
 |[]=>by simp[Gf]|a::l=>by simp[Gf,Gg l]
mutual
def Wf.Cj{R:Nat->Ty}:∀t,Wf t->(∀v,aw v t->Wf (R v))->Wf (j6 R t)
 |.var n,_,hR=>by simpa[j6]using hR n (by simp[aw])|.aM c l,h,hR=>by simp only[j6,Wf,eB];exact⟨h.1,Gf.Cj l h.2<|λv hv=>hR v<|by simpa[aw]using hv⟩
def Gf.Cj{R:Nat->Ty}:∀l,Gf l->(∀v,bW v l->Wf (R v))->Gf (aT R l)
 |[],_,_=>by simp[aT,Gf]|t::l,h,hR=>⟨Wf.Cj t h.1<|λv hv=>hR v<|ja hv,Gf.Cj l h.2<|λv hv=>hR v<|jc hv⟩
end
def R9 p s:(par p s).length<=s.length+2:=by rw[par];split<;>simp
def ahd n:∀L:List Nat,L.idxOf n<=L.length:=λL=>List.idxOf_le_length
mutual
def u7{L:List Nat}(hL:L.length<=1000):∀t,Wf t->∀k,(wr dec L t k).length+1000<=3000*size t
 |.var n,_,k=>by
  have h1:=yz<|L.idxOf n;have h2:=ahd n L;simp[wr,size];omega
 |.aM c l,h,k=>by
  obtain⟨⟨h1,h2⟩,h3⟩:=h;have hfl:=R_ hL l h3;have hc:c.toList.length=c.size:=by rw[qe];exact Array.length_toList
  simp only[wr,bD];split
  .rename_i e
   match l,h2.1<|ja e,h3 with
   |[u,v],_,h3=>
    have a:=u7 hL u h3.1 1;have b:=u7 hL v h3.2.1 0;have:=R9 (decide (0<k))<|nth (Rc dec L [u,v]) 0 1++([32,45,62,32]++nth (Rc dec L [u,v]) 1 0);simp[Rc,nth,size,ak]at this⊢;omega
  .split
   .rename_i e
    match l,h2.1<|jc e,h3 with
    |[u,v],_,h3=>
     have a:=u7 hL u h3.1 0;have b:=u7 hL v h3.2.1 0;simp[Rc,nth,size,ak];omega
   .have:=R9 (decide (1<k)&& !(Rc dec L l).isEmpty) (c.toList++(Rc dec L l).flatMap λp=>32::p 2);simp only[lM]at this;simp only[size];omega
def R_{L:List Nat}(hL:L.length<=1000):∀l,Gf l->((Rc dec L l).flatMap λp=>32::p 2).length<=3000*ak l
 |[],_=>by simp[Rc,ak]|t::l,h=>by
   have a:=u7 hL t h.1 2;have b:=R_ hL l h.2;simp[Rc,ak]at b⊢;omega
end
def La{l}{M}(h:vars l t<+:M):wr dec M t=wr dec (vars l t) t:=
 Yi dec h t λn hn=>(bP t l n).2<|jc hn
namespace In
open Classical in
mutual
noncomputable def trim:Ty->Ty
 |.var n=>.var n|.aM c l=>if YO c l.length then .aM c (DF l)else .var 0
noncomputable def DF:List Ty->List Ty
 |[]=>[]|t::l=>trim t::DF l
end
def DG(σ:Nat->Ty):∀l,(aT σ l).length=l.length
 |[]=>rfl|t::l=>by simp[aT,DG σ l]
mutual
def AF{θ:Nat->Ty}:∀t,Wf t->trim (sub θ t)=sub (λv=>trim<|θ v) t
 |.var n,_=>rfl|.aM c l,h=>by
  simp only[sub,trim];rw[if_pos (by rw[DG];exact h.1),DH l h.2]
def DH{θ:Nat->Ty}:∀l,Gf l->DF (aT θ l)=aT (λv=>trim<|θ v) l
 |[],_=>rfl|t::l,h=>by simp only[aT,DF];rw[AF t h.1,DH l h.2]
end
mutual
def Sa{σ:Nat->Ty}:∀t,sub σ t=trim t->Wf t
 |.var n,_=>trivial|.aM c l,h=>by
  simp only[sub,trim]at h;by_cases q:YO c l.length
  .rw[if_pos q]at h;injection h with _ h;exact⟨q,Lb l h⟩
  .rw[if_neg q]at h;cases h
def Lb{σ:Nat->Ty}:∀l,aT σ l=DF l->Gf l
 |[],_=>trivial|t::l,h=>by
  simp only[aT,DF]at h;injection h with h1 h2;exact⟨Sa t h1,Lb l h2⟩
end
def xQ.wf(h:xQ θ a b)(ha:Wf a)(hb:Wf b)v:Wf (θ v):=by
 refine Sa _<|h.gen (λv=>trim<|θ v) ?_ v;rw[<-AF a ha,<-AF b hb,h.one]
def kH n:Wf (.var n):=trivial
theorem nB(h:Wf t)(k:∀n,Wf<|σ n):Wf (sub σ t):=Wf.Cj t h λn _=>k n
def FtF(z:Ft):Prop:=z.f.kind=7\/z.f.kind=6/\(Wf z.l/\size z.l<=48)/\Wf z.r/\size z.r<=48
def FtF.six{z:Ft}(h:FtF z)(k:z.f.kind=6):(Wf z.l/\size z.l<=48)/\Wf z.r/\size z.r<=48:=by
 obtain h|h:=h
 .omega
 .exact h.2
def KF(s:St):=∀n,Wf<|s.k n
def EF(Γ:Env):=∀y c,Γ y=some c->Wf c.of
def MF(mk:Mks):=∀x tk m,mk x=some (tk,m)->Gf tk/\Wf m
def Hf{α:Type}(m:MM α)s(Q:α->Prop):=∀o,m s o->match o with
 |.ok (a,s')=>Q a/\KF s'|.error z=>FtF z
section
variable {s:St}
def Hf.ret{a}{Q:α->Prop}(h:Q a)(k:KF s):Hf (cZ a) s Q:=by grind[KF,Hf,cZ]
def Hf.and{m}{g}{Q:α->Prop}{R:β->Prop}(h:Hf m s Q)(k:∀a s',Q a->KF s'->Hf (g a) s' R):Hf (andM m g) s R:=by grind[Hf,KF,andM]
def Hf.no{Q:α->Prop}:Hf noM s Q:=λ_ q=>q.elim
def Hf.ite{c:Prop}[Decidable c]{m m'}{Q:α->Prop}(h:c->Hf m s Q)(k:¬c->Hf m' s Q):Hf (if c then m else m') s Q:=xY
def yo f t:FtF (qN f t):=.inl rfl
def u9(k:KF s):Hf jZ s λ_=>True:=by simp_all[KF,Hf,jZ]
def qY(k:KF s)(ha:Wf a)(hb:Wf b)f t:Hf (ur a b f t) s λ_=>True:=λo q=>by
 have h1:=nB ha k;have h2:=nB hb k;obtain⟨_,rfl⟩|⟨z1,z2,⟨θ,hm,rfl⟩|⟨_,rfl⟩⟩:=q
 .exact yo f t
 .exact⟨trivial,λn=>nB (k n)<|hm.wf h1 h2⟩
 .exact .inr ⟨rfl,⟨h1,z1⟩,h2,z2⟩
def Sb(k:KF s)l ρ:Hf (sC l ρ) s λ_=>True:=by simp_all[KF,Hf,sC]
def aaM ρ(h:Wf t):Wf (sub (via ρ) t):=by grind[Wf,sub,via,nB]
def Gh(k:KF s)(h:Wf t)ρ:Hf (qM t ρ) s λq=>Wf q.1:=(Sb k _ _).and λdS _ _ k1=>.ret (aaM dS h) k1
def ahe(k:KF s){Γ:Env}(cq:EF Γ)x f t:Hf (rA Γ x f t) s Wf:=by
 rw[rA]
 cases hx:Γ x with
 |none=>exact .no|some c=>
  rintro o(⟨_,rfl⟩|⟨_,ρ,s',hd,rfl⟩)
  .exact yo f t
  .exact⟨aaM ρ<|nB (cq x c hx) k,(Sb k _ _ _ hd).2⟩
def ahf{tk}{m}(h:Gf tk)(k:Wf m):Wf (arr tk m):=by
 induction tk with
 |nil=>exact k|cons t tk ih=>exact⟨⟨aB,λ_=>rfl,.inl rfl⟩,h.1,ih h.2,trivial⟩
def AG:Wf i_:=⟨⟨aB,λe=>(by obtain e|e:=e<;>exact absurd e aB),.inr<|.inr ⟨_,_,toList_mk _,aB,aB⟩⟩,trivial⟩
def yA:Wf oB:=⟨⟨aB,λe=>(by obtain e|e:=e<;>exact absurd e aB),.inr<|.inr ⟨_,_,toList_mk _,aB,aB⟩⟩,trivial⟩
def Gi:Wf nX:=⟨⟨aB,λe=>(by obtain e|e:=e<;>exact absurd e aB),.inr<|.inr ⟨_,_,toList_mk _,aB,aB⟩⟩,trivial⟩
def afr(ha:Wf a)(hb:Wf b):Wf (lY a b):=⟨⟨aB,λ_=>rfl,.inl rfl⟩,ha,hb,trivial⟩
def afs(ha:Wf a)(hb:Wf b):Wf (tPr a b):=⟨⟨aB,λ_=>rfl,.inr<|.inl rfl⟩,ha,hb,trivial⟩
end
def EF.set{Γ:Env}(h:EF Γ)x{c}(hc:Wf c.of):EF (cz Γ x c):=λy d q=>by
 rw[cz]at q;split at q
 .grind
 .exact h y d q
theorem EF.over{g Γ}(hg:EF g)(h:EF Γ):EF (over g Γ):=by grind[EF,over]
def PF(p:PM):=∀g s,KF s->EF g->Hf (p g) s λq=>Wf q.1/\EF q.2
def XF(p:EM):=∀Γ s,KF s->EF Γ->Hf (p Γ) s Wf
def ane{p:Prop}(h:p:=by
 rw[jo,jv ae];intro _ _ _ _;exact .no):p:=h
def aaN{ps}(h:∀p∈ps,PF p)i:PF (di ps i):=by
 rw[di];by_cases hi:i<ps.length
 .exact P0
 .exact ane
def OO{ps}(h:∀p∈ps,XF p)i:XF (di ps i):=by
 rw[di];by_cases hi:i<ps.length
 .exact P0
 .exact ane
def Sd:∀(tk:List Ty)(L:List Nd)(ps:List PM),Gf tk->(∀p∈ps,PF p)->∀(g:Env)(ρ:Rn)(s:St),KF s->EF g->Hf (Eh tk L ps g ρ) s λq=>EF q.1
 |u::tk,x::L,p::ps,hw,hp,g,ρ,s,k,hg=>by
  rw[Eh];refine(hp p ag g s k hg).and λq s1⟨t1,g1⟩k1=>?_;refine(Gh k1 hw.1 ρ).and λi s2 t2 k2=>?_;refine(qY k2 t1 t2 _ _).and λ_ s3 _ k3=>?_;exact Sd tk L ps hw.2 (λp h=>hp p<|by simp[h]) q.2 i.2 s3 k3 g1
 |[],_,_,_,_,g,ρ,s,k,hg=>.ret hg k|_::_,[],_,_,_,g,ρ,s,k,hg=>.ret hg k|_::_,_::_,[],_,_,g,ρ,s,k,hg=>.ret hg k
def ahg{mk:Mks}(hm:MF mk)k x L ps(hp:∀p∈ps,PF p):PF (sw mk k x L ps):=by
 intro g s h hg;rw[sw];split
 .exact(u9 h).and λv s1 _ k1=>.ret ⟨trivial,hg⟩ k1
 split
 .exact(u9 h).and λv s1 _ k1=>.ret ⟨trivial,hg.set _ trivial⟩ k1
 split
 .exact .ret ⟨AG,hg⟩ h
 split
 .exact .ret ⟨yA,hg⟩ h
 split
 .exact .ret ⟨Gi,hg⟩ h
 split
 .refine(aaN hp 0 g s h hg).and λa s1⟨t1,g1⟩k1=>?_;refine(aaN hp 1 _ s1 k1 g1).and λb s2⟨t2,g2⟩k2=>?_;exact .ret ⟨afs t1 t2,g2⟩ k2
 cases e:mk x with
 |none=>exact .no|some p=>
  obtain⟨tk,m⟩:=p;have⟨w1,w2⟩:=hm x tk m e;refine(Sd tk L ps w1 hp g Cr s h hg).and λq s1 g1 k1=>?_;refine(Gh k1 w2 q.2).and λi s2 t2 k2=>?_;exact .ret ⟨t2,g1⟩ k2
mutual
def aaO{mk:Mks}(hm:MF mk):∀nd,PF<|dv mk nd
 |.mk k s n L f t a=>ahg hm k s L _<|Se hm L
def Se{mk:Mks}(hm:MF mk):∀L,∀p∈mh mk L,PF p
 |[],p,h=>by simp[mh]at h|x::l,p,h=>by
  simp only[mh,jp]at h;obtain rfl|h:=h
  .exact aaO hm x
  .exact Se hm l p h
end
def Sf{mk:Mks}(hm:MF mk):∀(L:List Nd)(ps:List EM),(∀p∈ps,XF p)->∀(Γ:Env)(t r:Ty)(s:St),KF s->EF Γ->Wf t->Wf r->Hf (nZ mk Γ t r L ps) s λ_=>True
 |p::e::L,_::pe::ps,hp,Γ,t,r,s,h,cq,ht,hr=>by
  rw[nZ];refine(aaO hm p _ s h<|λ_ _ q=> lq).and λq s1⟨t1,g1⟩k1=>?_;refine(qY k1 ht t1 _ _).and λ_ s2 _ k2=>?_;refine(hp pe ag _ s2 k2<|g1.over cq).and λu s3 t3 k3=>?_;refine(qY k3 hr t3 _ _).and λ_ s4 _ k4=>?_;exact Sf hm L ps (λp h=>hp p<|by simp[h]) Γ t r s4 k4 cq ht hr
 |[],_,_,_,_,_,s,h,_,_,_=>.ret trivial h|[_],_,_,_,_,_,s,h,_,_,_=>.ret trivial h|_::_::_,[],_,_,_,_,s,h,_,_,_=>.ret trivial h|_::_::_,[_],_,_,_,_,s,h,_,_,_=>.ret trivial h
def zX rc x e{pe:EM}(hp:XF pe):XF (bX rc x e pe):=by
 intro Γ s h cq;rw[bX]
 cases rc with
 |false=>exact hp Γ s h cq|true=>
  refine(u9 h).and λv s1 _ k1=>?_;refine(hp _ s1 k1<|cq.set x (c:=mono<|.var v)<|kH v).and λt s2 t2 k2=>?_;exact(qY k2 (kH v) t2 _ _).and λ_ s3 _ k3=>.ret t2 k3
def aaP rc x e{pe pf:EM}(hp:XF pe)(hf:XF pf):XF (oe rc x e pe pf):=by
 intro Γ s h cq;refine(zX rc x e hp Γ s h cq).and λt s1 t1 k1=>?_;exact hf _ s1 k1<|cq.set x<|nB t1 k1
def ahh{mk:Mks}(hm:MF mk)k x L f t ps(hp:∀p∈ps,XF p)(hL:k=14->Wf (bt []<|es<|j_ L 1).1):XF (kZ mk k x L f t ps):=by
 intro Γ s h cq;have h0:=OO hp 0;have h1:=OO hp 1;have h2:=OO hp 2;rw[kZ];refine .ite (λ_=>?_) λ_=>?_
 .exact ahe h cq _ _ _
 refine .ite (λ_=>?_) λ_=>?_
 .rw[upM]
  cases e:mk x with
  |none=>exact .no|some p=>
   obtain⟨tk,m⟩:=p;have⟨w1,w2⟩:=hm x tk m e;exact(Gh h (ahf w1 w2) Cr).and λq s1 t1 k1=>.ret t1 k1
 refine .ite (λ_=>?_) λ_=>?_
 .exact .ret AG h
 refine .ite (λ_=>?_) λ_=>?_
 .exact .ret yA h
 refine .ite (λ_=>?_) λ_=>?_
 .exact .ret Gi h
 refine .ite (λ_=>?_) λ_=>?_
 .refine(h0 Γ s h cq).and λa s1 t1 k1=>?_;exact(h1 Γ s1 k1 cq).and λb s2 t2 k2=>.ret (afs t1 t2) k2
 refine .ite (λe=>?_) λ_=>?_
 .refine .ite (λ_=>?_) λ_=>.no;refine(h0 Γ s h cq).and λa s1 t1 k1=>?_;exact(qY k1 t1 (hL e) _ _).and λ_ s2 _ k2=>.ret (hL e) k2
 refine .ite (λ_=>?_) λ_=>?_
 .refine(h0 Γ s h cq).and λa s1 t1 k1=>?_;refine(qY k1 t1 AG _ _).and λ_ s2 _ k2=>?_;refine(h1 Γ s2 k2 cq).and λb s3 t3 k3=>?_;refine(qY k3 t3 AG _ _).and λ_ s4 _ k4=>.ret ?_ k4;split
  .exact yA
  .exact AG
 refine .ite (λ_=>?_) λ_=>?_
 .refine(h0 Γ s h cq).and λa s1 t1 k1=>?_;refine(h1 Γ s1 k1 cq).and λb s2 t2 k2=>?_;refine(u9 k2).and λv s3 _ k3=>?_;exact(qY k3 t1 (afr t2<|kH v) _ _).and λ_ s4 _ k4=>.ret (kH v) k4
 refine .ite (λ_=>?_) λ_=>?_
 .refine(u9 h).and λv s1 _ k1=>?_;exact(h0 _ s1 k1<|cq.set _ (c:=mono<|.var v)<|kH v).and λa s2 t2 k2=>.ret (afr (kH v) t2) k2
 refine .ite (λ_=>?_) λ_=>?_
 .exact aaP _ _ _ h0 h1 Γ s h cq
 refine .ite (λ_=>?_) λ_=>?_
 .exact aaP _ _ _ h0 h1 Γ s h cq
 refine .ite (λ_=>?_) λ_=>?_
 .refine(h0 Γ s h cq).and λa s1 t1 k1=>?_;refine(qY k1 t1 yA _ _).and λ_ s2 _ k2=>?_;refine(h1 Γ s2 k2 cq).and λb s3 t3 k3=>?_;refine(h2 Γ s3 k3 cq).and λc s4 t4 k4=>?_;exact(qY k4 t3 t4 _ _).and λ_ s5 _ k5=>.ret t3 k5
 refine .ite (λ_=>?_) λ_=>?_
 .refine(h0 Γ s h cq).and λa s1 t1 k1=>?_;refine(u9 k1).and λv s2 _ k2=>?_;exact(Sf hm L.tail ps.tail (λp h=>hp p<|List.mem_of_mem_tail h) Γ a _ s2 k2 cq t1<|kH v).and λ_ s3 _ k3=>.ret (kH v) k3
 .exact .no
mutual
def NW:Nd->Prop
 |.mk k _ _ L _ _ _=>(k=14->Wf (bt []<|es<|j_ L 1).1)/\NWL L
def NWL:List Nd->Prop
 |[]=>True|x::l=>NW x/\NWL l
end
mutual
def Y_{mk:Mks}(hm:MF mk):∀nd,NW nd->XF (inf mk nd)
 |.mk k s n L f t a,h=>ahh hm k s L f t _ (aaQ hm L h.2) h.1
def aaQ{mk:Mks}(hm:MF mk):∀L,NWL L->∀p∈rh mk L,XF p
 |[],_,p,h=>by simp[rh]at h|x::l,hn,p,h=>by
  simp only[rh,jp]at h;obtain rfl|h:=h
  .exact Y_ hm x hn.1
  .exact aaQ hm l hn.2 p h
end
end In
mutual
def nm(M:List BA):Nd->Ty
 |.mk k s _ L _ _ _=>if k=16 then .var (ix s M+1)else .aM (iO k s) (nmL M L)
def nmL(M:List BA):List Nd->List Ty
 |[]=>[]|x::l=>nm M x::nmL M l
end
def tr(M1 M2:List BA)i:=ix (M1.getD (i-1) ⟨#[]⟩) M2+1
def vn i:=bs (39::118::dec i)
def lvl tight:=if tight=0 then 2 else if tight=1 then 1 else 0
end
end Go.Proofs.YtnldmeakhapdhaaGreatDoor

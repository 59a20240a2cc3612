import Derived.Deep.CutRange
import Derived.Deep.RegionLaw
import Derived.LaidMore
import Derived.Laws.EntriesVeiled
import Derived.Test.YtfnkchdeheeiiaaGreatDoorTie
import Derived.Test.YtfnkchdeheeiiaaGreatDoorTLd0
import Derived.Test.YtfnkchdeheeiiaaGreatDoorTKit
set_option linter.all false
set_option maxRecDepth 100000
set_option maxHeartbeats 8000000
namespace Go.Proofs.YtfnkchdeheeiiaaGreatDoor
open Pu renaming Tok->ja,aV->jc,bH->jd,dL->jf,Bl->jh,cI->ji,fk->jj,at_->jk,eP->jl,dI->jm,gG->jo
open _root_.List renaming getD_eq_getElem?_getD->jp,mem_cons->jq,getElem?_eq_getElem->jt,getElem?_eq_none->ju,mem_cons_of_mem->jv,getElem_mem->jx,cons_append->jy,range->jz
open Or renaming inl->j3,inr->j5
open _root_.Nat renaming le_trans->j6,lt_of_lt_of_le->j7,strongRecOn->j8,zero_add->j9,zero_le->qd
open Un renaming sub->qe,seen->qf
open Go.ByteArray renaming toList_eq->qg
open Go.Proofs.Tryz renaming prog->qh,underlying9->qi
open Go Go.RowKit Proofs.Tryz
variable {C:Array Value} {c s:BA} {ns:List BA} {T:List ja} {m:List UInt8} {e expr part ur sm small Gf:M Nd} {A N base cap g i k k' kb len n nb pb rb v xb:Nat} {r:Nat->Int} {ρ my:Nat->Nat} {K:Nat->Option Un.Ty} {D P Q S Λ Λ':Nat->Prop} {R θ σ:Nat->Un.Ty} {p:Option Addr} {pl:Prop} {α β:Type} {x:UInt8} {a b t:Un.Ty} {hv iv nv:Value} {w w':World}
section
open Un
def dg n:=UInt8.ofNat<|48+n%10
def dec(n:Nat):List UInt8:=if n<10 then[dg n]else dec (n/10)++[dg n]
termination_by n
decreasing_by omega
def bs(l:List UInt8):BA:=⟨l.toArray⟩
def dM l:(bs l).size=l.length:=by simp[bs,ByteArray.size]
def lp a b:bs a++bs b=bs (a++b):=by
 apply ByteArray.ext;simp[bs]
def xG n:(dec n).length<=n+1:=by
 induction n using j8 with
 |_ n ih=>
  rw[dec];split
  .simp
  .grind
structure P10(w:World):Prop where
 c:∀j,j<10->w.cell? ⟨1,j,none⟩=some (.int .u64 ((10^j:Nat):Int))
 z:1<w.heap.size
end
section
open Go.ChangeShapes Go.WideShapes Go.ChangeAt Go.WideMaps Go.WideElems
def own:ownKnob Tryz.prog.godebug=none:=qkr
def laidOut:laidOutB qh=true:=qkr
def gWords:Tryz.prog.globalNamed "assay/reader.words" =some 2:=qkr
def gSigns:Tryz.prog.globalNamed "assay/reader.signs" =some 0:=qkr
def ahn:(Tryz.prog.globals[2]?).map (·.type)=some 403:=qkr
def aho:(Tryz.prog.globals[0]?).map (·.type)=some 403:=qkr
def RI:List (String×DataW Unit):=Rows.agreeRow.laid
def aaw os args:laidMetH qh RI ((World.doorLaid qh 72 os).forCall (λ_ _=>0) ⟨#[],args,[]⟩).memory:=
 laidMetH_of_parts3 (fuel:=8) (laidMet_of_run' 8 qkr qkr) qkr qkr
def adH{W}(h:laidMetH qh RI W):Laid W:=by
 rw[MakeChecks.laidMetH_plain _ _ _ qkr]at h;obtain⟨ps,⟨g0,t0,cs0,f0,p0,q0,hg0,ht0,hv0,hd0,⟨g1,t1,cs1,f1,p1,q1,hg1,ht1,Mh,Mo,⟨g2,t2,cs2,f2,p2,q2,Tg,ht2,Th,hd2,⟨g3,t3,cs3,f3,p3,q3,hg3,ht3,hv3,hd3,⟨g4,t4,cs4,f4,p4,q4,hg4,ht4,hv4,hd4,⟨g5,t5,cs5,f5,p5,q5,hg5,ht5,hv5,hd5,⟨g6,t6,cs6,f6,p6,q6,Kg,ht6,hv6,hd6,_,_⟩,_⟩,_⟩,_⟩,_⟩,_⟩,_⟩,_,_⟩:=h;obtain rfl:=Option.some.inj<|gWords.symm.trans hg5;obtain rfl:=Option.some.inj<|gSigns.symm.trans Kg;obtain rfl:=Option.some.inj<|ahn.symm.trans ht5;obtain rfl:=Option.some.inj<|aho.symm.trans ht6;have hw:=zH Pu.words Tryz.underlying403 qi strCells hd5;have hs:=zH signs Tryz.underlying403 qi strCells hd6;have c1:∀j,j<13->W.cell? ⟨2,j,none⟩=some (Sv<|Pu.jP j):=λj hj=>by
  rw[World.var?_cell hg5 hv5 j];have:=hw j hj;rw[Array.getElem?_toList]at this;exact this
 have c0:∀j,j<13->W.cell? ⟨0,j,none⟩=some (Sv<|cJ j):=λj hj=>by
  rw[World.var?_cell Kg hv6 j];have:=hs j hj;rw[Array.getElem?_toList]at this;exact this
 exact⟨c1,c0,World.block_lt_of_cell? _ _<|c1 0 ae⟩
end
section
open Un
structure TV where
 n:Int
 s:BA
 la:Option Addr
 ll:Nat
 lc:Nat
def TV.l(x:TV):List Value:=[Iv x.n,.string x.s,.slice x.la x.ll x.lc]
def at3(w:World)g i(x:TV):=∀j,j<3->w.cell? ⟨g,i*3+j,none⟩=(x.l)[j]?
def Gh(s:BA):=∃x r,s.toList=x::r/\jh x.toNat=true/\(∀y∈r,jc y.toNat=true)
def VZ c n:=c.size<=1000/\(c=nB\/c=lj->n=2)/\(c=nB\/c=lj\/Gh c)
def far(rk:Nat->Nat):Ty->Nat
 |.var n=>rk n+1|.aJ _ _=>0
def _root_.Go.RowKit.Below.drewN{B}{a}(h:Below B a w)n:Below B a (w.drewN n):=⟨h.os,h.tape,h.output,h.size,h.block⟩
def Bx.drewN{w}{b}{C}(h:Bx w b C)n:Bx (w.drewN n) b C:=h.below<|(Below.refl _ _).drewN n
def aax c n(h0: -9223372036854775808<=c)(h1:c<=9223372036854775807)(hn:0<n)(hn2:n<=1000):Cq 21 #[Iv c,Iv n] w λe w'=>∃r:Int,e=.returned (Iv r)/\0<=r/\r<n/\w'=w:=by
 by_cases hc:c<0
 .go_enter func21,ntmps21
  go_wp2
  go_ret;refine⟨_,rfl,?_,?_,rfl⟩
  .show 0<=-((c+1).tmod n);rw[<-Int.neg_tmod];exact Int.tmod_nonneg _ ae
  .show-((c+1).tmod n)<n;rw[<-Int.neg_tmod];exact Int.tmod_lt_of_pos _ hn
 .have hc':decide (c<0)=false:=bB;go_enter func21,ntmps21
  go_wp2
  go_ret;exact⟨_,rfl,Int.emod_nonneg _ ae,Int.emod_lt_of_pos _ hn,rfl⟩
structure Src w xb p len cap(r:Nat->Int)(A:Nat):Prop where
 b:Bx w xb #[.slice p len cap,.int .i64 (A:Int)]
 a:A<=len
 l:(len:Int)<=9223372036854775807
 c:∀i,i<len->∃g o,p=some ⟨g,o,none⟩/\g<w.heap.size/\g≠xb/\w.cell? ⟨g,o+i,none⟩=some (.int .i64<|r i)
 r:∀i,i<len->-9223372036854775808<=r i/\r i<=9223372036854775807
def Src.ke{w}{A':Nat}(h:Src w xb p len cap r A)(hk:Ke xb w w')(hb:Bx w' xb #[.slice p len cap,.int .i64 (A':Int)])(ha:A'<=len):Src w' xb p len cap r A':=by
 refine⟨hb,ha,h.l,λi hi=>?_,h.r⟩;have⟨g,o,e,hg,cO,hc⟩:=h.c i hi;exact⟨g,o,e,j7 hg hk.size,cO,(World.cell?_of_block (a:=⟨g,o+i,none⟩) (w:=w)<|hk.block g hg cO).trans hc⟩
def Src.af{w}(h:Src w xb p len cap r A)(hb:Bq w w'):Src w' xb p len cap r A:=h.ke (Ke.of hb) (h.b.below hb) h.a
def yi xb p len cap r w w':=∃A,Src w' xb p len cap r A/\Ke xb w w'
def yj(h:Src w xb p len cap r A)n(hn:0<n)(hn2:n<=1000):Cq 22 #[Pv xb,Iv n] w λe w'=>∃q:Int,e=.returned (Iv q)/\0<=q/\q<n/\yi xb p len cap r w w':=by
 have⟨c0,f0,z0⟩:=h.b;have hl:=h.l;have ha:=h.a;by_cases hA:A<len
 .have hA':decide ((len:Int)<=(A:Int))=false:=bB;obtain⟨g,o,rfl,hg,cO,hc⟩:=h.c A hA;have⟨r0,r1⟩:=h.r A hA;have hA2:(A:Int)<(len:Int):=ae;go_enter func22,ntmps22
  go_wp2
  go_quiet(fail)
  go_wp2
  go_quiet(fail);go_wp2_with fail;refine(aax (r A) n r0 r1 hn hn2).mono ?_;rintro e w'⟨q,rfl,q0,q1,rfl⟩
  go_wp2
  go_ret;have e1:((A+1:Nat):Int)=(A:Int)+1:=ae;have hk:∀m,Ke xb w<|(w.drewN m).setCell ⟨xb,1,none⟩<|Iv<|(A:Int)+1:=λm=>(Ke.of<|(Below.refl _ _).drewN m).set 1 _;exact⟨q,rfl,q0,q1,A+1,h.ke (hk _) (by rw[e1];exact(h.b.drewN _).qT 1 _ _ rfl ag) ae,hk _⟩
 .have hA':decide ((len:Int)<=(A:Int))=true:=bB;go_enter func22,ntmps22
  go_wp2
  go_quiet(fail)
  go_wp2
  go_ret;have hk:∀m,Ke xb w<|w.drewN m:=λm=>Ke.of<|(Below.refl _ _).drewN m;exact⟨0,rfl,ae,hn,A,h.ke (hk _) (h.b.drewN _) h.a,hk _⟩
def Raw(w:World)(p:Option Addr)len(r:Nat->Int):=
 ∀i,i<len->(∃g o,p=some ⟨g,o,none⟩/\g<w.heap.size/\w.cell? ⟨g,o+i,none⟩=some (Iv<|r i))/\-9223372036854775808<=r i/\r i<=9223372036854775807
def Txt(w:World)g n(f:Nat->BA):=∀j,j<n->w.cell? ⟨g,j,none⟩=some (.string<|f j)
def Om(h:Src w xb p len cap r A){lc}{f}(ht:Txt w g n f)(hg:g<w.heap.size)(V8:g≠xb)(hn:0<n)(hn2:n<=1000):
 Cq 30 #[Pv xb,.slice (some ⟨g,0,none⟩) n lc] w λe w'=>∃j,j<n/\e=.returned (.string<|f j)/\yi xb p len cap r w w':=by
 have HC:=yj h (n:Int) ae ae;go_enter func30,ntmps30;go_wp2_with fail;refine HC.mono ?_;rintro e w'⟨q,rfl,q0,q1,A',HS,HK⟩;obtain⟨j,rfl⟩:∃j:Nat,q=j:=⟨q.toNat,ae⟩;have hj:j<n:=ae;have c1:=(World.cell?_of_block (a:=⟨g,j,none⟩) (w:=w)<|HK.block g hg V8).trans<|ht j hj
 go_wp2
 go_ret;exact⟨j,hj,rfl,A',HS,HK⟩
end
section
open Go.ChangeShapes Go.WideShapes Go.ChangeAt Go.WideMaps Go.WideElems
def AA:Tryz.prog.underlying 22=some (.slice 3):=qkr
def aay{H:Type}{enc}{fuel}{x:DataW H×List MemPlace}(h:DataW.trod enc qh w base (λ_=>true) true fuel 22 [.slice p len cap]=some x):(len:Int)<=9223372036854775807/\∃r,Raw w p len r:=by
 obtain⟨e,_⟩|⟨a,amu,afE,zs,e,_,hl,hm,hz,_,bM,hwz⟩:=open_ints AA Tryz.underlying3 X8 h
 .simp at e;obtain⟨rfl,rfl,rfl⟩:=e;exact⟨ag,λ_=>0,λi hi=>ae⟩
 .simp at e;obtain⟨rfl,rfl,rfl⟩:=e;simp only[if_true]at hz;refine⟨by simp only[maxLen]at hm;omega,λi=>zs.getD i 0,λi hi=>?_⟩;have WW:i<zs.length:=ae;obtain⟨g,o,sp⟩:=a;have Ww:sp=none:=by simpa[Addr.add]using World.cell?_spot (bM 0 ae)
  subst Ww;have hc:=bM i WW;rw[add_plain]at hc;have hw:=hwz (zs.getD i 0) (by rw[jp,jt WW];exact jx _);have e1:IntKind.i64.min= -9223372036854775808:=rfl;have e2:IntKind.i64.max=9223372036854775807:=rfl;simp only[Lit.wf,Bool.and_eq_true,decide_eq_true_eq,e1,e2]at hw;exact⟨⟨g,o,rfl,World.block_lt_of_cell? _ _ hc,hc⟩,hw.1,hw.2⟩
end
section
open Un
def aU:List (Nd×Nd)->List Nd
 |[]=>[]|p::l=>p.1::p.2::aU l
def lv:Nd->Nat
 |.mk k s _ L _ _ _=>if k=1\/k=3\/k=4\/k=5\/k=6\/k=14\/k=15\/k=16 then 5 else if k=2 then(if L=[]then 5 else 4)else if k=8 then 4 else if k=17 then 1 else if k=7 then(if s.toList=[42]then 3 else if s.toList=[60]then 1 else 2)else 0
end
section
variable {σ:St}
def bz s:∀k a k',bt T s k=.ok (a,k')->k'=k+1:=by
 intro k a k' h;rw[bt]at h;split at h
 .cases h;rfl
 .cases h
def eH n:∀k a k',di T n k=.ok (a,k')->k'=k+1:=by
 intro k a k' h;rw[di]at h;split at h
 .cases h;rfl
 .cases h
def aw{m}{f:α->M β}{b:β}(h:aN m f k=.ok (b,k')):∃a k1,m k=.ok (a,k1)/\f a k1=.ok (b,k'):=by
 rw[aN]at h;split at h
 .cases h
 .grind
def rC{mk}{a}(h:oo T mk k=.ok (a,k')):k<k':=by
 have⟨_,k1,h1,h2⟩:=aw h;have:=bz _ _ _ _ h1
 cases h2
 omega
theorem cz(hp:Ea part)(ht:Ea Gf)sort:∀k a k',aI T part Gf sort k=.ok (a,k')->k<k':=by
 intro k a k' h;rw[aI]at h;split at h
 .split at h
  .rw[gX]at h;split at h
   .cases h;omega
   .have⟨a1,k1,h1,h2⟩:=aw h;have m1:=hp _ _ _ h1;rw[jQ]at h2;split at h2
    .have⟨b,k3,h3,h4⟩:=aw h2;have:=hp _ _ _ h3;have:=rC h4;omega
    .split at h2
     .have⟨b,k3,h3,h4⟩:=aw h2;have:=ht _ _ _ h3;have:=rC h4;omega
     .have:=rC h2;omega
  .cases h;omega
 .cases h
def aaf sort:∀k,(tk T k).kind=2->aI T part Gf sort k=.ok (bS<|tk T k,k+1):=by
 intro k hk;have h1:a_ (tk T k) qB=false:=by simp[a_,hk]
 have h2:aF (tk T k) sort=true:=by
  rw[aF,bu];simp[hk]
 rw[aI];rw[h1,h2];rfl
def yk{p:Prop}(h:p:=by
 split at h
 .obtain⟨y,k1,h1,h2⟩:=aw h;have:=hm _ _ _ h1;have:=ih _ _ _ _ h2;omega
 .cases h;omega):p:=h
def AB(hm:∀k a k',small k=.ok (a,k')->k<k')sort:∀f x k a k',dA T small sort f x k=.ok (a,k')->k<=k':=by
 intro f
 induction f with
 |zero=>intro x k a k' h;cases h;omega|succ f ih=>
  intro x k a k' h;unfold dA at h;exact yk
def uT(hm:∀k a k',small k=.ok (a,k')->k<k')sort:∀k a k',gN T small sort k=.ok (a,k')->k<k':=by
 intro k a k' h;rw[gN]at h;split at h
 .have⟨y,k1,h1,h2⟩:=aw h;have:=hm _ _ _ h1;have:=AB hm sort _ _ _ _ _ h2;omega
 .exact hm _ _ _ h
def nh:Ea (mQ (α:=α) T):=by
 intro k a k' h
 cases h
theorem da:∀n,Ea<|cP T n:=by
 intro n
 induction n with
 |zero=>exact nh|succ n ih=>
  intro k a k' h;rw[cP]at h;have⟨y,k1,h1,h2⟩:=aw h;have:=uT (cz ih ih 1) 1 _ _ _ h1;rw[lA]at h2;split at h2
  .have⟨z,k3,h3,h4⟩:=aw h2;have:=ih _ _ _ h3
   cases h4
   omega
  .cases h2;omega
def oT:∀n,Ea<|dY T n:=by
 intro n
 induction n with
 |zero=>exact nh|succ n ih=>
  intro k a k' h;have:=uT (cz ih nh 2) 2 k a k' h;omega
end
section
open Un
inductive Dc where
 |ty(name:ja)(vars:List ja)(Xo:List Nd)
 |lt(amv:Bool)(name:ja)(body:Nd)
def de T sm:=aN (di T 2) λt k=>dA T sm 1 T.length (.mk 2 t.text 0 [] t.al (aE T k) t.al) k
def lC T(mk:M Nd)(go:List Nd->M (List Nd))l:=λk=>if a_ (tk T k) Yc=true then go l (k+1)else .ok (l,k)
def dO(T:List ja)(mk:M Nd):Nat->List Nd->M (List Nd)
 |0,l=>λk=>.ok (l,k)|f+1,l=>aN mk λx=>lC T mk (dO T mk f)<|l++[x]
def mi(T:List ja):Nat->List ja->M (List ja)
 |0,l=>λk=>.ok (l,k)|f+1,l=>λk=>if(tk T k).kind=3 then mi T f (l++[tk T k]) (k+1)else .ok (l,k)
def C5(T:List ja)(mk:M Nd):M Dc:=aN (bt T qC) λ_=>aN (di T 2) λt=>aN (mi T T.length []) λvs=>aN (bt T Qh) λ_=>aN (dO T mk T.length []) λms=>aN (bt T zL) λ_ k=>.ok (.ty t vs ms,k)
def Ji(T:List ja)(e:M Nd):M Dc:=aN (cy T e) λb=>aN (bt T zL) λ_ k=>.ok (.lt (b.1==11) b.2.1 b.2.2,k)
def fI T n:=λk=>if a_ (tk T k) qC=true then C5 T (de T<|aI T (cP T n) (cP T n) 1) k else Ji T (bR T n) k
def cU(T:List ja)(d:M Dc):Nat->List Dc->M (List Dc)
 |0,l=>λk=>.ok (l,k)|f+1,l=>λk=>if a_ (tk T k) qC=true\/a_ (tk T k) ul=true then aN d (λx=>cU T d f<|l++[x]) k else .ok (l,k)
def Jr(T:List ja)(l:List Dc):M (List Dc):=λk=>if(tk T k).kind=7 then .ok (l,k)else .error (dc<|tk T k)
def bY(s:BA):Except Fl (List Dc):=
 if 400<s.size then .error ⟨1,0,0⟩else
 match aN (cU (jd s 0) (fI (jd s 0) (jd s 0).length) (jd s 0).length []) (Jr<|jd s 0) 0 with
 |.error f=>.error f|.ok (l,_)=>.ok l
mutual
def es:Nd->Nd
 |.mk k s n L _ _ _=>.mk k (if k=3\/k=15 then fX else s) (if k=3 then n else 0) (vX L) 0 0 0
def vX:List Nd->List Nd
 |[]=>[]|x::l=>es x::vX l
end
mutual
def nn:Nd->Nat
 |.mk _ _ _ L _ _ _=>1+b8 L
def b8:List Nd->Nat
 |[]=>0|x::l=>nn x+b8 l
end
def sT:∀l m,b8 (l++m)=b8 l+b8 m
 |[],m=>by simp[b8]|x::l,m=>by simp[b8,sT l m];omega
def uF x:1<=nn x:=by cases x;simp[nn]
def mU:∀l,l.length<=b8 l
 |[]=>by simp[b8]|x::l=>by have:=uF x;have:=mU l;simp[b8];omega
def fU s(l:List BA):=l.any λx=>decide (x=s)
def QW{l:List BA}:fU s l=true↔s∈l:=by simp[fU]
def Ee{l:List BA}:fU s l=false↔s∉l:=by grind[fU]
def tell k a b(z:Fl):=if z.kind=0\/a<z.al then⟨k,a,b⟩else z
def bm(c:Bool)k a b z:=if c then tell k a b z else z
mutual
def tU(ty:BA->Option Nat)(own:List BA):Nd->Fl->Fl
 |.mk k s _ L f _ a,z=>gI ty own L<|bm (k==2&&ty s !=some L.length) 4 a (a+s.size)<|bm (k==16&& !fU s own) 4 f (f+s.size) z
def gI(ty:BA->Option Nat)(own:List BA):List Nd->Fl->Fl
 |[],z=>z|x::l,z=>gI ty own l<|tU ty own x z
end
mutual
def nR(mk:BA->Option Nat):Nd->List BA×Fl->List BA×Fl
 |.mk k s _ L f t a,q=>if k==1 then(q.1++[s],bm (fU s q.1) 5 f t q.2)else dG mk L (q.1,bm (k==2&&mk s !=some L.length) 5 a (a+s.size) q.2)
def dG(mk:BA->Option Nat):List Nd->List BA×Fl->List BA×Fl
 |[],q=>q|x::l,q=>dG mk l<|nR mk x q
end
mutual
def dN(ty mk:BA->Option Nat):Nd->List BA->Fl->Fl
 |.mk k s _ L f t _,l,z=>
  if k==1 then bm (!fU s l) 5 f t z
  else if k==2 then bm (mk s).isNone 5 f t z
  else if k==9 then ER ty mk L (l++[s]) z
  else if k==10 then Jy ty mk L l (l++[s]) z
  else if k==11 then Jy ty mk L (l++[s]) (l++[s]) z
  else if k==13 then ND ty mk L l z
  else if k==14 then ET ty mk L l z
  else gY ty mk L l z
def ER(ty mk:BA->Option Nat):List Nd->List BA->Fl->Fl
 |[],_,z=>z|x::_,l,z=>dN ty mk x l z
def Jy(ty mk:BA->Option Nat):List Nd->List BA->List BA->Fl->Fl
 |[],_,_,z=>z|x::r,l,l',z=>ER ty mk r l'<|dN ty mk x l z
def ET(ty mk:BA->Option Nat):List Nd->List BA->Fl->Fl
 |[],_,z=>z|x::r,l,z=>(match r with|[]=>id|y::_=>tU ty [] y)<|dN ty mk x l z
def gY(ty mk:BA->Option Nat):List Nd->List BA->Fl->Fl
 |[],_,z=>z|x::r,l,z=>gY ty mk r l<|dN ty mk x l z
def ND(ty mk:BA->Option Nat):List Nd->List BA->Fl->Fl
 |[],_,z=>z|x::r,l,z=>mV ty mk r l<|dN ty mk x l z
def mV(ty mk:BA->Option Nat):List Nd->List BA->Fl->Fl
 |[],_,z=>z|p::r,l,z=>IX ty mk r l<|nR mk p ([],z)
def IX(ty mk:BA->Option Nat):List Nd->List BA->List BA×Fl->Fl
 |[],_,q=>q.2|e::r,l,q=>mV ty mk r l<|dN ty mk e (l++q.1) q.2
end
structure SE where
 ty:BA->Option Nat
 mks:BA->Option Nat
 nm:List BA
 f:Fl
abbrev V9:=(BA->Option Nat)->BA->Nat->BA->Option Nat
def fS:V9:=λt x n y=>if y=x then some n else t y
def Bz:List BA->List ja->Fl->Fl
 |_,[],z=>z|p,v::r,z=>Bz (p++[v.text]) r<|bm (fU v.text p) 4 v.al v.to z
def Ag(u:V9)(ty:BA->Option Nat)(own:List BA):List Nd->(BA->Option Nat)×Fl->(BA->Option Nat)×Fl
 |[],q=>q|.mk _ s _ L _ _ a::r,q=>Ag u ty own r (u q.1 s L.length,gI ty own L<|bm (q.1 s).isSome 4 a (a+s.size) q.2)
def V_(u:V9):Dc->SE->SE
 |.ty t vs ms,e=>⟨u e.ty t.text vs.length,(Ag u (u e.ty t.text vs.length) (vs.map (·.text)) ms (e.mks,Bz [] vs<|bm (e.ty t.text).isSome 4 t.al t.to e.f)).1,e.nm,(Ag u (u e.ty t.text vs.length) (vs.map (·.text)) ms (e.mks,Bz [] vs<|bm (e.ty t.text).isSome 4 t.al t.to e.f)).2⟩|.lt r t b,e=>⟨e.ty,e.mks,e.nm++[t.text],dN e.ty e.mks b (if r then e.nm++[t.text]else e.nm) e.f⟩
def fC(u:V9):List Dc->SE->SE
 |[],e=>e|d::r,e=>fC u r<|V_ u d e
abbrev qL:BA:=⟨#[73,110,116]⟩
abbrev jL:BA:=⟨#[66,111,111,108]⟩
abbrev iM:BA:=⟨#[85,110,105,116]⟩
def ty0:BA->Option Nat:=λx=>if x=qL\/x=jL\/x=iM then some 0 else none
def w_:SE:=⟨ty0,λ_=>none,[],dx⟩
mutual
def Ge(lo:Nat):Nd->Prop
 |.mk _ s _ L f _ a=>(lo<=f/\lo<=a)/\(f<=400/\a<=400/\s.size<=400)/\LK lo L
def LK(lo:Nat):List Nd->Prop
 |[]=>True|x::l=>Ge lo x/\LK lo l
end
def Told(z:Fl)lo:=z.kind≠0/\z.al<=lo
def UE k a b z(hk:k≠0):Told (tell k a b z) a:=by grind[Told,tell]
mutual
def Ge.mono{lo hi:Nat}(h:lo<=hi):∀{nd:Nd},Ge hi nd->Ge lo nd
 |.mk _ _ _ L _ _ _,g=>⟨⟨j6 h g.1.1,j6 h g.1.2⟩,g.2.1,LK.mono h g.2.2⟩
def LK.mono{lo hi:Nat}(h:lo<=hi):∀{L:List Nd},LK hi L->LK lo L
 |[],_=>trivial|_::_,g=>⟨Ge.mono h g.1,LK.mono h g.2⟩
end
def parts:Ty->List Ty
 |.var _=>[]|.aJ _ l=>l
def mA(v:Nat):∀(l:List Ty),bT v l↔∃t,t∈l/\aD v t
 |[]=>by simp[bT]|a::l=>by simp[bT,mA v l]
def cu{L}:bT v (aS R L)↔∃j,∃h:j<L.length,aD v<|sub R L[j]:=by
 rw[mA,ij];constructor
 .rintro⟨t,ht,ho⟩;obtain⟨u,hu,rfl⟩:=List.mem_map.1 ht;obtain⟨j,hj,rfl⟩:=List.getElem_of_mem hu;exact⟨j,hj,ho⟩
 .grind
section
variable {rk:Nat->Nat}
open Classical in
end
def rZ{e}{size}{v}{xs}(h:w.ownsRow base e size v n xs)(hb:∀g,v.ownBlock=some g->w'.heap[g]? =w.heap[g]?):w'.ownsRow base e size v n xs:=by
 obtain⟨h1,h2⟩:=h;refine⟨h1,?_⟩;obtain h2|⟨g,cap,lO,hv,hg,hh,r⟩:=h2
 .exact j3 h2
 .exact j5 ⟨g,cap,lO,hv,hg,by rw[hb g (by rw[hv];rfl)];exact hh,r⟩
structure Fr(S:Nat->Prop)(w w':World):Prop where
 os:w'.os=w.os
 tape:w'.tape=w.tape
 output:w'.output=w.output
 size:w.heap.size<=w'.heap.size
 block:∀k,k<w.heap.size->¬S k->w'.heap[k]? =w.heap[k]?
def Fr.refl S w:Fr S w w:=⟨rfl,rfl,rfl,br _,λ_ _ _=>rfl⟩
def Fr.of(h:Bq w w'):Fr S w w':=⟨h.os,h.tape,h.output,h.size,λk hk _=>h.block k hk⟩
def Fr.trans{S}{a b c}(h:Fr S a b)(k:Fr S b c):Fr S a c:=
 ⟨k.os.trans h.os,k.tape.trans h.tape,k.output.trans h.output,j6 h.size k.size,λi hi hn=>(k.block i (j7 hi h.size) hn).trans<|h.block i hi hn⟩
def Fr.low{a b c:World}(h:Fr S a b)(k:Below a.heap.size b c):Fr S a c:=
 ⟨k.os.trans h.os,k.tape.trans h.tape,k.output.trans h.output,j6 h.size k.size,λi hi hn=>(k.block i hi).trans<|h.block i hi hn⟩
def Fr.set{a:World}(h:Fr S a w){b:Nat}(hb:S b\/a.heap.size<=b)j u:Fr S a (w.setCell ⟨b,j,none⟩ u):=
 ⟨h.os,h.tape,h.output,by simpa[World.setCell]using h.size,λk hk hn=>by
  rw[Below.heap_setCell _ _ _ _ (by show k≠b;rintro rfl;obtain hb|hb:=hb;exact hn hb;omega)];exact h.block k hk hn⟩
def Fr.drewN{a:World}(h:Fr S a w)n:Fr S a (w.drewN n):=⟨h.os,h.tape,h.output,h.size,h.block⟩
def Fr.drew{a:World}(h:Fr S a w):Fr S a w.drew:=⟨h.os,h.tape,h.output,h.size,h.block⟩
def Bx.fr{b:Nat}(h:Bx w b C)(hb:Fr S w w')(hn:¬S b):Bx w' b C:=h.same hb.size<|hb.block b h.z hn
def KB(hv iv:Value)b:=hv.ownBlock=some b\/iv.ownBlock=some b
def filter_lt{p q:Nat->Bool}:∀{l:List Nat}(_:∀i,q i=true->p i=true){m:Nat}(_:m∈l)(_:p m=true)(_:q m=false),(l.filter q).length<(l.filter p).length
 |[],_,_,h,_,_=>tW|x::l,hi,m,h,hp,hq=>by
   have hle:∀l:List Nat,(l.filter q).length<=(l.filter p).length:=by
    intro l
    induction l with
    |nil=>simp|cons y l ih=>
     simp only[List.filter_cons];split
     .rename_i hy;simp[hi y hy];exact ih
     .grind
   simp only[List.filter_cons];obtain rfl|h:=List.mem_cons.1 h
   .grind
   .have ih:=filter_lt (l:=l) hi h hp hq;split
    .rename_i hx;simp[hi x hx];exact ih
    .grind
def iH{P}{ops}{o}{a}{K}{Q}{E:Prop}(hg:o.guard=none)s x t(rJ:o.op=Op.call {callee:=Callee.builtin Builtin.append,args:=#[s,x],argTypes:=#[t,t]})base e i z size bytes(h1:P.underlying t=some (.slice e))(h2:P.info? e=some i)(h3:i.zero=some z)(h4:i.size=size)(h5:i.bytes=bytes)(h6:z.cells.size=size)(h7:0<size)v n xs(hs:a.eval s=v)(fP:w.ownsRow base e size v n xs)ad m c news(hx:a.eval x=.slice (some ad) m c)(hn:news.length=m*size)(hc:∀j u,news[j]? =some u->w.cell? (ad.add j)=some u)(h1c:∀u∈news,u.oneCell'=true)(b1:n+m<=maxLen)(b2:(n+m)*bytes<=140737488355328)(p9:base<=w.heap.size)(hK:∀v' w',w'.ownsRow base e size v' (n+m) (xs++news)->w.grownBy w' v.ownBlock->(v'.ownBlock=v.ownBlock\/v'.ownBlock=some w.heap.size)->K (a.put o.dst v') w'):
 if Region.wanted o (yielded ops a.tmps)=true then Oper.wp P o a w K Q else E:=by
 have hw:Region.wanted o (yielded ops a.tmps)=true:=by simp[Region.wanted,hg]
 rw[if_pos hw];have⟨v',w',ls,r1,r2,_,r4⟩:=run_append_own_at (P:=P) w base t o.type e i z size bytes h1 h2 h3 h4 h5 h6 h7 v n xs fP ad m c news hn hc h1c b1 b2 p9;rw[Oper.wp];simp[execOp,rJ,resolve,invoke,builtin,hs,hx,ls,Result.andThen];exact hK v' w' r1 r2 r4
theorem toList_inj{a b:BA}(h:a.toList=b.toList):a=b:=by
 rw[qg,qg]at h;exact ByteArray.ext<|Array.ext' h
def GZ(L:List α)j(h:j<L.length):L=L.take j++L[j]::L.drop (j+1):=by simp_all
section
variable {lv:Value}
def ix(s:BA):List BA->Nat
 |[]=>0|a::l=>if a.toList=s.toList then 0 else ix s l+1
end
def nW s ns:=if ix s ns<ns.length then ns else ns++[s]
theorem NF{s:BA}:∀{ns:List BA},s∈ns->ix s ns<ns.length
 |[],h=>tW|a::ns,h=>by
   simp only[ix];split
   .simp
   .rename_i ne;obtain e|h:=List.mem_cons.1 h
    .exact absurd (by rw[e]) ne
    .have:=NF h;simp;omega
def RJ{p:Prop}(h:p:=by
 rename_i e;exact absurd (List.mem_cons.2<|j3 (toList_inj e).symm) h):p:=h
theorem aaz{s:BA}:∀{ns:List BA},¬s∈ns->ix s ns=ns.length
 |[],_=>rfl|a::ns,h=>by
   simp only[ix];split
   .exact RJ
   .rw[aaz<|λk=>h<|jv _ k];simp
def DH{s:BA}:∀{ns:List BA},¬s∈ns->ix s (ns++[s])=ns.length
 |[],_=>by simp[ix]|a::ns,h=>by
   simp only[jy,ix];split
   .exact RJ
   .rw[DH<|λk=>h<|jv _ k];simp
def DG(h:s∈ns):nW s ns=ns:=by grind[nW,NF]
def Gp(h:¬s∈ns):nW s ns=ns++[s]:=by grind[nW,aaz]
def fy k s:=if k=17 then nB else if k=6 then lj else s
mutual
def aH(ns:List BA):Nd->Ty×List BA
 |.mk k s _ L _ _ _=>if k=16 then(.var<|ix s (nW s ns)+1,nW s ns)else(.aJ (fy k s) (aA ns L).1,(aA ns L).2)
def aA(ns:List BA):List Nd->List Ty×List BA
 |[]=>([],ns)|x::l=>((aH ns x).1::(aA (aH ns x).2 l).1,(aA (aH ns x).2 l).2)
end
inductive sI:Nd->Prop where
 |var(s:BA)(n f t a:Nat):sI (.mk 16 s n [] f t a)
 |two(k:Nat)(s:BA)(n:Nat)(x y:Nd)(f t a:Nat)(hk:k=17\/k=6)(hx:sI x)(hy:sI y):sI (.mk k s n [x,y] f t a)
 |up(s:BA)(n:Nat)(L:List Nd)(f t a:Nat)(hw:∀n,VZ s n)(hl:L.length<=1001)(hL:∀i(h:i<L.length),sI L[i]):sI (.mk 2 s n L f t a)
def Fr.trans'{T}{a b c}(h:Fr S a b)(k:Fr T b c)(hT:∀x,T x->S x\/a.heap.size<=x):Fr S a c:=
 ⟨k.os.trans h.os,k.tape.trans h.tape,k.output.trans h.output,j6 h.size k.size,λi hi hn=>(k.block i (j7 hi h.size) (λt=>by obtain t|t:=hT i t;exact hn t;omega)).trans (h.block i hi hn)⟩
def Fr.Ai{a:World}(h:Fr S a w){b:Nat}(hb:S b\/a.heap.size<=b)(v0 v1 v2:Value):Fr S a (((w.setCell ⟨b,0,none⟩ v0).setCell ⟨b,1,none⟩ v1).setCell ⟨b,2,none⟩ v2):=
 ((h.set hb 0 v0).set hb 1 v1).set hb 2 v2
def Bx.aaA{b b2}(h:Bx w b C)(hn:b≠b2)v0 v1 v2:Bx (((w.setCell ⟨b2,0,none⟩ v0).setCell ⟨b2,1,none⟩ v1).setCell ⟨b2,2,none⟩ v2) b C:=
 ((h.nO hn 0 v0).nO hn 1 v1).nO hn 2 v2
def IY s ns:ns.length<=(nW s ns).length:=by rw[nW];split<;>simp
mutual
def aaB:∀(nd:Nd)(ns:List BA),ns.length<=(aH ns nd).2.length
 |.mk k s n L f t a,ns=>by
  simp only[aH];split
  .exact IY s ns
  .exact tY L ns
def tY:∀(L:List Nd)(ns:List BA),ns.length<=(aA ns L).2.length
 |[],ns=>by simp[aA]|x::l,ns=>by simp only[aA];exact j6 (aaB x ns)<|tY l _
end
mutual
def cnt:Nd->Nat
 |.mk k _ _ L _ _ _=>(if k=16 then 1 else 0)+ajX L
def ajX:List Nd->Nat
 |[]=>0|x::l=>cnt x+ajX l
end
def eK(s:BA):Except Fl Nd:=
 if 400<s.size then .error ⟨1,0,0⟩else
 match cP (jd s 0) (jd s 0).length 0 with
 |.error f=>.error f|.ok (a,k)=>if(tk (jd s 0) k).kind==7 then .ok a else .error (dc<|tk (jd s 0) k)
def jF(f:Fl):Value:=.agg #[Nv f.kind,Nv f.al,Nv f.to]
end
def mH{α:Type}(m:M α):=∀k a k',m k=.ok (a,k')->k<k'
def mH.mono{m:M Nd}(h:mH m):Ea m:=λk a k' q=>Nat.le_of_lt<|h k a k' q
def On(hm:mH sm)fr:∀f x k a k',jR T sm fr f x k=.ok (a,k')->k<=k':=by
 intro f
 induction f with
 |zero=>intro x k a k' h;cases h;omega|succ f ih=>
  intro x k a k' h;unfold jR at h;exact yk
def Oo(hm:mH sm)fr:∀f x k a k',kU T sm fr f x k=.ok (a,k')->k<=k':=by
 intro f
 induction f with
 |zero=>intro x k a k' h;cases h;omega|succ f ih=>
  intro x k a k' h;unfold kU at h;exact yk
def U_(hm:mH sm)fr:∀f x k a k',sw T sm fr f x k=.ok (a,k')->k<=k':=by
 intro f
 induction f with
 |zero=>intro x k a k' h;cases h;omega|succ f ih=>
  intro x k a k' h;unfold sw at h;exact yk
def tw(hm:mH sm):mH (dt T sm):=λk a k' h=>by
 rw[dt]at h;have⟨y,k1,h1,h2⟩:=aw h;have:=hm _ _ _ h1;have:=On hm _ _ _ _ _ _ h2;omega
def Aq(hm:mH sm):mH (gu T sm):=λk a k' h=>by
 rw[gu]at h;have⟨y,k1,h1,h2⟩:=aw h;have:=hm _ _ _ h1;have:=Oo hm _ _ _ _ _ _ h2;omega
def Rp(hm:mH sm):mH (wW T sm):=λk a k' h=>by
 rw[wW]at h;have⟨y,k1,h1,h2⟩:=aw h;have:=hm _ _ _ h1;have:=U_ hm _ _ _ _ _ _ h2;omega
def aaC(hm:mH sm):mH (sC T sm):=λk a k' h=>by
 rw[sC]at h;have⟨y,k1,h1,h2⟩:=aw h;have:=hm _ _ _ h1;split at h2
 .have⟨z,k2,h3,h4⟩:=aw h2;have:=hm _ _ _ h3
  cases h4
  omega
 .cases h2;omega
def RK{p:Prop}(h:p:=by
 have:=eH _ _ _ _ h3;have:=bz _ _ _ _ h5;have:=hm _ _ _ h7
 omega):p:=h
def Fq(hm:mH e):mH (uq T e):=λk a k' h=>by
 rw[uq]at h;have⟨_,k1,h1,h2⟩:=aw h;have⟨_,k2,h3,h4⟩:=aw h2;have⟨_,k3,h5,h6⟩:=aw h4;have⟨_,k4,h7,h8⟩:=aw h6
 cases h8
 have:=bz _ _ _ _ h1;exact RK
def C8(hm:mH e):mH (cy T e):=λk a k' h=>by
 rw[cy]at h;have⟨_,k1,h1,h2⟩:=aw h;have:=bz _ _ _ _ h1;split at h2
 .have⟨_,k2,h3,h4⟩:=aw h2;have⟨_,k3,h5,h6⟩:=aw h4;have⟨_,k4,h7,h8⟩:=aw h6
  cases h8
  have:=eH _ _ _ _ h3;have:=bz _ _ _ _ h5;have:=Fq hm _ _ _ h7;omega
 .have⟨_,k2,h3,h4⟩:=aw h2;have⟨_,k3,h5,h6⟩:=aw h4;have⟨_,k4,h7,h8⟩:=aw h6
  cases h8
  exact RK
def U'{p}(hp:Ea p)(hm:mH e):∀f l k a k',oq T p e f l k=.ok (a,k')->k<=k':=by
 intro f
 induction f with
 |zero=>intro l k a k' h;cases h;omega|succ f ih=>
  intro l k a k' h;rw[oq]at h;have⟨_,k1,h1,h2⟩:=aw h;have⟨_,k2,h3,h4⟩:=aw h2;have⟨_,k3,h5,h6⟩:=aw h4;have:=hp _ _ _ h1;have:=bz _ _ _ _ h3;have:=hm _ _ _ h5;split at h6
  .grind
  .cases h6;omega
theorem jW:∀n,mH<|bR T n
 |0=>λk a k' h=>Mn|n+1=>λk a k' h=>by
  have ih:=jW n;unfold bR at h;split at h
  .exact Fq ih _ _ _ h
  split at h
  .unfold pA at h;have⟨_,k1,h1,h2⟩:=aw h;have⟨_,k2,h3,h4⟩:=aw h2;have⟨_,k3,h5,h6⟩:=aw h4;have⟨_,k4,h7,h8⟩:=aw h6;have⟨_,k5,h9,h10⟩:=aw h8;have⟨_,k6,h11,h12⟩:=aw h10
   cases h12
   have:=bz _ _ _ _ h1;have:=ih _ _ _ h3;have:=bz _ _ _ _ h5;have:=ih _ _ _ h7;have:=bz _ _ _ _ h9;have:=ih _ _ _ h11;omega
  split at h
  .unfold uv at h;have⟨_,k1,h1,h2⟩:=aw h;have⟨_,k2,h3,h4⟩:=aw h2;have⟨_,k3,h5,h6⟩:=aw h4;have⟨_,k4,h7,h8⟩:=aw h6;have⟨_,k5,h9,h10⟩:=aw h8
   cases h10
   have:=bz _ _ _ _ h1;have:=ih _ _ _ h3;have:=bz _ _ _ _ h5;have:=U' (oT n) ih _ _ _ _ _ h7;have:=bz _ _ _ _ h9;omega
  split at h
  .unfold qS at h;have⟨_,k1,h1,h2⟩:=aw h;have⟨_,k2,h3,h4⟩:=aw h2;have⟨_,k3,h5,h6⟩:=aw h4
   cases h6
   have:=C8 ih _ _ _ h1;have:=bz _ _ _ _ h3;have:=ih _ _ _ h5;omega
  .exact aaC (Rp<|Aq<|tw<|cz ih.mono (da n) 3) _ _ _ h
def uU n:Ea (bR T n):=(jW n).mono
def Has(s:BA)(i:Nat)(l:List UInt8):=∀j(h:j<l.length),i+j<s.size/\jk s (i+j)=l[j].toNat
def Has.left{l:List UInt8}(h:Has s i (l++m)):Has s i l:=λj hj=>by
 have:=h j bB
 rwa[List.getElem_append_left hj]at this
def Has.right{l:List UInt8}(h:Has s i (l++m)):Has s (i+l.length) m:=λj hj=>by
 have:=h (l.length+j) bB;rw[List.getElem_append_right ae]at this;simpa[Nat.add_assoc]using this
def Has.hd(h:Has s i (x::m)):i<s.size/\jk s i=x.toNat:=h 0 ag
def Has.tl(h:Has s i (x::m)):Has s (i+1) m:=λj hj=>by
 have:=h (j+1) bB;simpa[Nat.add_assoc,Nat.add_comm 1 j]using this
def Has.le{l:List UInt8}(h:Has s i l)(hi:i<=s.size):i+l.length<=s.size:=by
 cases l with
 |nil=>simpa using hi|cons x r=>have:=(h r.length ag).1;simp;omega
def Has.ext{l:List UInt8}(h:Has s i l)(hi:i<=s.size):(s.extract i<|i+l.length).toList=l:=by
 have hle:=h.le hi;rw[qg,ByteArray.data_extract];apply List.ext_getElem
 .have hd:s.data.size=s.size:=rfl;simp;omega
 .intro j h1 h2;have⟨h3,h4⟩:=h j h2;rw[Pu.lW h3]at h4;have:s[i+j]=l[j]:=UInt8.toNat_inj.1 h4;rw[<-this];simp[ByteArray.getElem_eq_getElem_data]
def Has.end_{s:BA}{p:Nat->Bool}:∀{l:List UInt8}{i:Nat},Has s i l->(∀x∈l,p x.toNat=true)->p (jk s<|i+l.length)=false->Pu.aG s p i=i+l.length
 |[],i,_,_,hn=>by
  simp at hn;by_cases hi:i<s.size
  .simpa using Pu.ol hi hn
  .simpa using Pu.jD ae
 |x::r,i,h,hp,hn=>by
   rw[Pu.eD h.hd.1 (by rw[h.hd.2];exact hp x ag),Has.end_ h.tl (λy hy=>hp y<|by simp[hy])<|by simpa[Nat.add_assoc,Nat.add_comm 1]using hn];simp[Nat.add_assoc,Nat.add_comm 1]
def Lx(nb:Bool)(l:List UInt8)(p:List Ky):=∀s i,Has s i l->i<=s.size->(nb=true->jc (jk s<|i+l.length)=false)->∃T,jd s i=T++jd s (i+l.length)/\T.map oA=p
def Lx.rM{b1 b2}{l1 l2}{p1 p2}(h1:Lx b1 l1 p1)(h2:Lx b2 l2 p2)(hb:b1=true->∃x r,l2=x::r/\jc x.toNat=false):Lx b2 (l1++l2) (p1++p2):=by
 intro s i hs hi hn;have hl:=hs.left.le hi
 have⟨T1,e1,k1⟩:=h1 s i hs.left hi (λq=>by
  obtain⟨x,r,rfl,hx⟩:=hb q;rw[hs.right.hd.2]
  exact hx)
 have⟨T2,e2,k2⟩:=h2 s (i+l1.length) hs.right hl (λq=>by have:=hn q;simpa[Nat.add_assoc]using this);refine⟨T1++T2,?_,by simp[k1,k2]⟩;rw[e1,e2];simp[Nat.add_assoc]
def Lx.Ep{b}{l:List UInt8}{p:List Ky}(h:Lx b l p):Lx true l p:=λs i hs hi hn=>h s i hs hi<|λ_=>hn rfl
def tC:Lx false [32] []:=by
 intro s i hs hi _;refine⟨[],?_,rfl⟩;rw[Pu.zI hs.hd.1 (by rw[hs.hd.2];rfl)];rfl
def yl{l:List UInt8}(hs:Has s i l)(hi:i<=s.size)(h0:i<s.size)(hb:Pu.dr (jk s i)=false)(ht:ji s i=jo s i k (i+l.length)):∃T,jd s i=T++jd s (i+l.length)/\T.map oA=[(k,l)]:=by
 refine⟨[jo s i k<|i+l.length],?_,?_⟩
 .rw[Pu.IA h0 hb,ht];rfl
 .simp only[List.map_cons,List.map_nil,oA,jo];rw[hs.ext hi]
def tD c(hc:c=40\/c=41\/c=44):Lx false [c] [(5,[c])]:=by
 intro s i hs hi _;have⟨h0,h1⟩:=hs.hd;refine yl hs hi h0 ?_ ?_
 .rw[h1];obtain rfl|rfl|rfl:=hc<;>rfl
 .rw[ji];rw[h1];obtain rfl|rfl|rfl:=hc<;>simp[jj,jh,jm,Pu.Cx]
def aaD:Lx false [45,62] [(5,[45,62])]:=by
 intro s i hs hi _;have⟨h0,h1⟩:=hs.hd;have⟨h2,h3⟩:=hs.tl.hd;refine yl hs hi h0 ?_ ?_
 .rw[h1];rfl
 .rw[ji];rw[h1,h3];simp[jj,jh,jm]
def ajY x r(hx:jh x.toNat=true)(hr:∀y∈r,jc y.toNat=true):Lx true (x::r) [(2,x::r)]:=by
 intro s i hs hi hn;have⟨h0,h1⟩:=hs.hd;have lD:jj x.toNat=false:=by simp[jh]at hx;simp[jj];omega
 have he:=hs.end_ (p:=jc) (λy hy=>by
  obtain rfl|hy:=List.mem_cons.1 hy
  .simp[jc,hx]
  .exact hr y hy) (hn rfl)
 refine yl hs hi h0 ?_ ?_
 .rw[h1];simp[jh]at hx;simp[Pu.dr];omega
 .rw[ji];rw[h1,he];simp[lD,hx]
def ahp x r(hx:jj x.toNat=true)(hr:∀y∈r,jc y.toNat=true)(hw:jl ⟨(x::r).toArray⟩=false):Lx true (39::x::r) [(3,39::x::r)]:=by
 intro s i hs hi hn;have⟨h0,h1⟩:=hs.hd;have⟨h2,h3⟩:=hs.tl.hd
 have he:=hs.tl.end_ (p:=jc) (λy hy=>by
  obtain rfl|hy:=List.mem_cons.1 hy
  .simp[jc,hx]
  .exact hr y hy) (by have:=hn rfl;simpa[Nat.add_assoc,Nat.add_comm 1]using this)
 have hx2:s.extract (i+1) (i+1+(x::r).length)=⟨(x::r).toArray⟩:=ox (by rw[hs.tl.ext ae,toList_mk]);refine yl hs hi h0 ?_ ?_
 .rw[h1];rfl
 .rw[ji];rw[h1,h3,he,hx2,hw,if_neg aK,if_neg aK,if_pos ⟨aK,hx⟩,if_neg aK];simp[Nat.add_assoc,Nat.add_comm 1]
def ahq l:Has (bs l) 0 l:=by
 intro j hj;have h1:0+j<(bs l).size:=by rw[dM];omega
 refine⟨h1,?_⟩;rw[Pu.lW h1];simp[bs,ByteArray.getElem_eq_getElem_data]
def Jh{l:List UInt8}{p:List Ky}{t}(hl:Lx true l p)(hg:Gr 2 p t)(hz:l.length<=400):∃nd,eK (bs l)=.ok nd/\er nd=t:=by
 have⟨T,e,k⟩:=hl (bs l) 0 (ahq l) (qd _) (λ_=>by rw[Pu.Iu (s:=bs l) (i:=0+l.length) (by rw[dM];omega)];rfl);rw[Pu.Iz (s:=bs l) (i:=0+l.length) (by rw[dM];omega)]at e;have hlen:T.length=p.length:=by rw[<-k];simp
 have hs:pU (T++[jf<|bs l]) 0 p:=λi hi=>by
  have:tk (T++[jf<|bs l]) (0+i)=T[i]'(by omega):=by
   rw[tk];rw[j9,jp,List.getElem?_append_left ae,jt ae];rfl
  rw[this];subst k;simp
 have ajZ:tk (T++[jf<|bs l]) (0+p.length)=jf (bs l):=by
  rw[tk];rw[j9,jp,List.getElem?_append_right ae,hlen];simp
 have⟨nd,e1,hr⟩:=hg.reads (T++[jf<|bs l]) 0 (T++[jf<|bs l]).length hs bB bB (by
  rw[Yl];rw[ajZ,dF,eX]
  exact⟨by simp[oA,jf],by simp[oA,jf]⟩)
 refine⟨nd,?_,e1⟩;rw[eK];rw[if_neg (by rw[dM];omega),e,hr];simp only[ajZ];rfl
section
open Go.ChangeMaps Un
def Oq n:=∀w:World,Cq 222 #[Nv n] w λe w'=>e=.returned (.string<|bs<|dec n)/\w'=w
def RL{p:Prop}(h:p:=by
 obtain rfl|rfl|rfl|rfl|rfl|rfl|rfl|rfl|rfl|rfl|rfl|rfl|rfl|rfl|rfl|rfl|rfl|rfl|rfl|rfl|rfl|rfl|rfl|rfl|rfl|rfl|rfl|rfl|rfl|rfl|rfl|rfl|rfl|rfl|rfl|rfl|rfl|rfl|rfl|rfl|rfl|rfl|rfl|rfl|rfl|rfl|rfl|rfl:=this;all_goals
  intro w;go_enter func222,ntmps222
  go_wp2
  go_ret;refine⟨?_,rfl⟩;first
  |(rw[dec,if_pos aK];kernel_rfl)
  |(rw[dec,if_neg aK,dec,if_pos aK];kernel_rfl)):p:=h
def aaE n(h0:0<=n)(h:n<48):Oq n:=by
 have:n=0\/n=1\/n=2\/n=3\/n=4\/n=5\/n=6\/n=7\/n=8\/n=9\/n=10\/n=11\/n=12\/n=13\/n=14\/n=15\/n=16\/n=17\/n=18\/n=19\/n=20\/n=21\/n=22\/n=23\/n=24\/n=25\/n=26\/n=27\/n=28\/n=29\/n=30\/n=31\/n=32\/n=33\/n=34\/n=35\/n=36\/n=37\/n=38\/n=39\/n=40\/n=41\/n=42\/n=43\/n=44\/n=45\/n=46\/n=47:=ae;exact RL
def aaF n(h0:48<=n)(h:n<96):Oq n:=by
 have:n=48\/n=49\/n=50\/n=51\/n=52\/n=53\/n=54\/n=55\/n=56\/n=57\/n=58\/n=59\/n=60\/n=61\/n=62\/n=63\/n=64\/n=65\/n=66\/n=67\/n=68\/n=69\/n=70\/n=71\/n=72\/n=73\/n=74\/n=75\/n=76\/n=77\/n=78\/n=79\/n=80\/n=81\/n=82\/n=83\/n=84\/n=85\/n=86\/n=87\/n=88\/n=89\/n=90\/n=91\/n=92\/n=93\/n=94\/n=95:=ae;exact RL
def Va n(h:n<96):Oq n:=by
 by_cases q:n<48
 .exact aaE n (qd _) q
 .exact aaF n ae h
def Wz n(h:n<96):Cq 73 #[Nv n] w λe w'=>e=.returned (.string<|bs<|dec n)/\w'=w:=by
 have HC:=Va n h w;have h0:(0:Int)<=(n:Int):=ae;have h1:(n:Int)<100:=ae;go_enter func73,ntmps73;go_wp2_with(first|(go_at_call 222;refine HC.mono ?_;rintro e w'⟨rfl,rfl⟩)|(go_at_call 106;go_in)|(go_at_call 143;go_in));go_ret;exact⟨rfl,rfl⟩
end
section
open Un
def aaG l n:(qf l n).length<=l.length+1:=by rw[qf];split<;>simp
mutual
def oX:∀(t:Ty)(l:List Nat),(vars l t).length<=l.length+size t
 |.var n,l=>by have:=aaG l n;simp[vars,size];omega|.aJ c L,l=>by have:=Dm L l;simp[vars,size];omega
def Dm:∀(L:List Ty)(l:List Nat),(bh l L).length<=l.length+ah L
 |[],l=>by simp[bh,ah]|t::L,l=>by
   have h1:=oX t l;have h2:=Dm L<|vars l t;simp[bh,ah];omega
end
mutual
def Wf:Ty->Prop
 |.var _=>True|.aJ c l=>VZ c l.length/\zX l
def zX:List Ty->Prop
 |[]=>True|t::l=>Wf t/\zX l
end
def pM:∀(l:List Ty),zX l↔∀t,t∈l->Wf t
 |[]=>by simp[zX]|a::l=>by simp[zX,pM l]
mutual
def Wf.BT{R:Nat->Ty}:∀t,Wf t->(∀v,aD v t->Wf (R v))->Wf (qe R t)
 |.var n,_,hR=>by simpa[qe]using hR n (by simp[aD])|.aJ c l,h,hR=>by simp only[qe,Wf,dT];exact⟨h.1,zX.BT l h.2<|λv hv=>hR v<|by simpa[aD]using hv⟩
def zX.BT{R:Nat->Ty}:∀l,zX l->(∀v,bT v l->Wf (R v))->zX (aS R l)
 |[],_,_=>by simp[aS,zX]|t::l,h,hR=>⟨Wf.BT t h.1<|λv hv=>hR v<|j3 hv,zX.BT l h.2<|λv hv=>hR v<|j5 hv⟩
end
def RM p s:(par p s).length<=s.length+2:=by rw[par];split<;>simp
def ahr n:∀L:List Nat,L.idxOf n<=L.length:=λL=>List.idxOf_le_length
mutual
def uK{L:List Nat}(hL:L.length<=1000):∀t,Wf t->∀k,(wr dec L t k).length+1000<=3000*size t
 |.var n,_,k=>by
  have h1:=xG<|L.idxOf n;have h2:=ahr n L;simp[wr,size];omega
 |.aJ c l,h,k=>by
  obtain⟨⟨h1,h2⟩,h3⟩:=h;have hfl:=RN hL l h3;have hc:c.toList.length=c.size:=by rw[qg];exact Array.length_toList
  simp only[wr,bA];split
  .rename_i e
   match l,h2.1<|j3 e,h3 with
   |[u,v],_,h3=>
    have a:=uK hL u h3.1 1;have b:=uK hL v h3.2.1 0;have:=RM (decide (0<k))<|nth (uf dec L [u,v]) 0 1++([32,45,62,32]++nth (uf dec L [u,v]) 1 0);simp[uf,nth,size,ah]at this⊢;omega
  .split
   .rename_i e
    match l,h2.1<|j5 e,h3 with
    |[u,v],_,h3=>
     have a:=uK hL u h3.1 0;have b:=uK hL v h3.2.1 0;simp[uf,nth,size,ah];omega
   .have:=RM (decide (1<k)&& !(uf dec L l).isEmpty) (c.toList++(uf dec L l).flatMap λp=>32::p 2);simp only[tQ]at this;simp only[size];omega
def RN{L:List Nat}(hL:L.length<=1000):∀l,zX l->((uf dec L l).flatMap λp=>32::p 2).length<=3000*ah l
 |[],_=>by simp[uf,ah]|t::l,h=>by
   have a:=uK hL t h.1 2;have b:=RN hL l h.2;simp[uf,ah]at b⊢;omega
end
def Kl{l}{M}(h:vars l t<+:M):wr dec M t=wr dec (vars l t) t:=
 Mz dec h t λn hn=>(bK t l n).2<|j5 hn
namespace In
structure Td where
 of:Ty
 any:List Nat
structure St where
 k:Nat->Ty
 u:Nat->Prop
structure Ft where
 f:Fl
 l:Ty
 r:Ty
abbrev Env:=BA->Option Td
abbrev Mks:=BA->Option (List Ty×Ty)
abbrev Rn:=Nat->Option Nat
abbrev MM(α:Type):=St->Except Ft (α×St)->Prop
def cT(a:α):MM α:=λs o=>o=.ok (a,s)
def andM(m:MM α)(g:α->MM β):MM β:=λs o=>(∃x,m s (.error x)/\o=.error x)\/∃a s',m s (.ok (a,s'))/\g a s' o
def noM:MM α:=λ_ _=>False
def kM:MM Nat:=λs o=>∃v,¬s.u v/\o=.ok (v,⟨s.k,λn=>s.u n\/n=v⟩)
structure Bt θ a b:Prop where
 one:sub θ a=sub θ b
 gen:∀σ,sub σ a=sub σ b->∀v,sub σ (θ v)=σ v
 out:∀v,¬aD v a->¬aD v b->θ v=.var v
 rng:∀v n,aD v a\/aD v b->aD n (θ v)->aD n a\/aD n b
def rK(f t:Nat):Ft:=⟨⟨7,f,t⟩,.var 0,.var 0⟩
def ub(a b:Ty)(f t:Nat):MM Unit:=λs o=>
 ((48<size (sub s.k a)\/48<size (sub s.k b))/\o=.error (rK f t))\/
 (size (sub s.k a)<=48/\size (sub s.k b)<=48/\((∃θ,Bt θ (sub s.k a) (sub s.k b)/\o=.ok ((),⟨λv=>sub θ<|s.k v,s.u⟩))\/((∀σ,sub σ (sub s.k a)≠sub σ (sub s.k b))/\o=.error ⟨⟨6,f,t⟩,sub s.k a,sub s.k b⟩)))
structure Qp(l:List Nat)(ρ eG:Rn)(u u':Nat->Prop):Prop where
 gC:∀v n,ρ v=some n->eG v=some n
 out:∀v,v∉l->eG v=ρ v
 all:∀v,v∈l->eG v≠none
 new:∀v n,ρ v=none->eG v=some n->¬u n
 one:∀v v' n,ρ v=none->eG v=some n->eG v'=some n->v=v'
 use:∀n,u' n↔u n\/∃v,ρ v=none/\eG v=some n
def sK(l:List Nat)(ρ:Rn):MM Rn:=λs o=>∃eG u',Qp l ρ eG s.u u'/\o=.ok (eG,⟨s.k,u'⟩)
def Qo:Rn:=λ_=>none
def via(ρ:Rn):Nat->Ty:=λv=>match ρ v with
 |some n=>.var n|none=>.var v
def gD(Γ:Env)x c:=λy=>if y=x then some c else Γ y
def qJ(Γ:Env)x:=λy=>if y=x then none else Γ y
def over(g Γ:Env):Env:=λy=>match g y with
 |some c=>some c|none=>Γ y
abbrev mono(t:Ty):Td:=⟨t,[]⟩
def B_(Γ:Env)k v:=∃y c,Γ y=some c/\aD v (sub k c.of)/\v∉c.any
open Classical in
noncomputable def ys (Γ:Env) (k:Nat->Ty) (T:Ty):List Nat:=(vars [] T).filter λv=>decide (¬B_ Γ k v)
noncomputable def kR (Γ:Env) (k:Nat->Ty) (t:Ty) (v:Bool):Td:=⟨sub k t,if v then ys Γ k (sub k t)else[]⟩
abbrev iy:Ty:=.aJ qL []
abbrev oE:Ty:=.aJ jL []
abbrev sN:Ty:=.aJ iM []
abbrev nQ(a b:Ty):Ty:=.aJ nB [a,b]
abbrev tPr(a b:Ty):Ty:=.aJ lj [a,b]
def arr(tk:List Ty)m:=tk.foldr nQ m
def iw:Nd->Nat|.mk _ _ _ _ f _ _=>f
def ux:Nd->Nat|.mk _ _ _ _ _ t _=>t
mutual
def H9:Nd->Bool
 |.mk k _ _ L _ _ _=>if k=6 then ahs L else if k=14 then aht L else if k=8 then isC L&&adI L else k==1||k==2||k==3||k==4||k==5||k==9
def ahs:List Nd->Bool
 |[]=>true|x::l=>H9 x&&ahs l
def aht:List Nd->Bool
 |[]=>false|x::_=>H9 x
def adI:List Nd->Bool
 |[]=>false|_::l=>aht l
def isC:List Nd->Bool
 |[]=>false|x::_=>isM x
def isM:Nd->Bool
 |.mk k _ _ L _ _ _=>if k=8 then isC L&&adI L else k==2
end
def wY(Γ:Env)(x:BA)(f t:Nat):MM Ty:=match Γ x with
 |none=>noM|some c=>λs o=>(48<size (sub s.k c.of)/\o=.error (rK f t))\/(size (sub s.k c.of)<=48/\∃ρ s',sK c.any Qo s (.ok (ρ,s'))/\o=.ok (sub (via ρ)<|sub s.k c.of,s'))
def sE t ρ:=andM (sK (vars [] t) ρ) λeG=>cT (sub (via eG) t,eG)
def upM(mk:Mks)x:=match mk x with
 |none=>noM|some (tk,m)=>andM (sE (arr tk m) Qo) λq=>cT q.1
abbrev PM:=Env->MM (Ty×Env)
abbrev EM:=Env->MM Ty
def nD:List Ty->List Nd->List PM->Env->Rn->MM (Env×Rn)
 |u::tk,x::L,p::ps,g,ρ=>andM (p g) λq=>andM (sE u ρ) λi=>andM (ub q.1 i.1 (iw x)<|ux x) λ_=>nD tk L ps q.2 i.2|_,_,_,g,ρ=>cT (g,ρ)
def dv{α:Type}(ps:List (Env->MM α))i:=ps.getD i λ_=>noM
def Bv(mk:Mks)k s L ps g:=
 if k=15 then andM kM λv=>cT (.var v,g)
 else if k=1 then andM kM λv=>cT (.var v,gD g s<|mono<|.var v)
 else if k=3 then cT (iy,g)
 else if k=4 then cT (oE,g)
 else if k=5 then cT (sN,g)
 else if k=6 then andM (dv ps 0 g) λa=>andM (dv ps 1 a.2) λb=>cT (tPr a.1 b.1,b.2)
 else match mk s with
  |none=>noM|some (tk,m)=>andM (nD tk L ps g Qo) λq=>andM (sE m q.2) λi=>cT (i.1,q.1)
mutual
def dY(mk:Mks):Nd->PM
 |.mk k s _ L _ _ _=>Bv mk k s L<|l7 mk L
def l7(mk:Mks):List Nd->List PM
 |[]=>[]|x::l=>dY mk x::l7 mk l
end
def kS(mk:Mks)(Γ:Env)(t r:Ty):List Nd->List EM->MM Unit
 |p::e::L,_::pe::ps=>andM (dY mk p λ_=>none) λq=>andM (ub t q.1 (iw p)<|ux p) λ_=>andM (pe<|over q.2 Γ) λu=>andM (ub r u (iw e)<|ux e) λ_=>kS mk Γ t r L ps|_,_=>cT ()
def cy(rc:Bool)x e(pe:EM)Γ:=
 if rc then andM kM λv=>andM (pe<|gD Γ x<|mono<|.var v) λt=>andM (ub (.var v) t (iw e)<|ux e) λ_=>cT t
 else pe Γ
noncomputable def qS (rc:Bool) (x:BA) (e:Nd) (pe pf:EM) (Γ:Env):MM Ty:=
 andM (cy rc x e pe Γ) λt=>λs=>pf (gD Γ x<|kR (if rc then qJ Γ x else Γ) s.k t (H9 e)) s
def nd0:Nd:=.mk 0 ⟨#[]⟩ 0 [] 0 0 0
def iU(L:List Nd)i:=L.getD i nd0
noncomputable def oB (mk:Mks) (k:Nat) (s:BA) (L:List Nd) (f t:Nat) (ps:List EM) (Γ:Env):MM Ty:=
 if k=1 then wY Γ s f t
 else if k=2 then upM mk s
 else if k=3 then cT iy
 else if k=4 then cT oE
 else if k=5 then cT sN
 else if k=6 then andM (dv ps 0 Γ) λa=>andM (dv ps 1 Γ) λb=>cT<|tPr a b
 else if k=14 then(if vars [] (aH []<|es<|iU L 1).1=[]then andM (dv ps 0 Γ) λa=>andM (ub a (aH []<|es<|iU L 1).1 (iw<|iU L 0)<|ux<|iU L 0) λ_=>cT (aH []<|es<|iU L 1).1 else noM)
 else if k=7 then andM (dv ps 0 Γ) λa=>andM (ub a iy (iw<|iU L 0)<|ux<|iU L 0) λ_=>andM (dv ps 1 Γ) λb=>andM (ub b iy (iw<|iU L 1)<|ux<|iU L 1) λ_=>cT<|if s=dX then oE else iy
 else if k=8 then andM (dv ps 0 Γ) λa=>andM (dv ps 1 Γ) λb=>andM kM λv=>andM (ub a (nQ b<|.var v) f t) λ_=>cT<|.var v
 else if k=9 then andM kM λv=>andM (dv ps 0<|gD Γ s<|mono<|.var v) λa=>cT<|nQ (.var v) a
 else if k=10 then qS false s (iU L 0) (dv ps 0) (dv ps 1) Γ
 else if k=11 then qS true s (iU L 0) (dv ps 0) (dv ps 1) Γ
 else if k=12 then andM (dv ps 0 Γ) λa=>andM (ub a oE (iw<|iU L 0)<|ux<|iU L 0) λ_=>andM (dv ps 1 Γ) λb=>andM (dv ps 2 Γ) λc=>andM (ub b c (iw<|iU L 2)<|ux<|iU L 2) λ_=>cT b
 else if k=13 then andM (dv ps 0 Γ) λa=>andM kM λv=>andM (kS mk Γ a (.var v) L.tail ps.tail) λ_=>cT<|.var v
 else noM
mutual
noncomputable def inf (mk:Mks):Nd->EM
 |.mk k s _ L f t _=>oB mk k s L f t<|dZ mk L
noncomputable def dZ (mk:Mks):List Nd->List EM
 |[]=>[]|x::l=>inf mk x::dZ mk l
end
def QT ns(m:Nd):=match m with|.mk _ _ _ L _ _ _=>(aA ns<|vX L).1
def Y9:Nd->BA|.mk _ s _ _ _ _ _=>s
def Nt(t:ja)(vs:List ja):Ty:=.aJ t.text<|(jz vs.length).map λi=>.var<|i+1
def wi(t:ja)(vs:List ja):List Nd->Mks->Mks
 |[],mk=>mk|m::r,mk=>wi t vs r λy=>if y=Y9 m then some (QT (vs.map (·.text)) m,Nt t vs)else mk y
def og t:=sub (λ_=>sN) t
end In
namespace In
mutual
def cu{n:Nat}{σ:Nat->Ty}:∀t,aD n (sub σ t)↔∃m,aD m t/\aD n (σ m)
 |.var m=>by simp[sub,aD]|.aJ c l=>by simp[sub,aD,Km l]
def Km{n:Nat}{σ:Nat->Ty}:∀l,bT n (aS σ l)↔∃m,bT m l/\aD n (σ m)
 |[]=>by simp[aS,bT]|t::l=>by
  simp only[aS,bT,cu t,Km l];constructor
  .rintro(⟨m,a,b⟩|⟨m,a,b⟩)
   .exact⟨m,j3 a,b⟩
   .exact⟨m,j5 a,b⟩
  .rintro⟨m,a|a,b⟩
   .exact j3 ⟨m,a,b⟩
   .exact j5 ⟨m,a,b⟩
end
def pE(h:∀n,aD n t->σ n=.var n):sub σ t=t:=(sub_congr t h).trans<|cC t
def ahu(h:sub σ t=t)(hn:aD n t):σ n=.var n:=PV t (h.trans (cC t).symm) n hn
def Bt.idem(h:Bt θ a b)v:sub θ (θ v)=θ v:=h.gen θ h.one v
def Bt.fix(h:Bt θ a b)(hn:aD n (θ v)):θ n=.var n:=ahu (h.idem v) hn
structure Ok(s:St):Prop where
 out:∀v,¬s.u v->s.k v=.var v
 use:∀v n,s.u v->aD n (s.k v)->s.u n
 idem:∀v n,aD n (s.k v)->s.k n=.var n
def Ok.Cj{s:St}(h:Ok s)(ht:∀n,aD n t->s.u n)(hn:aD n (sub s.k t)):s.u n/\s.k n=.var n:=by
 have⟨m,h1,h2⟩:=(cu t).1 hn;exact⟨h.use m n (ht m h1) h2,h.idem m n h2⟩
def Ok.vY{s:St}(h:Ok s)t:sub s.k (sub s.k t)=sub s.k t:=by
 refine pE λn hn=>?_;have⟨m,_,h2⟩:=(cu t).1 hn;exact h.idem m n h2
structure LQ(Λ:Nat->Prop)(s s':St):Prop where
 mono:∀n,s.u n->s'.u n
 step:∃θ:Nat->Ty,(∀v,s'.k v=sub θ (s.k v))/\(∀v,¬Λ v->θ v=.var v)/\∀v n,Λ v->aD n (θ v)->Λ n
def LQ.refl Λ s:LQ Λ s s:=⟨λ_ h=>h,Ty.var,λ_=>(cC _).symm,λ_ _=>rfl,λv n h k=>by simp[aD]at k;subst k;exact h⟩
def LQ.trans{s s1 s2:St}(h:LQ Λ s s1)(k:LQ Λ s1 s2):LQ Λ s s2:=by
 obtain⟨h1,θ,a1,a2,a3⟩:=h;obtain⟨k1,τ,b1,b2,b3⟩:=k;refine⟨λn q=>k1 n<|h1 n q,λv=>sub τ<|θ v,λv=>by rw[b1,a1,sub_sub],λv hv=>by show sub τ (θ v)=_;rw[a2 v hv,sub,b2 v hv],λv n hv hn=>?_⟩;have⟨m,c1,c2⟩:=(cu _).1 hn;exact b3 m n (a3 v m hv c1) c2
def LQ.wide{M}{s s':St}(h:LQ Λ s s')(hm:∀n,Λ n->M n):LQ M s s':=by
 obtain⟨h1,θ,a1,a2,a3⟩:=h;refine⟨h1,θ,a1,λv hv=>a2 v λq=>hv<|hm v q,λv n hv hn=>?_⟩;by_cases q:Λ v
 .grind
 .rw[a2 v q]at hn;simp[aD]at hn;subst hn;exact hv
structure gH(Λ:Nat->Prop)(s:St)t:Prop where
 use:∀n,aD n t->s.u n
 loc:∀n,aD n (sub s.k t)->Λ n
def RP{s s':St}(h:∀v,s'.k v=sub θ (s.k v))t:sub s'.k t=sub θ (sub s.k t):=by grind[sub,sub_sub,sub_congr]
def gH.run{s s':St}(h:gH Λ s t)(r:LQ Λ s s'):gH Λ s' t:=by
 have⟨θ,a1,a2,a3⟩:=r.step;refine⟨λn hn=>r.mono n<|h.use n hn,λn hn=>?_⟩;rw[RP a1]at hn;have⟨m,c1,c2⟩:=(cu _).1 hn;exact a3 m n (h.loc m c1) c2
structure sJ(Λ:Nat->Prop)(s:St)(c:Td):Prop where
 use:∀n,aD n c.of->s.u n
 loc:∀n,aD n (sub s.k c.of)->n∈c.any\/Λ n
 fix:∀v,v∈c.any->s.k v=.var v/\¬Λ v
 sub:∀v,v∈c.any->aD v c.of
def sJ.run{s s':St}{c:Td}(h:sJ Λ s c)(r:LQ Λ s s'):sJ Λ s' c:=by
 have⟨θ,a1,a2,a3⟩:=r.step;refine⟨λn hn=>r.mono n<|h.use n hn,λn hn=>?_,λv hv=>?_,h.sub⟩
 .rw[RP a1]at hn;have⟨m,c1,c2⟩:=(cu _).1 hn;obtain q|q:=h.loc m c1
  .rw[a2 m (h.fix m q).2]at c2;simp[aD]at c2;subst c2;exact j3 q
  .grind
 .have⟨q1,q2⟩:=h.fix v hv;exact⟨by rw[a1,q1,qe,a2 v q2],q2⟩
def du Λ s(Γ:Env):=∀y c,Γ y=some c->sJ Λ s c
def du.run{Λ}{s s'}{Γ}(h:du Λ s Γ)(r:LQ Λ s s'):du Λ s' Γ:=λy c q=>(h y c q).run r
def gH.mono{s:St}(h:gH Λ s t):sJ Λ s (mono t):=⟨h.use,λn hn=>j5<|h.loc n hn,λv hv=>(by simp at hv),λv hv=>(by simp at hv)⟩
def du.set{s:St}{Γ}(h:du Λ s Γ)x{c:Td}(hc:sJ Λ s c):du Λ s (gD Γ x c):=λy d q=>by
 rw[gD]at q;split at q
 .grind
 .exact h y d q
theorem du.over{Λ}{s}{g Γ}(hg:du Λ s g)(h:du Λ s Γ):du Λ s (over g Γ):=by grind[du,over]
def du.none Λ s:du Λ s (λ_=>none):=by grind[du]
def dl{α:Type}(m:MM α)s(Q:α->St->Prop):=∀a s',m s (.ok (a,s'))->Q a s'
section
variable {s:St}
def dl.ret{a}{Q:α->St->Prop}(h:Q a s):dl (cT a) s Q:=by grind[dl,cT]
def dl.and{m}{g}{Q:α->St->Prop}{R:β->St->Prop}(h:dl m s Q)(k:∀a s',Q a s'->dl (g a) s' R):dl (andM m g) s R:=by grind[dl,andM]
def dl.no{Q:α->St->Prop}:dl noM s Q:=λ_ _ q=>q.elim
def dl.imp{m}{Q R:α->St->Prop}(h:dl m s Q)(k:∀a s',Q a s'->R a s'):dl m s R:=by grind[dl]
structure Kp(Λ:Nat->Prop)s s':Prop where
 ok:Ok s'
 new:∀n,¬s'.u n->Λ n
 run:LQ Λ s s'
def Kp.refl(h:Ok s)(hn:∀n,¬s.u n->Λ n):Kp Λ s s:=⟨h,hn,LQ.refl _ _⟩
def Kp.trans{s1 s2}(h:Kp Λ s s1)(k:Kp Λ s1 s2):Kp Λ s s2:=⟨k.ok,k.new,h.run.trans k.run⟩
def kV(h:Ok s)(hn:∀n,¬s.u n->Λ n):dl kM s λv s'=>Kp Λ s s'/\gH Λ s' (.var v)/\s'.k=s.k:=λv s' q=>by
 obtain⟨w,hw,q⟩:=q;injection q with q;injection q with q1 q2;subst q1;subst q2;have hk:=h.out v hw;refine⟨⟨⟨λn q=>h.out n λq'=>q<|j3 q',λm n q1 q2=>?_,h.idem⟩,λn q=>hn n λq'=>q<|j3 q',⟨λn q=>j3 q,Ty.var,λ_=>(cC _).symm,λ_ _=>rfl,λm n h k=>by simp[aD]at k;subst k;exact h⟩⟩,⟨λn q=>?_,λn q=>?_⟩,rfl⟩
 .obtain q1|rfl:=q1
  .exact j3 (h.use m n q1 q2)
  .rw[hk]at q2;simp[aD]at q2;exact j5 q2.symm
 .simp[aD]at q;exact j5 q.symm
 .simp only[qe,hk]at q;simp[aD]at q;subst q;exact hn _ hw
def gZ(h:Ok s)(hn:∀n,¬s.u n->Λ n)(ha:gH Λ s a)(hb:gH Λ s b)f t:dl (ub a b f t) s λ_ s'=>Kp Λ s s'/\sub s'.k a=sub s'.k b:=λv s' q=>by
 obtain⟨_,q⟩|⟨_,_,⟨θ,YB,q⟩|⟨_,q⟩⟩:=q
 .cases q
 .injection q with q;injection q with q1 q2;subst q2;have hu:∀n,aD n (sub s.k a)\/aD n (sub s.k b)->s.u n/\s.k n=.var n/\Λ n:=λn q=>by
   obtain q|q:=q
   .exact⟨(h.Cj ha.use q).1,(h.Cj ha.use q).2,ha.loc n q⟩
   .exact⟨(h.Cj hb.use q).1,(h.Cj hb.use q).2,hb.loc n q⟩
  have hr:∀v n,aD n (θ v)->n=v\/(aD n (sub s.k a)\/aD n (sub s.k b)):=λv n q=>by
   by_cases e:aD v (sub s.k a)\/aD v (sub s.k b)
   .exact j5 (YB.rng v n e q)
   .rw[YB.out v (λq=>e<|j3 q)<|λq=>e<|j5 q]at q;simp[aD]at q;exact j3 q.symm
  refine⟨⟨⟨λv q=>?_,λv n q1 q2=>?_,λv n q=>?_⟩,hn,⟨λn q=>q,θ,λ_=>rfl,λv q=>?_,λv n q1 q2=>?_⟩⟩,?_⟩
  .show sub θ (s.k v)=_;rw[h.out v q,qe];exact YB.out v (λq'=>q (hu v<|j3 q').1)<|λq'=>q (hu v<|j5 q').1
  .have⟨m,c1,c2⟩:=(cu _).1 q2;obtain rfl|e:=hr m n c2
   .exact h.use v n q1 c1
   .exact(hu n e).1
  .have⟨m,c1,c2⟩:=(cu _).1 q;have:s.k n=.var n:=by
    obtain rfl|e:=hr m n c2
    .exact h.idem v n c1
    .exact(hu n e).2.1
   show sub θ (s.k n)=_;rw[this,qe];exact YB.fix c2
  .exact YB.out v (λq'=>q (hu v<|j3 q').2.2) (λq'=>q (hu v<|j5 q').2.2)
  .grind
  .have e:∀x,sub (λv=>sub θ<|s.k v) x=sub θ (sub s.k x):=λx=>(sub_sub _ _ x).symm;show sub (λv=>sub θ<|s.k v) a=sub (λv=>sub θ<|s.k v) b;rw[e,e];exact YB.one
 .cases q
def Kn(h:Ok s)(hn:∀n,¬s.u n->Λ n)l ρ:dl (sK l ρ) s λeG s'=>Kp Λ s s'/\Qp l ρ eG s.u s'.u/\s'.k=s.k:=λeG s' q=>by
 obtain⟨my,u',hd,q⟩:=q;injection q with q;injection q with q1 q2;subst q1;subst q2;refine⟨⟨⟨λn q=>h.out n λq'=>q<|(hd.use n).2<|j3 q',λm n q1 q2=>(hd.use n).2 ?_,h.idem⟩,λn q=>hn n λq'=>q<|(hd.use n).2<|j3 q',⟨λn q=>(hd.use n).2<|j3 q,Ty.var,λ_=>(cC _).symm,λ_ _=>rfl,λm n h k=>by simp[aD]at k;subst k;exact h⟩⟩,hd,rfl⟩;obtain q1|⟨v,e1,e2⟩:=(hd.use m).1 q1
 .exact j3 (h.use m n q1 q2)
 .have:s.k m=.var m:=h.out m<|hd.new v m e1 e2;have q2:=q2;rw[this]at q2;simp[aD]at q2;subst q2;exact j5 ⟨v,e1,e2⟩
end
structure oF(Λ:Nat->Prop)(s:St)(ρ:Rn):Prop where
 use:∀v n,ρ v=some n->s.u n
 loc:∀v n m,ρ v=some n->aD m (s.k n)->Λ m
def oF.run{s s':St}{ρ:Rn}(h:oF Λ s ρ)(r:LQ Λ s s'):oF Λ s' ρ:=by
 have⟨θ,a1,a2,a3⟩:=r.step;refine⟨λv n q=>r.mono n<|h.use v n q,λv n m q1 q2=>?_⟩;rw[a1]at q2;have⟨x,c1,c2⟩:=(cu _).1 q2;exact a3 x m (h.loc v n x q1 c1) c2
def oF.draw{s s':St}{ρ eG:Rn}{l}(h:oF Λ s ρ)(ho:Ok s)(hn:∀n,¬s.u n->Λ n)(hk:Kp Λ s s')(hd:Qp l ρ eG s.u s'.u)(e:s'.k=s.k):oF Λ s' eG:=by
 refine⟨λv n q=>?_,λv n m q1 q2=>?_⟩
 .cases e1:ρ v with
  |none=>exact(hd.use n).2 (j5 ⟨v,e1,q⟩)|some n'=>have:=hd.gC v n' e1;rw[this]at q;injection q with q;subst q;exact hk.run.mono _<|h.use v _ e1
 .cases e1:ρ v with
  |none=>
   have hu:=hd.new v n e1 q1;rw[e,ho.out n hu]at q2;simp[aD]at q2;subst q2;exact hn n hu
  |some n'=>have:=hd.gC v n' e1;rw[this]at q1;injection q1 with q1;subst q1;rw[e]at q2;exact h.loc v _ m e1 q2
def oF.zero Λ s:oF Λ s Qo:=⟨λv n q=> lI,λv n m q=> lI⟩
def oF.ty{s:St}{ρ:Rn}(h:oF Λ s ρ)(ht:∀v,aD v t->ρ v≠none):gH Λ s (sub (via ρ) t):=by
 refine⟨λn hn=>?_,λn hn=>?_⟩
 .have⟨m,c1,c2⟩:=(cu _).1 hn
  cases e:ρ m with
  |none=>grind|some x=>simp[via,e,aD]at c2;subst c2;exact h.use m _ e
 .rw[sub_sub]at hn;have⟨m,c1,c2⟩:=(cu _).1 hn
  cases e:ρ m with
  |none=>grind|some x=>simp only[via,e,qe]at c2;exact h.loc m x n e c2
end In
namespace In
def bC:n∈vars [] t↔aD n t:=by simp[bK]
section
variable {s:St}
def sM(h:Ok s)(hn:∀n,¬s.u n->Λ n){ρ}(hρ:oF Λ s ρ)t:dl (sE t ρ) s λq s'=>Kp Λ s s'/\gH Λ s' q.1/\oF Λ s' q.2:=by
 refine(Kn h hn _ _).and λeG s1⟨k1,d1,e1⟩=>?_;have hr:=hρ.draw h hn k1 d1 e1;exact .ret ⟨k1,hr.ty<|λv hv=>d1.all v<|bC.2 hv,hr⟩
def eS:gH Λ s (.aJ c []):=⟨λn q=>(by simp[aD,bT]at q),λn q=>(by simp[qe,aS,aD,bT]at q)⟩
def tE(ha:gH Λ s a)(hb:gH Λ s b):gH Λ s (.aJ c [a,b]):=by
 refine⟨λn q=>?_,λn q=>?_⟩
 .simp[aD,bT]at q;exact q.elim (ha.use n)<|hb.use n
 .simp[qe,aS,aD,bT]at q;exact q.elim (ha.loc n)<|hb.loc n
def Dn(h:vars [] t=[]):gH Λ s t:=by
 have h0:∀n,¬aD n t:=λn q=>by have:=bC.2 q;rw[h]at this;simp at this
 refine⟨λn q=>absurd q<|h0 n,λn q=>?_⟩;have⟨m,c1,_⟩:=(cu t).1 q;exact absurd c1<|h0 m
def adJ(h:Ok s)(hn:∀n,¬s.u n->Λ n){Γ:Env}(eT:du Λ s Γ)x f t:dl (wY Γ x f t) s λq s'=>Kp Λ s s'/\gH Λ s' q:=by
 rw[wY]
 cases e:Γ x with
 |none=>exact .no|some c=>
  intro a s' q;obtain⟨_,q⟩|⟨_,ρ,s1,q1,q2⟩:=q
  .cases q
  .have⟨k1,d1,e1⟩:=Kn h hn _ _ _ _ q1;injection q2 with q2;injection q2 with q2 q3;subst q2;subst q3;have hc:=eT x c e;have mE:∀v,v∉c.any->ρ v=none:=λv hv=>d1.out v hv;refine⟨k1,λn Mf=>?_,λn Mf=>?_⟩
   .have⟨m,c1,c2⟩:=(cu _).1 Mf;by_cases hm:m∈c.any
    .cases e2:ρ m with
     |none=>exact absurd e2 (d1.all m hm)|some y=>simp[via,e2,aD]at c2;subst c2;exact(d1.use _).2 (j5 ⟨m,rfl,e2⟩)
    .simp[via,mE m hm,aD]at c2;subst c2;exact k1.run.mono _ (h.Cj hc.use c1).1
   .rw[sub_sub,e1]at Mf;have⟨m,c1,c2⟩:=(cu _).1 Mf;by_cases hm:m∈c.any
    .cases e2:ρ m with
     |none=>exact absurd e2 (d1.all m hm)|some y=>
      have hu:=d1.new m y rfl e2;simp only[via,e2,qe,h.out y hu]at c2;simp[aD]at c2;subst c2;exact hn _ hu
    .simp only[via,mE m hm,qe,(h.Cj hc.use c1).2]at c2;simp[aD]at c2;subst c2;exact(hc.loc m c1).resolve_left hm
end
def AD(p:PM):=∀(g:Env)(s:St)(Λ:Nat->Prop),Ok s->(∀n,¬s.u n->Λ n)->du Λ s g->dl (p g) s λq s'=>Kp Λ s s'/\gH Λ s' q.1/\du Λ s' q.2
def nF(p:EM):=∀(Γ:Env)(s:St)(Λ:Nat->Prop),Ok s->(∀n,¬s.u n->Λ n)->du Λ s Γ->dl (p Γ) s λt s'=>Kp Λ s s'/\gH Λ s' t
def ym{p:Prop}(h:p:=by
 rw[jp,jt hi];exact h _<|jx hi):p:=h
def RQ{p:Prop}(h:p:=by
 rw[jp,ju ae];intro _ _ _ _ _ _;exact .no):p:=h
def afg{ps}(h:∀p∈ps,AD p)i:AD (dv ps i):=by
 rw[dv];by_cases hi:i<ps.length
 .exact ym
 .exact RQ
def aaH{ps}(h:∀p∈ps,nF p)i:nF (dv ps i):=by
 rw[dv];by_cases hi:i<ps.length
 .exact ym
 .exact RQ
def Ko:∀(tk:List Ty)(L:List Nd)(ps:List PM),(∀p∈ps,AD p)->∀(g:Env)(ρ:Rn)(s:St)(Λ:Nat->Prop),Ok s->(∀n,¬s.u n->Λ n)->du Λ s g->oF Λ s ρ->dl (nD tk L ps g ρ) s λq s'=>Kp Λ s s'/\du Λ s' q.1/\oF Λ s' q.2
 |u::tk,x::L,p::ps,hp,g,ρ,s,Λ,h,hn,hg,hρ=>by
  rw[nD];refine(hp p ag g s Λ h hn hg).and λq s1⟨k1,t1,g1⟩=>?_;refine(sM k1.ok k1.new (hρ.run k1.run) u).and λi s2⟨k2,t2,r2⟩=>?_;refine(gZ k2.ok k2.new (t1.run k2.run) t2 _ _).and λ_ s3⟨k3,_⟩=>?_;refine(Ko tk L ps (λp h=>hp p<|by simp[h]) q.2 i.2 s3 Λ k3.ok k3.new ((g1.run k2.run).run k3.run)<|r2.run k3.run).imp λ_ s4⟨k4,r4⟩=>?_;exact⟨((k1.trans k2).trans k3).trans k4,r4⟩
 |[],_,_,_,g,ρ,s,Λ,h,hn,hg,hρ=>.ret ⟨.refl h hn,hg,hρ⟩|_::_,[],_,_,g,ρ,s,Λ,h,hn,hg,hρ=>.ret ⟨.refl h hn,hg,hρ⟩|_::_,_::_,[],_,g,ρ,s,Λ,h,hn,hg,hρ=>.ret ⟨.refl h hn,hg,hρ⟩
def Vb mk k x L ps(hp:∀p∈ps,AD p):AD (Bv mk k x L ps):=by
 intro g s Λ h hn hg;rw[Bv];split
 .exact(kV h hn).and λv s1⟨k1,t1,_⟩=>.ret ⟨k1,t1,hg.run k1.run⟩
 split
 .exact(kV h hn).and λv s1⟨k1,t1,_⟩=>.ret ⟨k1,t1,(hg.run k1.run).set _ t1.mono⟩
 split
 .exact .ret ⟨.refl h hn,eS,hg⟩
 split
 .exact .ret ⟨.refl h hn,eS,hg⟩
 split
 .exact .ret ⟨.refl h hn,eS,hg⟩
 split
 .refine(afg hp 0 g s Λ h hn hg).and λa s1⟨k1,t1,g1⟩=>?_;refine(afg hp 1 _ s1 Λ k1.ok k1.new g1).and λb s2⟨k2,t2,g2⟩=>?_;exact .ret ⟨k1.trans k2,tE (t1.run k2.run) t2,g2⟩
 cases mk x with
 |none=>exact .no|some p=>
  refine(Ko p.1 L ps hp g Qo s Λ h hn hg<|.zero _ _).and λq s1⟨k1,g1,r1⟩=>?_;refine(sM k1.ok k1.new r1 p.2).and λi s2⟨k2,t2,_⟩=>?_;exact .ret ⟨k1.trans k2,t2,g1.run k2.run⟩
mutual
def uA(mk:Mks):∀nd,AD<|dY mk nd
 |.mk k s n L f t a=>Vb mk k s L _<|AE mk L
def AE(mk:Mks):∀L,∀p∈l7 mk L,AD p
 |[],p,h=>by simp[l7]at h|x::l,p,h=>by
  simp only[l7,jq]at h;obtain rfl|h:=h
  .exact uA mk x
  .exact AE mk l p h
end
def Kq(mk:Mks):∀(L:List Nd)(ps:List EM),(∀p∈ps,nF p)->∀(Γ:Env)(t r:Ty)(s:St)(Λ:Nat->Prop),Ok s->(∀n,¬s.u n->Λ n)->du Λ s Γ->gH Λ s t->gH Λ s r->dl (kS mk Γ t r L ps) s λ_ s'=>Kp Λ s s'
 |p::e::L,_::pe::ps,hp,Γ,t,r,s,Λ,h,hn,eT,ht,hr=>by
  rw[kS];refine(uA mk p _ s Λ h hn<|.none _ _).and λq s1⟨k1,t1,g1⟩=>?_;refine(gZ k1.ok k1.new (ht.run k1.run) t1 _ _).and λ_ s2⟨k2,_⟩=>?_;have k12:=k1.trans k2;refine(hp pe ag _ s2 Λ k2.ok k2.new<|(g1.run k2.run).over<|eT.run k12.run).and λu s3⟨k3,t3⟩=>?_;have k13:=k12.trans k3;refine(gZ k3.ok k3.new (hr.run k13.run) t3 _ _).and λ_ s4⟨k4,_⟩=>?_;have k14:=k13.trans k4;exact(Kq mk L ps (λp h=>hp p<|by simp[h]) Γ t r s4 Λ k4.ok k4.new (eT.run k14.run) (ht.run k14.run)<|hr.run k14.run).imp λ_ s5 k5=>k14.trans k5
 |[],_,_,_,_,_,s,Λ,h,hn,_,_,_=>.ret (.refl h hn)|[_],_,_,_,_,_,s,Λ,h,hn,_,_,_=>.ret (.refl h hn)|_::_::_,[],_,_,_,_,s,Λ,h,hn,_,_,_=>.ret (.refl h hn)|_::_::_,[_],_,_,_,_,s,Λ,h,hn,_,_,_=>.ret<|.refl h hn
def iq rc x e{pe:EM}(hp:nF pe):nF (cy rc x e pe):=by
 intro Γ s Λ h hn eT;rw[cy];split
 .refine(kV h hn).and λv s1⟨k1,t1,_⟩=>?_;refine(hp _ s1 Λ k1.ok k1.new<|(eT.run k1.run).set _ t1.mono).and λt s2⟨k2,t2⟩=>?_;refine(gZ k2.ok k2.new (t1.run k2.run) t2 _ _).and λ_ s3⟨k3,_⟩=>?_;exact .ret ⟨(k1.trans k2).trans k3,t2.run k3.run⟩
 .exact hp Γ s Λ h hn eT
def less(Λ:Nat->Prop)(l:List Nat):Nat->Prop:=λn=>Λ n/\n∉l
section
variable {s:St}
def RS{Γ:Env}{k}{v}(h:n∈(kR Γ k t v).any):aD n (sub k t)/\¬B_ Γ k n:=by
 rw[kR]at h
 cases v with
 |false=>simp at h|true=>simp[ys]at h;exact⟨bC.1 h.1,h.2⟩
def QN(h:Ok s)(hn:∀n,¬s.u n->Λ n){Γ:Env}(eT:du Λ s Γ)(ht:gH Λ s t)(rc:Bool)x v:
 du (less Λ (kR (if rc then qJ Γ x else Γ) s.k t v).any) s (gD Γ x<|kR (if rc then qJ Γ x else Γ) s.k t v)/\∀n,¬s.u n->less Λ (kR (if rc then qJ Γ x else Γ) s.k t v).any n:=by
 have hA:∀n,n∈(kR (if rc then qJ Γ x else Γ) s.k t v).any->aD n (sub s.k t)/\¬B_ (if rc then qJ Γ x else Γ) s.k n:=λn q=>RS q;have hof:(kR (if rc then qJ Γ x else Γ) s.k t v).of=sub s.k t:=rfl;generalize kR (if rc then qJ Γ x else Γ) s.k t v=S at hA hof⊢;obtain⟨T,A⟩:=S;simp only at hA hof⊢;subst hof;refine⟨λy c e=>?_,λn q=>⟨hn n q,λq'=>q (h.Cj ht.use (hA n q').1).1⟩⟩;rw[gD]at e;split at e
 .injection e with e;subst e;refine⟨λn q=>(h.Cj ht.use q).1,λn q=>?_,λn q=>⟨(h.Cj ht.use (hA n q).1).2,λq'=>q'.2 q⟩,λn q=>(hA n q).1⟩;by_cases hm:n∈A
  .exact j3 hm
  .have q:=q;rw[h.vY]at q;exact j5 ⟨ht.loc n q,hm⟩
 .rename_i hyx;have hc:=eT y c e;refine⟨hc.use,λn q=>?_,λn q=>⟨(hc.fix n q).1,λq'=>(hc.fix n q).2 q'.1⟩,hc.sub⟩;by_cases hm:n∈c.any
  .exact j3 hm
  .refine j5 ⟨(hc.loc n q).resolve_left hm,λq'=>(hA n q').2 ⟨y,c,?_,q,hm⟩⟩
   cases rc with
   |true=>simp only[if_true];rw[qJ];rw[if_neg hyx];exact e|false=>exact e
def Dp rc x e{pe pf:EM}(hp:nF pe)(hf:nF pf):nF (qS rc x e pe pf):=by
 intro Γ s Λ h hn eT;rw[qS];refine(iq rc x e hp Γ s Λ h hn eT).and λt s1⟨k1,t1⟩=>?_;have⟨hE,hN⟩:=QN k1.ok k1.new (eT.run k1.run) t1 rc x<|H9 e;refine dl.imp (hf _ s1 _ k1.ok hN hE) λu s2⟨k2,t2⟩=>?_;exact⟨k1.trans ⟨k2.ok,λn q=>(k2.new n q).1,k2.run.wide λn q=>q.1⟩,t2.use,λn q=>(t2.loc n q).1⟩
end
def db{c:Prop}[Decidable c]{m m'}{s:St}{Q:α->St->Prop}(h:c->dl m s Q)(k:¬c->dl m' s Q):dl (if c then m else m') s Q:=yG
def Vc mk k x L f t ps(hp:∀p∈ps,nF p):nF (oB mk k x L f t ps):=by
 intro Γ s Λ h hn eT;have h0:=aaH hp 0;have h1:=aaH hp 1;have h2:=aaH hp 2;rw[oB];refine db (λ_=>?_) λ_=>?_
 .exact adJ h hn eT _ _ _
 refine db (λ_=>?_) λ_=>?_
 .rw[upM]
  cases mk x with
  |none=>exact .no|some p=>exact(sM h hn (.zero _ _) _).and λq s1⟨k1,t1,_⟩=>.ret ⟨k1,t1⟩
 refine db (λ_=>?_) λ_=>?_
 .exact .ret ⟨.refl h hn,eS⟩
 refine db (λ_=>?_) λ_=>?_
 .exact .ret ⟨.refl h hn,eS⟩
 refine db (λ_=>?_) λ_=>?_
 .exact .ret ⟨.refl h hn,eS⟩
 refine db (λ_=>?_) λ_=>?_
 .refine(h0 Γ s Λ h hn eT).and λa s1⟨k1,t1⟩=>?_;refine(h1 Γ s1 Λ k1.ok k1.new<|eT.run k1.run).and λb s2⟨k2,t2⟩=>?_;exact .ret ⟨k1.trans k2,tE (t1.run k2.run) t2⟩
 refine db (λ_=>?_) λ_=>?_
 .split
  .rename_i hs;refine(h0 Γ s Λ h hn eT).and λa s1⟨k1,t1⟩=>?_;refine(gZ k1.ok k1.new t1 (Dn hs) _ _).and λ_ s2⟨k2,_⟩=>?_;exact .ret ⟨k1.trans k2,Dn hs⟩
  .exact .no
 refine db (λ_=>?_) λ_=>?_
 .refine(h0 Γ s Λ h hn eT).and λa s1⟨k1,t1⟩=>?_;refine(gZ k1.ok k1.new t1 eS _ _).and λ_ s2⟨k2,_⟩=>?_;have k12:=k1.trans k2;refine(h1 Γ s2 Λ k2.ok k2.new<|eT.run k12.run).and λb s3⟨k3,t3⟩=>?_;refine(gZ k3.ok k3.new t3 eS _ _).and λ_ s4⟨k4,_⟩=>?_;refine .ret ⟨(k12.trans k3).trans k4,?_⟩;split<;>exact eS
 refine db (λ_=>?_) λ_=>?_
 .refine(h0 Γ s Λ h hn eT).and λa s1⟨k1,t1⟩=>?_;refine(h1 Γ s1 Λ k1.ok k1.new<|eT.run k1.run).and λb s2⟨k2,t2⟩=>?_;refine(kV k2.ok k2.new).and λv s3⟨k3,t3,_⟩=>?_;refine(gZ k3.ok k3.new ((t1.run k2.run).run k3.run) (tE (t2.run k3.run) t3) _ _).and λ_ s4⟨k4,_⟩=>?_;exact .ret ⟨((k1.trans k2).trans k3).trans k4,t3.run k4.run⟩
 refine db (λ_=>?_) λ_=>?_
 .refine(kV h hn).and λv s1⟨k1,t1,_⟩=>?_;refine(h0 _ s1 Λ k1.ok k1.new<|(eT.run k1.run).set _ t1.mono).and λa s2⟨k2,t2⟩=>?_;exact .ret ⟨k1.trans k2,tE (t1.run k2.run) t2⟩
 refine db (λ_=>?_) λ_=>?_
 .exact Dp _ _ _ h0 h1 Γ s Λ h hn eT
 refine db (λ_=>?_) λ_=>?_
 .exact Dp _ _ _ h0 h1 Γ s Λ h hn eT
 refine db (λ_=>?_) λ_=>?_
 .refine(h0 Γ s Λ h hn eT).and λa s1⟨k1,t1⟩=>?_;refine(gZ k1.ok k1.new t1 eS _ _).and λ_ s2⟨k2,_⟩=>?_;have k12:=k1.trans k2;refine(h1 Γ s2 Λ k2.ok k2.new<|eT.run k12.run).and λb s3⟨k3,t3⟩=>?_;have k13:=k12.trans k3;refine(h2 Γ s3 Λ k3.ok k3.new<|eT.run k13.run).and λc s4⟨k4,t4⟩=>?_;refine(gZ k4.ok k4.new (t3.run k4.run) t4 _ _).and λ_ s5⟨k5,_⟩=>?_;exact .ret ⟨(k13.trans k4).trans k5,(t3.run k4.run).run k5.run⟩
 refine db (λ_=>?_) λ_=>?_
 .refine(h0 Γ s Λ h hn eT).and λa s1⟨k1,t1⟩=>?_;refine(kV k1.ok k1.new).and λv s2⟨k2,t2,_⟩=>?_;have k12:=k1.trans k2;refine(Kq mk L.tail ps.tail (λp h=>hp p<|List.mem_of_mem_tail h) Γ a _ s2 Λ k2.ok k2.new (eT.run k12.run) (t1.run k2.run) t2).and λ_ s3 k3=>?_;exact .ret ⟨k12.trans k3,t2.run k3.run⟩
 .exact .no
mutual
def lU(mk:Mks):∀nd,nF<|inf mk nd
 |.mk k s n L f t a=>Vc mk k s L f t _<|Dq mk L
def Dq(mk:Mks):∀L,∀p∈dZ mk L,nF p
 |[],p,h=>by simp[dZ]at h|x::l,p,h=>by
  simp only[dZ,jq]at h;obtain rfl|h:=h
  .exact lU mk x
  .exact Dq mk l p h
end
end In
namespace In
structure Rel(D:Nat->Prop)(ρ:Nat->Nat)(s s':St):Prop where
 live:∀n,D n->s.u n->s.k n=.var n->s'.u (ρ n)/\s'.k (ρ n)=.var (ρ n)
 inj:∀m n,D m->D n->s.u m->s.k m=.var m->s.u n->s.k n=.var n->ρ m=ρ n->m=n
section
variable {ρ2:Nat->Nat} {s s' s1 s1' s2 s2':St}
def Kp.fix(k:Kp Λ s s1)(h:s.k n=.var n)(hn:¬Λ n):s1.k n=.var n:=by
 have⟨θ,a1,a2,_⟩:=k.run.step;rw[a1,h,qe,a2 n hn]
end
structure amw(D Λ Λ':Nat->Prop)ρ s s':Prop where
 dom:∀n,Λ n->D n
 ok:Ok s
 new:∀n,¬s.u n->Λ n
 ok':Ok s'
 amx:∀n,¬s'.u n->Λ' n
 rel:Rel D ρ s s'
end In
namespace In
end In
namespace In
end In
namespace In
def nxt(rs:Bool)(s:St):St:=⟨if rs then Ty.var else s.k,s.u⟩
def Kr(rs:Bool):List Dc->Mks->Env->St->List (BA×Ty)->Option Ft->Prop
 |[],_,_,_,B,F=>B=[]/\F=none|.ty t vs ms::r,mk,Γ,s0,B,F=>Kr rs r (wi t vs ms mk) Γ s0 B F
 |.lt rc t b::r,mk,Γ,s0,B,F=>∃o,cy rc t.text b (inf mk b) Γ s0 o/\match o with
  |.error x=>B=[]/\F=some x
  |.ok (a,s)=>(48<size (sub s.k a)/\B=[]/\F=some (rK t.al t.to))\/
   (size (sub s.k a)<=48/\∃T B',T=(if H9 b then sub s.k a else og (sub s.k a))/\B=(t.text,T)::B'/\Kr rs r mk (gD Γ t.text ⟨T,vars [] T⟩) (nxt rs s) B' F)
def H_ u:Ok ⟨Ty.var,u⟩:=⟨λ_ _=>rfl,λv n q1 q2=>by simp[aD]at q2;subst q2;exact q1,λv n q=>by simp[aD]at q;subst q;rfl⟩
def Top(s:St)(Γ:Env):=∀y c,Γ y=some c->c.any=vars [] c.of/\∀v,v∈c.any->s.u v/\s.k v=.var v
def Top.fix{s:St}{Γ:Env}(h:Top s Γ){y}{c}(q:Γ y=some c):sub s.k c.of=c.of:=pE λn hn=>((h y c q).2 n (by rw[(h y c q).1];exact bC.2 hn)).2
def Top.env{s:St}{Γ:Env}(h:Top s Γ):du (λn=>¬s.u n) s Γ:=λy c q=>by
 have⟨h1,h2⟩:=h y c q;refine⟨λn hn=>(h2 n (by rw[h1];exact bC.2 hn)).1,λn hn=>j3 ?_,λv hv=>⟨(h2 v hv).2,λq=>q (h2 v hv).1⟩,λv hv=>by rw[h1]at hv;exact bC.1 hv⟩;rw[h1];rw[h.fix q]at hn;exact bC.2 hn
end In
namespace In
open Classical in
mutual
noncomputable def trim:Ty->Ty
 |.var n=>.var n|.aJ c l=>if VZ c l.length then .aJ c (Dr l)else .var 0
noncomputable def Dr:List Ty->List Ty
 |[]=>[]|t::l=>trim t::Dr l
end
def Ds(σ:Nat->Ty):∀l,(aS σ l).length=l.length
 |[]=>rfl|t::l=>by simp[aS,Ds σ l]
mutual
def AF{θ:Nat->Ty}:∀t,Wf t->trim (sub θ t)=sub (λv=>trim<|θ v) t
 |.var n,_=>rfl|.aJ c l,h=>by
  simp only[sub,trim];rw[if_pos (by rw[Ds];exact h.1),Dt l h.2]
def Dt{θ:Nat->Ty}:∀l,zX l->Dr (aS θ l)=aS (λv=>trim<|θ v) l
 |[],_=>rfl|t::l,h=>by simp only[aS,Dr];rw[AF t h.1,Dt l h.2]
end
mutual
def RT{σ:Nat->Ty}:∀t,sub σ t=trim t->Wf t
 |.var n,_=>trivial|.aJ c l,h=>by
  simp only[sub,trim]at h;by_cases q:VZ c l.length
  .rw[if_pos q]at h;injection h with _ h;exact⟨q,Ks l h⟩
  .rw[if_neg q]at h;cases h
def Ks{σ:Nat->Ty}:∀l,aS σ l=Dr l->zX l
 |[],_=>trivial|t::l,h=>by
  simp only[aS,Dr]at h;injection h with h1 h2;exact⟨RT t h1,Ks l h2⟩
end
def Bt.wf(h:Bt θ a b)(ha:Wf a)(hb:Wf b)v:Wf (θ v):=by
 refine RT _<|h.gen (λv=>trim<|θ v) ?_ v;rw[<-AF a ha,<-AF b hb,h.one]
def kC n:Wf (.var n):=trivial
theorem nk(h:Wf t)(k:∀n,Wf<|σ n):Wf (sub σ t):=Wf.BT t h λn _=>k n
def FtF(z:Ft):Prop:=z.f.kind=6->(Wf z.l/\size z.l<=48)/\Wf z.r/\size z.r<=48
def KF(s:St):=∀n,Wf<|s.k n
def EF(Γ:Env):=∀y c,Γ y=some c->Wf c.of
def MF(mk:Mks):=∀x tk m,mk x=some (tk,m)->zX tk/\Wf m
def Hf{α:Type}(m:MM α)s(Q:α->Prop):=∀o,m s o->match o with
 |.ok (a,s')=>Q a/\KF s'|.error z=>FtF z
section
variable {s:St}
def Hf.ret{a}{Q:α->Prop}(h:Q a)(k:KF s):Hf (cT a) s Q:=by grind[KF,Hf,cT]
def Hf.and{m}{g}{Q:α->Prop}{R:β->Prop}(h:Hf m s Q)(k:∀a s',Q a->KF s'->Hf (g a) s' R):Hf (andM m g) s R:=by grind[Hf,KF,andM]
def Hf.no{Q:α->Prop}:Hf noM s Q:=λ_ q=>q.elim
def Hf.ite{c:Prop}[Decidable c]{m m'}{Q:α->Prop}(h:c->Hf m s Q)(k:¬c->Hf m' s Q):Hf (if c then m else m') s Q:=yG
def yn f t:FtF (rK f t):=λh=>Mn
def u7(k:KF s):Hf kM s λ_=>True:=by simp_all[KF,Hf,kM]
def qI(k:KF s)(ha:Wf a)(hb:Wf b)f t:Hf (ub a b f t) s λ_=>True:=λo q=>by
 have h1:=nk ha k;have h2:=nk hb k;obtain⟨_,rfl⟩|⟨z1,z2,⟨θ,hm,rfl⟩|⟨_,rfl⟩⟩:=q
 .exact yn f t
 .exact⟨trivial,λn=>nk (k n)<|hm.wf h1 h2⟩
 .exact λ_=>⟨⟨h1,z1⟩,h2,z2⟩
def RU(k:KF s)l ρ:Hf (sK l ρ) s λ_=>True:=by simp_all[KF,Hf,sK]
def aaI ρ(h:Wf t):Wf (sub (via ρ) t):=by grind[Wf,sub,via,nk]
def Fu(k:KF s)(h:Wf t)ρ:Hf (sE t ρ) s λq=>Wf q.1:=(RU k _ _).and λeG _ _ k1=>.ret (aaI eG h) k1
def ahv(k:KF s){Γ:Env}(eT:EF Γ)x f t:Hf (wY Γ x f t) s Wf:=by
 rw[wY]
 cases hx:Γ x with
 |none=>exact .no|some c=>
  rintro o(⟨_,rfl⟩|⟨_,ρ,s',hd,rfl⟩)
  .exact yn f t
  .exact⟨aaI ρ<|nk (eT x c hx) k,(RU k _ _ _ hd).2⟩
def ahw{tk}{m}(h:zX tk)(k:Wf m):Wf (arr tk m):=by
 induction tk with
 |nil=>exact k|cons t tk ih=>exact⟨⟨aK,λ_=>rfl,.inl rfl⟩,h.1,ih h.2,trivial⟩
def AG:Wf iy:=⟨⟨aK,λe=>(by obtain e|e:=e<;>exact absurd e aK),.inr<|.inr ⟨_,_,toList_mk _,aK,aK⟩⟩,trivial⟩
def yo:Wf oE:=⟨⟨aK,λe=>(by obtain e|e:=e<;>exact absurd e aK),.inr<|.inr ⟨_,_,toList_mk _,aK,aK⟩⟩,trivial⟩
def Fw:Wf sN:=⟨⟨aK,λe=>(by obtain e|e:=e<;>exact absurd e aK),.inr<|.inr ⟨_,_,toList_mk _,aK,aK⟩⟩,trivial⟩
def afh(ha:Wf a)(hb:Wf b):Wf (nQ a b):=⟨⟨aK,λ_=>rfl,.inl rfl⟩,ha,hb,trivial⟩
def afi(ha:Wf a)(hb:Wf b):Wf (tPr a b):=⟨⟨aK,λ_=>rfl,.inr<|.inl rfl⟩,ha,hb,trivial⟩
end
def EF.set{Γ:Env}(h:EF Γ)x{c}(hc:Wf c.of):EF (gD Γ x c):=λy d q=>by
 rw[gD]at q;split at q
 .grind
 .exact h y d q
theorem EF.over{g Γ}(hg:EF g)(h:EF Γ):EF (over g Γ):=by grind[EF,over]
def PF(p:PM):=∀g s,KF s->EF g->Hf (p g) s λq=>Wf q.1/\EF q.2
def XF(p:EM):=∀Γ s,KF s->EF Γ->Hf (p Γ) s Wf
def RX{p:Prop}(h:p:=by
 rw[jp,ju ae];intro _ _ _ _;exact .no):p:=h
def aaJ{ps}(h:∀p∈ps,PF p)i:PF (dv ps i):=by
 rw[dv];by_cases hi:i<ps.length
 .exact ym
 .exact RX
def Ot{ps}(h:∀p∈ps,XF p)i:XF (dv ps i):=by
 rw[dv];by_cases hi:i<ps.length
 .exact ym
 .exact RX
def RY:∀(tk:List Ty)(L:List Nd)(ps:List PM),zX tk->(∀p∈ps,PF p)->∀(g:Env)(ρ:Rn)(s:St),KF s->EF g->Hf (nD tk L ps g ρ) s λq=>EF q.1
 |u::tk,x::L,p::ps,hw,hp,g,ρ,s,k,hg=>by
  rw[nD];refine(hp p ag g s k hg).and λq s1⟨t1,g1⟩k1=>?_;refine(Fu k1 hw.1 ρ).and λi s2 t2 k2=>?_;refine(qI k2 t1 t2 _ _).and λ_ s3 _ k3=>?_;exact RY tk L ps hw.2 (λp h=>hp p<|by simp[h]) q.2 i.2 s3 k3 g1
 |[],_,_,_,_,g,ρ,s,k,hg=>.ret hg k|_::_,[],_,_,_,g,ρ,s,k,hg=>.ret hg k|_::_,_::_,[],_,_,g,ρ,s,k,hg=>.ret hg k
def ahx{mk:Mks}(hm:MF mk)k x L ps(hp:∀p∈ps,PF p):PF (Bv mk k x L ps):=by
 intro g s h hg;rw[Bv];split
 .exact(u7 h).and λv s1 _ k1=>.ret ⟨trivial,hg⟩ k1
 split
 .exact(u7 h).and λv s1 _ k1=>.ret ⟨trivial,hg.set _ trivial⟩ k1
 split
 .exact .ret ⟨AG,hg⟩ h
 split
 .exact .ret ⟨yo,hg⟩ h
 split
 .exact .ret ⟨Fw,hg⟩ h
 split
 .refine(aaJ hp 0 g s h hg).and λa s1⟨t1,g1⟩k1=>?_;refine(aaJ hp 1 _ s1 k1 g1).and λb s2⟨t2,g2⟩k2=>?_;exact .ret ⟨afi t1 t2,g2⟩ k2
 cases e:mk x with
 |none=>exact .no|some p=>
  obtain⟨tk,m⟩:=p;have⟨w1,w2⟩:=hm x tk m e;refine(RY tk L ps w1 hp g Qo s h hg).and λq s1 g1 k1=>?_;refine(Fu k1 w2 q.2).and λi s2 t2 k2=>?_;exact .ret ⟨t2,g1⟩ k2
mutual
def aaK{mk:Mks}(hm:MF mk):∀nd,PF<|dY mk nd
 |.mk k s n L f t a=>ahx hm k s L _<|RZ hm L
def RZ{mk:Mks}(hm:MF mk):∀L,∀p∈l7 mk L,PF p
 |[],p,h=>by simp[l7]at h|x::l,p,h=>by
  simp only[l7,jq]at h;obtain rfl|h:=h
  .exact aaK hm x
  .exact RZ hm l p h
end
def R7{mk:Mks}(hm:MF mk):∀(L:List Nd)(ps:List EM),(∀p∈ps,XF p)->∀(Γ:Env)(t r:Ty)(s:St),KF s->EF Γ->Wf t->Wf r->Hf (kS mk Γ t r L ps) s λ_=>True
 |p::e::L,_::pe::ps,hp,Γ,t,r,s,h,eT,ht,hr=>by
  rw[kS];refine(aaK hm p _ s h<|λ_ _ q=> lI).and λq s1⟨t1,g1⟩k1=>?_;refine(qI k1 ht t1 _ _).and λ_ s2 _ k2=>?_;refine(hp pe ag _ s2 k2<|g1.over eT).and λu s3 t3 k3=>?_;refine(qI k3 hr t3 _ _).and λ_ s4 _ k4=>?_;exact R7 hm L ps (λp h=>hp p<|by simp[h]) Γ t r s4 k4 eT ht hr
 |[],_,_,_,_,_,s,h,_,_,_=>.ret trivial h|[_],_,_,_,_,_,s,h,_,_,_=>.ret trivial h|_::_::_,[],_,_,_,_,s,h,_,_,_=>.ret trivial h|_::_::_,[_],_,_,_,_,s,h,_,_,_=>.ret trivial h
def AH rc x e{pe:EM}(hp:XF pe):XF (cy rc x e pe):=by
 intro Γ s h eT;rw[cy]
 cases rc with
 |false=>exact hp Γ s h eT|true=>
  refine(u7 h).and λv s1 _ k1=>?_;refine(hp _ s1 k1<|eT.set x (c:=mono<|.var v)<|kC v).and λt s2 t2 k2=>?_;exact(qI k2 (kC v) t2 _ _).and λ_ s3 _ k3=>.ret t2 k3
def aaL rc x e{pe pf:EM}(hp:XF pe)(hf:XF pf):XF (qS rc x e pe pf):=by
 intro Γ s h eT;refine(AH rc x e hp Γ s h eT).and λt s1 t1 k1=>?_;exact hf _ s1 k1<|eT.set x<|nk t1 k1
def ahy{mk:Mks}(hm:MF mk)k x L f t ps(hp:∀p∈ps,XF p)(hL:k=14->Wf (aH []<|es<|iU L 1).1):XF (oB mk k x L f t ps):=by
 intro Γ s h eT;have h0:=Ot hp 0;have h1:=Ot hp 1;have h2:=Ot hp 2;rw[oB];refine .ite (λ_=>?_) λ_=>?_
 .exact ahv h eT _ _ _
 refine .ite (λ_=>?_) λ_=>?_
 .rw[upM]
  cases e:mk x with
  |none=>exact .no|some p=>
   obtain⟨tk,m⟩:=p;have⟨w1,w2⟩:=hm x tk m e;exact(Fu h (ahw w1 w2) Qo).and λq s1 t1 k1=>.ret t1 k1
 refine .ite (λ_=>?_) λ_=>?_
 .exact .ret AG h
 refine .ite (λ_=>?_) λ_=>?_
 .exact .ret yo h
 refine .ite (λ_=>?_) λ_=>?_
 .exact .ret Fw h
 refine .ite (λ_=>?_) λ_=>?_
 .refine(h0 Γ s h eT).and λa s1 t1 k1=>?_;exact(h1 Γ s1 k1 eT).and λb s2 t2 k2=>.ret (afi t1 t2) k2
 refine .ite (λe=>?_) λ_=>?_
 .refine .ite (λ_=>?_) λ_=>.no;refine(h0 Γ s h eT).and λa s1 t1 k1=>?_;exact(qI k1 t1 (hL e) _ _).and λ_ s2 _ k2=>.ret (hL e) k2
 refine .ite (λ_=>?_) λ_=>?_
 .refine(h0 Γ s h eT).and λa s1 t1 k1=>?_;refine(qI k1 t1 AG _ _).and λ_ s2 _ k2=>?_;refine(h1 Γ s2 k2 eT).and λb s3 t3 k3=>?_;refine(qI k3 t3 AG _ _).and λ_ s4 _ k4=>.ret ?_ k4;split
  .exact yo
  .exact AG
 refine .ite (λ_=>?_) λ_=>?_
 .refine(h0 Γ s h eT).and λa s1 t1 k1=>?_;refine(h1 Γ s1 k1 eT).and λb s2 t2 k2=>?_;refine(u7 k2).and λv s3 _ k3=>?_;exact(qI k3 t1 (afh t2<|kC v) _ _).and λ_ s4 _ k4=>.ret (kC v) k4
 refine .ite (λ_=>?_) λ_=>?_
 .refine(u7 h).and λv s1 _ k1=>?_;exact(h0 _ s1 k1<|eT.set _ (c:=mono<|.var v)<|kC v).and λa s2 t2 k2=>.ret (afh (kC v) t2) k2
 refine .ite (λ_=>?_) λ_=>?_
 .exact aaL _ _ _ h0 h1 Γ s h eT
 refine .ite (λ_=>?_) λ_=>?_
 .exact aaL _ _ _ h0 h1 Γ s h eT
 refine .ite (λ_=>?_) λ_=>?_
 .refine(h0 Γ s h eT).and λa s1 t1 k1=>?_;refine(qI k1 t1 yo _ _).and λ_ s2 _ k2=>?_;refine(h1 Γ s2 k2 eT).and λb s3 t3 k3=>?_;refine(h2 Γ s3 k3 eT).and λc s4 t4 k4=>?_;exact(qI k4 t3 t4 _ _).and λ_ s5 _ k5=>.ret t3 k5
 refine .ite (λ_=>?_) λ_=>?_
 .refine(h0 Γ s h eT).and λa s1 t1 k1=>?_;refine(u7 k1).and λv s2 _ k2=>?_;exact(R7 hm L.tail ps.tail (λp h=>hp p<|List.mem_of_mem_tail h) Γ a _ s2 k2 eT t1<|kC v).and λ_ s3 _ k3=>.ret (kC v) k3
 .exact .no
mutual
def NW:Nd->Prop
 |.mk k _ _ L _ _ _=>(k=14->Wf (aH []<|es<|iU L 1).1)/\NWL L
def NWL:List Nd->Prop
 |[]=>True|x::l=>NW x/\NWL l
end
mutual
def aaM{mk:Mks}(hm:MF mk):∀nd,NW nd->XF (inf mk nd)
 |.mk k s n L f t a,h=>ahy hm k s L f t _ (aaN hm L h.2) h.1
def aaN{mk:Mks}(hm:MF mk):∀L,NWL L->∀p∈dZ mk L,XF p
 |[],_,p,h=>by simp[dZ]at h|x::l,hn,p,h=>by
  simp only[dZ,jq]at h;obtain rfl|h:=h
  .exact aaM hm x hn.1
  .exact aaN hm l hn.2 p h
end
end In
def BH(a b:BA)(z:List UInt8)(ok:Bool)(f:Fl):Prop:=
 match eK a with
 |.error f'=>z=[]/\ok=false/\f=f'
 |.ok na=>if 48<size (aH [] na).1 then z=[]/\ok=false/\f=⟨7,0,a.size⟩else
  match eK b with
  |.error f'=>z=[]/\ok=false/\f=f'
  |.ok nb=>if 48<size (aH (aH [] na).2 nb).1 then z=[]/\ok=false/\f=⟨7,0,b.size⟩else
   (∃T,Mgu (aH [] na).1 (aH (aH [] na).2 nb).1 T/\((48<size T/\z=[]/\ok=false/\f=⟨7,0,0⟩)\/(¬48<size T/\z=Un.written dec T/\ok=true/\f=dx)))\/
   ((∀σ,sub σ (aH [] na).1≠sub σ (aH (aH [] na).2 nb).1)/\z=[]/\ok=false/\f=dx)
mutual
def Ev:∀(nd:Nd)(ns:List BA),aH ns (er nd)=aH ns nd
 |.mk k s n L f t a,ns=>by simp only[er,aH,Kt L ns]
def Kt:∀(l:List Nd)(ns:List BA),aA ns (Uc l)=aA ns l
 |[],ns=>rfl|x::l,ns=>by simp only[Uc,aA,Ev x ns,Kt l]
end
mutual
def nm(M:List BA):Nd->Ty
 |.mk k s _ L _ _ _=>if k=16 then .var (ix s M+1)else .aJ (fy k s) (nmL M L)
def nmL(M:List BA):List Nd->List Ty
 |[]=>[]|x::l=>nm M x::nmL M l
end
def aaO{s:BA}:∀{a b:List BA},a<+:b->s∈a->ix s b=ix s a
 |[],b,h,hs=>by simp at hs|x::a,b,h,hs=>by
   obtain⟨r,rfl⟩:=h;simp only[jy,ix];split
   .rfl
   .rename_i ne;obtain e|hs:=List.mem_cons.1 hs
    .exact absurd (by rw[e]) ne
    .rw[aaO (List.prefix_append a r) hs]
def tr(M1 M2:List BA)i:=ix (M1.getD (i-1) ⟨#[]⟩) M2+1
def acY(c:BA):Bool:=match c.toList with
 |[]=>false|x::r=>jh x.toNat&&r.all λy=>jc y.toNat
def okC(c:BA)(n:Nat):Bool:=if c=nB then n==2 else if c=lj then n==2 else acY c
mutual
def Good:Ty->Prop
 |.var _=>True|.aJ c l=>okC c l.length=true/\QS l
def QS:List Ty->Prop
 |[]=>True|t::l=>Good t/\QS l
end
def R8 n:jc (dg n).toNat=true:=by
 have h:(dg n).toNat=48+n%10:=by simp[dg];omega
 rw[h];have:n%10<10:=Nat.mod_lt _ ae;simp[jc,jm];omega
def aaP n:∀y∈dec n,jc y.toNat=true:=by
 induction n using j8 with
 |_ n ih=>
  rw[dec];split
  .intro y hy;simp at hy;subst hy;exact R8 n
  .intro y hy;obtain hy|hy:=List.mem_append.1 hy
   .grind
   .simp at hy;subst hy;exact R8 n
def ahz(l:List UInt8):Nat:=l.foldl (λa d=>10*a+(d.toNat-48)) 0
def R9 n:ahz (dec n)=n:=by
 induction n using j8 with
 |_ n ih=>
  have h:(dg n).toNat=48+n%10:=by simp[dg];omega
  rw[dec];split
  .simp[ahz,h];omega
  .have:=ih (n/10) ae;rw[ahz]at this⊢;rw[List.foldl_append,this];simp[h];omega
def adK{m}(h:dec m=dec n):m=n:=by rw[<-R9 m,h,R9]
def vn i:=bs (39::118::dec i)
def ahA{a b}(h:bs a=bs b):a=b:=by
 have:=congrArg ByteArray.toList h;rw[bs]at this
 rwa[toList_mk,toList_mk]at this
def ahB{j}(h:vn i=vn j):i=j:=adK (by simpa using ahA h)
def ahC r:jl ⟨(118::r).toArray⟩=false:=by
 rw[jl];rw[toList_mk,List.any_eq_false];intro x hx;have:∀l:List UInt8,l.head? ≠some 118->¬(l==118::r)=true:=λl hl e=>by
  rw[beq_iff_eq]at e;subst e;simp at hl
 simp only[Pu.words,jq,List.not_mem_nil,or_false]at hx;obtain rfl|rfl|rfl|rfl|rfl|rfl|rfl|rfl|rfl|rfl|rfl|rfl|rfl:=hx<;>exact this _ qBe
def aj0 i:Lx true (39::118::dec i) [(3,(vn i).toList)]:=by
 have:(vn i).toList=39::118::dec i:=toList_mk _;rw[this];exact ahp 118 (dec i) aK (aaP i)<|ahC _
def Ku(h:acY c=true):Lx true c.toList [(2,c.toList)]:=by
 rw[acY]at h
 cases e:c.toList with
 |nil=>grind|cons x r=>
  rw[e]at h;simp at h;exact ajY x r h.1 (by simpa using h.2)
mutual
def syW(L:List Nat):Ty->Nd
 |.var n=>acD (vn<|L.idxOf n)|.aJ c l=>if c=nB then .mk 17 fX 0 (xA L l) 0 0 0 else if c=lj then .mk 6 fX 0 (xA L l) 0 0 0 else LJ c (xA L l)
def xA(L:List Nat):List Ty->List Nd
 |[]=>[]|t::l=>syW L t::xA L l
end
def lvl tight:=if tight=0 then 2 else if tight=1 then 1 else 0
def Rd(v:Nat)(l:List UInt8)(t:Nd):=∃p,Lx true l p/\Gr v p t
def Rd.lv{l}{t}(h:Rd 0 l t)tight:Rd (lvl tight) l t:=by
 obtain⟨p,h1,h2⟩:=h;rw[lvl];split
 .exact⟨p,h1,.head h2.up1⟩
 .split
  .exact⟨p,h1,h2.up1⟩
  .exact⟨p,h1,h2⟩
def Rd.par{l}{t}(h:Rd 2 l t):Rd 0 (40::(l++[41])) t:=by
 obtain⟨p,h1,h2⟩:=h;refine⟨IJ::(p++[Eb]),?_,.par h2⟩;have:=(tD 40 ag).rM (h1.rM (tD 41 ag)<|λ_=>⟨41,[],rfl,aK⟩) (λe=>by cases e);exact this.Ep
def Rd.pair{l m}{t u}(h:Rd 2 l t)(k:Rd 2 m u):Rd 0 (40::(l++([44,32]++(m++[41])))) (Yi t u):=by
 obtain⟨p,h1,h2⟩:=h;obtain⟨q,k1,k2⟩:=k;refine⟨_,?_,.pair h2 k2⟩;have e1:=k1.rM (tD 41 ag)<|λ_=>⟨41,[],rfl,aK⟩;have e2:=(tD 44 ag).rM (tC.rM e1<|λe=>by cases e) (λe=>by cases e);have e3:=h1.rM e2<|λ_=>⟨44,_,rfl,aK⟩;have e4:=(tD 40 ag).rM e3 (λe=>by cases e);exact e4.Ep
def Rd.fn{l}{t u}(h:Rd 1 l t)(k:Rd 2 m u):Rd 2 (l++([32,45,62,32]++m)) (sFn t u):=by
 obtain⟨p,h1,h2⟩:=h;obtain⟨q,k1,k2⟩:=k;refine⟨_,?_,.Yj h2 k2⟩;have e1:=tC.rM (aaD.rM (tC.rM k1<|λe=>by cases e) (λe=>by cases e)) (λe=>by cases e);exact h1.rM e1<|λ_=>⟨32,_,rfl,aK⟩
def Rd.arg{l m}{s}{L}{u}(h:Rd 3 l (LJ s L))(k:Rd 0 m u):Rd 3 (l++(32::m)) (LJ s<|L++[u]):=by
 obtain⟨p,h1,h2⟩:=h;obtain⟨q,k1,k2⟩:=k;refine⟨_,?_,.arg h2 k2⟩;exact h1.rM (tC.rM k1<|λe=>by cases e) (λ_=>⟨32,_,rfl,aK⟩)
def Rd.rM{l}{t}(h:Rd 3 l t):Rd 1 l t:=by
 obtain⟨p,h1,h2⟩:=h;exact⟨p,h1,.rM h2⟩
def Rd.head{l}{t}(h:Rd 1 l t):Rd 2 l t:=by
 obtain⟨p,h1,h2⟩:=h;exact⟨p,h1,.head h2⟩
def R_{c:BA}:∀(ps:List (Nat->List UInt8))(us:List Nd)(l:List UInt8)(L:List Nd),ps.length=us.length->(∀i(h:i<ps.length)(h2:i<us.length),Rd 0 (ps[i] 2) us[i])->Rd 3 l (LJ c L)->Rd 3 (l++ps.flatMap λp=>32::p 2) (LJ c<|L++us)
 |[],[],l,L,_,_,h=>Bm|[],u::us,l,L,e,_,h=>by simp at e|p::ps,[],l,L,e,_,h=>by simp at e|p::ps,u::us,l,L,e,hp,h=>by
   have h1:=R_ ps us (l++(32::p 2)) (L++[u]) (by simpa using e) (λi q q2=>hp (i+1) (by simpa using q) (by simpa using q2)) (h.arg<|hp 0 ag ag);simpa[List.append_assoc]using h1
def adL L:∀(l:List Ty)(i:Nat)(h:i<l.length),(uf dec L l)[i]'(by rw[jO];exact h)=wr dec L l[i]:=by
 intro l i h;simp[PX]
def AK(L:List Nat):∀l,(xA L l).length=l.length
 |[]=>rfl|t::l=>by simp[xA,AK L l]
def Kv(L:List Nat):∀(l:List Ty)(i:Nat)(h:i<l.length),(xA L l)[i]'(by rw[AK];exact h)=syW L l[i]
 |t::l,0,h=>rfl|t::l,i+1,h=>by simpa[xA]using Kv L l i Bm
mutual
def Eu(L:List Nat):∀(t:Ty),Good t->∀tight,tight<=2->Rd (lvl tight) (wr dec L t tight) (syW L t)
 |.var n,_,tight,_=>by
  simp only[wr,syW];exact Rd.lv ⟨_,aj0 _,.var _⟩ tight
 |.aJ c l,h,tight,ht=>by
  simp only[Good]at h;obtain⟨h1,h2⟩:=h;have ih:=Kw L l h2;simp only[wr,bA,syW];rw[okC]at h1;by_cases e1:c=nB
  .rw[if_pos e1]at h1;rw[if_pos e1,if_pos e1]
   match l,h1,ih with
   |[a,b],_,ih=>
    have r1:=ih 0 ag 1 ae;have r2:=ih 1 ag 0 ae;have r3:Rd 2 _ (sFn (syW L a)<|syW L b):=Rd.fn r1 r2;by_cases h0:0<tight
    .rw[show decide (0<tight)=true by simpa using h0];exact r3.par.lv tight
    .obtain rfl:tight=0:=ae;exact r3
   |[],h1,_=>simp at h1|[_],h1,_=>simp at h1|_::_::_::_,h1,_=>simp at h1
  .rw[if_neg e1]at h1;rw[if_neg e1,if_neg e1];by_cases e2:c=lj
   .rw[if_pos e2]at h1;rw[if_pos e2,if_pos e2]
    match l,h1,ih with
    |[a,b],_,ih=>
     have r1:=ih 0 ag 0 ae;have r2:=ih 1 ag 0 ae;exact(Rd.pair r1 r2).lv tight
    |[],h1,_=>simp at h1|[_],h1,_=>simp at h1|_::_::_::_,h1,_=>simp at h1
   .rw[if_neg e2]at h1;rw[if_neg e2,if_neg e2];have r0:Rd 3 c.toList (LJ c []):=⟨_,Ku h1,.up c⟩
    have r1:=R_ (uf dec L l) (xA L l) c.toList [] (by rw[jO,AK]) (λi q q2=>by
     have hl:i<l.length:=by rw[jO]at q;exact q
     rw[adL L l i hl,Kv L l i hl]
     exact ih i hl 2 ae) r0
    simp only[List.nil_append]at r1
    cases hq:(decide (1<tight)&& !(uf dec L l).isEmpty)with
    |true=>exact r1.rM.head.par.lv tight|false=>
     simp only[par,Bool.false_eq_true,if_false];by_cases h1':tight=0
     .subst h1';exact r1.rM.head
     .by_cases Gb:tight=1
      .subst Gb;exact r1.rM
      .obtain rfl:tight=2:=ae;have alt:uf dec L l=[]:=by simpa using hq
       have hl:l=[]:=by have:=congrArg List.length alt;rw[jO]at this;simpa using this
       subst hl;refine⟨_,?_,.up0 c⟩;simpa[uf]using Ku h1
def Kw(L:List Nat):∀(l:List Ty),QS l->∀i(h:i<l.length)tight,tight<=2->Rd (lvl tight) (wr dec L l[i] tight) (syW L l[i])
 |t::l,h,0,_,tight,ht=>Eu L t h.1 tight ht|t::l,h,i+1,hi,tight,ht=>by simpa using Kw L l h.2 i qBl tight ht
end
def Ou(k:Nat):List BA:=(jz k).map vn
def AL k:Ou (k+1)=Ou k++[vn k]:=by simp[Ou,List.range_succ]
def adM k:(Ou k).length=k:=by simp[Ou]
def yp:vn i∈Ou k↔i<k:=by
 simp only[Ou,List.mem_map,List.mem_range];constructor
 .rintro⟨a,ha,e⟩;rw[<-ahB e];exact ha
 .grind
def adN{a b}(h:a<=b):Ou a<+:Ou b:=by
 obtain⟨d,rfl⟩:∃d,b=a+d:=⟨b-a,ae⟩;clear h
 induction d with
 |zero=>grind|succ d ih=>rw[<-Nat.add_assoc,AL];exact ih.trans<|List.prefix_append _ _
def aaQ(h:i<k):ix (vn i) (Ou k)=i:=by
 have h1:vn i∈Ou (i+1):=yp.2 ae;rw[aaO (adN ae) h1,AL,DH (λq=>by have:=yp.1 q;omega),adM]
mutual
def zY(L:List Nat)(hL:L.Nodup):∀(t:Ty)(l:List Nat),vars l t<+:L->aH (Ou l.length) (syW L t)=(sub (ren λn=>L.idxOf n+1) t,Ou (vars l t).length)
 |.var n,l,h=>by
  simp only[vars]at h;simp only[syW,acD,aH,if_true,sub,Un.ren,vars];have hi:L.idxOf n<(qf l n).length:=by
   have hm:n∈qf l n:=yI.2<|j5 rfl;rw[xT h hm];exact List.idxOf_lt_length_iff.2 hm
  by_cases hn:n∈l
  .have e:qf l n=l:=by rw[qf,if_pos hn]
   rw[e]at hi⊢;rw[DG<|yp.2 hi,aaQ hi]
  .have e:qf l n=l++[n]:=by rw[qf,if_neg hn]
   have hx:L.idxOf n=l.length:=by
    rw[xT h (by rw[e];simp),e,List.idxOf_append,if_neg hn];simp
   rw[e,hx,Gp (λq=>by have:=yp.1 q;omega)];rw[show(l++[n]).length=l.length+1 by simp,<-AL,aaQ ae]
 |.aJ c l',l,h=>by
  simp only[vars]at h;have ih:=Du L hL l' l h;simp only[syW,vars,sub];by_cases e1:c=nB
  .rw[if_pos e1];simp[aH,fy,ih,e1]
  .rw[if_neg e1];by_cases e2:c=lj
   .rw[if_pos e2];simp[aH,fy,ih,e2]
   .rw[if_neg e2];simp[LJ,aH,fy,ih]
def Du(L:List Nat)(hL:L.Nodup):∀(l':List Ty)(l:List Nat),bh l l'<+:L->aA (Ou l.length) (xA L l')=(aS (ren λn=>L.idxOf n+1) l',Ou (bh l l').length)
 |[],l,h=>by simp[xA,aA,aS,bh]|t::l',l,h=>by
   simp only[bh]at h;have h1:=zY L hL t l<|(lV l' _).trans h;have h2:=Du L hL l' (vars l t) h;simp only[xA,aA,h1,h2,aS,bh]
end
def sB:Nat->Nat
 |0=>1|d+1=>2*sB d+1
end
section
open Go.ChangeMaps Un
def ahD(a b:BA)(w:World)(e:Ending)(w':World):=
 ∃z ok f,e=.returned (.tuple #[.string<|bs z,.bool ok,jF f])/\BH a b z ok f/\Bq w w'
end
end Go.Proofs.YtfnkchdeheeiiaaGreatDoor

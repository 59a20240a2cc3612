import Derived.Deep.CutRange
import Derived.Deep.RegionLaw
import Derived.Test.YtfnkchdeheeiiaaGreatDoorQPure
import Derived.Test.YtfnkchdeheeiiaaGreatDoorQLd0
import Derived.Test.YtfnkchdeheeiiaaGreatDoorQKit
set_option linter.all false
set_option maxRecDepth 100000
set_option maxHeartbeats 8000000
namespace Go.Proofs.YtfnkchdeheeiiaaGreatDoor
open Pu renaming Tok->ja,bG->jc
open Go Proofs.Tryz
variable {s:BA} {l:List BA} {T:List ja} {e part sm small uA:M Nd} {cap g k k' rb:Nat} {σ:St} {α:Type} {w:World}
section
open Go.RowKit Un
def dg n:=UInt8.ofNat<|48+n%10
def dec(n:Nat):List UInt8:=if n<10 then[dg n]else dec (n/10)++[dg n]
termination_by n
decreasing_by omega
def bs(l:List UInt8):BA:=⟨l.toArray⟩
def jN l:(bs l).size=l.length:=by simp[bs,ByteArray.size]
def lL a b:bs a++bs b=bs (a++b):=by
 apply ByteArray.ext;simp[bs]
def yo n:(dec n).length<=n+1:=by
 induction n using Nat.strongRecOn with
 |_ n ih=>
  rw[dec];split
  .simp
  .grind
def aU:List (Nd×Nd)->List Nd
 |[]=>[]|p::l=>p.1::p.2::aU l
def lv:Nd->Nat
 |.mk k s _ L _ _ _=>if k=1\/k=3\/k=4\/k=5\/k=6\/k=14\/k=15\/k=16 then 5 else if k=2 then(if L=[]then 5 else 4)else if k=8 then 4 else if k=17 then 1 else if k=7 then(if s.toList=[42]then 3 else if s.toList=[60]then 1 else 2)else 0
end
section
open Go.RowKit
def bA s:∀k a k',bu T s k=.ok (a,k')->k'=k+1:=by
 intro k a k' h;rw[bu]at h;split at h
 .cases h;rfl
 .cases h
def eH n:∀k a k',db T n k=.ok (a,k')->k'=k+1:=by
 intro k a k' h;rw[db]at h;split at h
 .cases h;rfl
 .cases h
def aB{β:Type}{m}{f:α->M β}{b:β}(h:aq m f k=.ok (b,k')):∃a k1,m k=.ok (a,k1)/\f a k1=.ok (b,k'):=by
 rw[aq]at h;split at h
 .cases h
 .grind
def rU{mk}{a}(h:rA T mk k=.ok (a,k')):k<k':=by
 have⟨_,k1,h1,h2⟩:=aB h;have:=bA _ _ _ _ h1
 cases h2
 omega
theorem cL(hp:Fq part)(ht:Fq uA)sort:∀k a k',aJ T part uA sort k=.ok (a,k')->k<k':=by
 intro k a k' h;rw[aJ]at h;split at h
 .split at h
  .rw[g_]at h;split at h
   .cases h;omega
   .have⟨a1,k1,h1,h2⟩:=aB h;have m1:=hp _ _ _ h1;rw[kB]at h2;split at h2
    .have⟨b,k3,h3,h4⟩:=aB h2;have:=hp _ _ _ h3;have:=rU h4;omega
    .split at h2
     .have⟨b,k3,h3,h4⟩:=aB h2;have:=ht _ _ _ h3;have:=rU h4;omega
     .have:=rU h2;omega
  .cases h;omega
 .cases h
def ZC sort:∀k,(tk T k).kind=2->aJ T part uA sort k=.ok (cE<|tk T k,k+1):=by
 intro k hk;have h1:bh (tk T k) yR=false:=by simp[bh,hk]
 have h2:aO (tk T k) sort=true:=by
  rw[aO,bH];simp[hk]
 rw[aJ];rw[h1,h2];rfl
def ys{p:Prop}(h:p:=by
 split at h
 .have⟨y,k1,h1,h2⟩:=aB h;have:=hm _ _ _ h1;have:=ih _ _ _ _ h2;omega
 .cases h;omega):p:=h
def zQ(hm:∀k a k',small k=.ok (a,k')->k<k')sort:∀f x k a k',cQ T small sort f x k=.ok (a,k')->k<=k':=by
 intro f
 induction f with
 |zero=>intro x k a k' h;cases h;omega|succ f ih=>
  intro x k a k' h;unfold cQ at h;exact ys
def uR(hm:∀k a k',small k=.ok (a,k')->k<k')sort:∀k a k',gh T small sort k=.ok (a,k')->k<k':=by
 intro k a k' h;rw[gh]at h;split at h
 .have⟨y,k1,h1,h2⟩:=aB h;have:=hm _ _ _ h1;have:=zQ hm sort _ _ _ _ _ h2;omega
 .exact hm _ _ _ h
def ng:Fq (m_ (α:=α) T):=by
 intro k a k' h
 cases h
theorem dq:∀n,Fq<|fy T n:=by
 intro n
 induction n with
 |zero=>exact ng|succ n ih=>
  intro k a k' h;rw[fy]at h;have⟨y,k1,h1,h2⟩:=aB h;have:=uR (cL ih ih 1) 1 _ _ _ h1;rw[lI]at h2;split at h2
  .have⟨z,k3,h3,h4⟩:=aB h2;have:=ih _ _ _ h3
   cases h4
   omega
  .cases h2;omega
def oW:∀n,Fq<|du T n:=by
 intro n
 induction n with
 |zero=>exact ng|succ n ih=>
  intro k a k' h;have:=uR (cL ih ng 2) 2 k a k' h;omega
end
section
open Go.RowKit Un
inductive Dc where
 |ty(name:ja)(vars:List ja)(aaT:List Nd)
 |lt(amD:Bool)(name:ja)(body:Nd)
def ch T sm:=aq (db T 2) λt k=>cQ T sm 1 T.length (.mk 2 t.text 0 [] t.ak (aS T k) t.ak) k
def ie T(mk:M Nd)(go:List Nd->M (List Nd))l:=λk=>if bh (tk T k) YY=true then go l (k+1)else .ok (l,k)
def cZ(T:List ja)(mk:M Nd):Nat->List Nd->M (List Nd)
 |0,l=>λk=>.ok (l,k)|f+1,l=>aq mk λx=>ie T mk (cZ T mk f)<|l++[x]
def iM(T:List ja):Nat->List ja->M (List ja)
 |0,l=>λk=>.ok (l,k)|f+1,l=>λk=>if(tk T k).kind=3 then iM T f (l++[tk T k]) (k+1)else .ok (l,k)
def tQ(T:List ja)(mk:M Nd):M Dc:=aq (bu T my) λ_=>aq (db T 2) λt=>aq (iM T T.length []) λvs=>aq (bu T BI) λ_=>aq (cZ T mk T.length []) λms=>aq (bu T mD) λ_ k=>.ok (.ty t vs ms,k)
def wP(T:List ja)(e:M Nd):M Dc:=aq (bM T e) λb=>aq (bu T mD) λ_ k=>.ok (.lt (b.1==11) b.2.1 b.2.2,k)
def cT T n:=λk=>if bh (tk T k) my=true then tQ T (ch T<|aJ T (fy T n) (fy T n) 1) k else wP T (bO T n) k
def bT(T:List ja)(d:M Dc):Nat->List Dc->M (List Dc)
 |0,l=>λk=>.ok (l,k)|f+1,l=>λk=>if bh (tk T k) my=true\/bh (tk T k) rB=true then aq d (λx=>bT T d f<|l++[x]) k else .ok (l,k)
def nF(T:List ja)(l:List Dc):M (List Dc):=λk=>if(tk T k).kind=7 then .ok (l,k)else .error (dM<|tk T k)
def bX(s:BA):Except Fl (List Dc):=
 if 400<s.size then .error ⟨1,0,0⟩else
 match aq (bT (jc s 0) (cT (jc s 0) (jc s 0).length) (jc s 0).length []) (nF<|jc s 0) 0 with
 |.error f=>.error f|.ok (l,_)=>.ok l
mutual
def es:Nd->Nd
 |.mk k s n L _ _ _=>.mk k (if k=3\/k=15 then ls else s) (if k=3 then n else 0) (fZ L) 0 0 0
def fZ:List Nd->List Nd
 |[]=>[]|x::l=>es x::fZ l
end
mutual
def nn:Nd->Nat
 |.mk _ _ _ L _ _ _=>1+ck L
def ck:List Nd->Nat
 |[]=>0|x::l=>nn x+ck l
end
def xY:∀l m,ck (l++m)=ck l+ck m
 |[],m=>by simp[ck]|x::l,m=>by simp[ck,xY l m];omega
def uG x:1<=nn x:=by cases x;simp[nn]
def pW:∀l,l.length<=ck l
 |[]=>by simp[ck]|x::l=>by have:=uG x;have:=pW l;simp[ck];omega
def fU s(l:List BA):=l.any λx=>decide (x=s)
def Pz:fU s l=true↔s∈l:=by simp[fU]
def EP:fU s l=false↔s∉l:=by grind[fU]
def tell k a b(z:Fl):=if z.kind=0\/a<z.ak then⟨k,a,b⟩else z
def bm(c:Bool)k a b z:=if c then tell k a b z else z
mutual
def uj(ty:BA->Option Nat)(own:List BA):Nd->Fl->Fl
 |.mk k s _ L f _ a,z=>gJ ty own L<|bm (k==2&&ty s !=some L.length) 4 a (a+s.size)<|bm (k==16&& !fU s own) 4 f (f+s.size) z
def gJ(ty:BA->Option Nat)(own:List BA):List Nd->Fl->Fl
 |[],z=>z|x::l,z=>gJ ty own l<|uj ty own x z
end
mutual
def n9(mk:BA->Option Nat):Nd->List BA×Fl->List BA×Fl
 |.mk k s _ L f t a,q=>if k==1 then(q.1++[s],bm (fU s q.1) 5 f t q.2)else dI mk L (q.1,bm (k==2&&mk s !=some L.length) 5 a (a+s.size) q.2)
def dI(mk:BA->Option Nat):List Nd->List BA×Fl->List BA×Fl
 |[],q=>q|x::l,q=>dI mk l<|n9 mk x q
end
mutual
def dX(ty mk:BA->Option Nat):Nd->List BA->Fl->Fl
 |.mk k s _ L f t _,l,z=>
  if k==1 then bm (!fU s l) 5 f t z
  else if k==2 then bm (mk s).isNone 5 f t z
  else if k==9 then Ev ty mk L (l++[s]) z
  else if k==10 then Iz ty mk L l (l++[s]) z
  else if k==11 then Iz ty mk L (l++[s]) (l++[s]) z
  else if k==13 then MI ty mk L l z
  else if k==14 then Ew ty mk L l z
  else hH ty mk L l z
def Ev(ty mk:BA->Option Nat):List Nd->List BA->Fl->Fl
 |[],_,z=>z|x::_,l,z=>dX ty mk x l z
def Iz(ty mk:BA->Option Nat):List Nd->List BA->List BA->Fl->Fl
 |[],_,_,z=>z|x::r,l,l',z=>Ev ty mk r l'<|dX ty mk x l z
def Ew(ty mk:BA->Option Nat):List Nd->List BA->Fl->Fl
 |[],_,z=>z|x::r,l,z=>(match r with|[]=>id|y::_=>uj ty [] y)<|dX ty mk x l z
def hH(ty mk:BA->Option Nat):List Nd->List BA->Fl->Fl
 |[],_,z=>z|x::r,l,z=>hH ty mk r l<|dX ty mk x l z
def MI(ty mk:BA->Option Nat):List Nd->List BA->Fl->Fl
 |[],_,z=>z|x::r,l,z=>mZ ty mk r l<|dX ty mk x l z
def mZ(ty mk:BA->Option Nat):List Nd->List BA->Fl->Fl
 |[],_,z=>z|p::r,l,z=>Iy ty mk r l<|n9 mk p ([],z)
def Iy(ty mk:BA->Option Nat):List Nd->List BA->List BA×Fl->Fl
 |[],_,q=>q.2|e::r,l,q=>mZ ty mk r l<|dX ty mk e (l++q.1) q.2
end
structure SE where
 ty:BA->Option Nat
 mks:BA->Option Nat
 nm:List BA
 f:Fl
abbrev WW:=(BA->Option Nat)->BA->Nat->BA->Option Nat
def fY:WW:=λt x n y=>if y=x then some n else t y
def BU:List BA->List ja->Fl->Fl
 |_,[],z=>z|p,v::r,z=>BU (p++[v.text]) r<|bm (fU v.text p) 4 v.ak v.to z
def zS(u:WW)(ty:BA->Option Nat)(own:List BA):List Nd->(BA->Option Nat)×Fl->(BA->Option Nat)×Fl
 |[],q=>q|.mk _ s _ L _ _ a::r,q=>zS u ty own r (u q.1 s L.length,gJ ty own L<|bm (q.1 s).isSome 4 a (a+s.size) q.2)
def WX(u:WW):Dc->SE->SE
 |.ty t vs ms,e=>⟨u e.ty t.text vs.length,(zS u (u e.ty t.text vs.length) (vs.map (·.text)) ms (e.mks,BU [] vs<|bm (e.ty t.text).isSome 4 t.ak t.to e.f)).1,e.nm,(zS u (u e.ty t.text vs.length) (vs.map (·.text)) ms (e.mks,BU [] vs<|bm (e.ty t.text).isSome 4 t.ak t.to e.f)).2⟩|.lt r t b,e=>⟨e.ty,e.mks,e.nm++[t.text],dX e.ty e.mks b (if r then e.nm++[t.text]else e.nm) e.f⟩
def fs(u:WW):List Dc->SE->SE
 |[],e=>e|d::r,e=>fs u r<|WX u d e
abbrev ry:BA:=⟨#[73,110,116]⟩
abbrev kv:BA:=⟨#[66,111,111,108]⟩
abbrev iZ:BA:=⟨#[85,110,105,116]⟩
def ty0:BA->Option Nat:=λx=>if x=ry\/x=kv\/x=iZ then some 0 else none
def xE:SE:=⟨ty0,λ_=>none,[],sF⟩
mutual
def Ge(lo:Nat):Nd->Prop
 |.mk _ s _ L f _ a=>(lo<=f/\lo<=a)/\(f<=400/\a<=400/\s.size<=400)/\Kh lo L
def Kh(lo:Nat):List Nd->Prop
 |[]=>True|x::l=>Ge lo x/\Kh lo l
end
def Told(z:Fl)lo:=z.kind≠0/\z.ak<=lo
def UD k a b z(hk:k≠0):Told (tell k a b z) a:=by grind[Told,tell]
def og(lo:Nat):List Nd->Nat->Prop
 |[],hi=>lo<=hi|.mk k s n L f t a::r,hi=>lo<=a/\Ge a (.mk k s n L f t a)/\og a r hi
def og.up:∀{ms:List Nd}{lo hi oj:Nat},og lo ms hi->hi<=oj->og lo ms oj
 |[],_,_,_,h,g=>Nat.le_trans h g|.mk _ _ _ _ _ _ _::r,_,_,_,h,g=>⟨h.1,h.2.1,og.up (ms:=r) h.2.2 g⟩
def GeD(lo:Nat):Dc->Nat->Prop
 |.ty t vs ms,hi=>lo<=t.ak/\(∀v∈vs,t.ak<=v.ak)/\og t.ak ms hi|.lt _ _ b,hi=>lo<=hi/\Ge lo b
def Gn(lo:Nat):List Dc->Prop
 |[]=>True|d::r=>∃hi,GeD lo d hi/\Gn hi r
mutual
def Ge.mono{lo hi:Nat}(h:lo<=hi):∀{nd:Nd},Ge hi nd->Ge lo nd
 |.mk _ _ _ L _ _ _,g=>⟨⟨Nat.le_trans h g.1.1,Nat.le_trans h g.1.2⟩,g.2.1,Kh.mono h g.2.2⟩
def Kh.mono{lo hi:Nat}(h:lo<=hi):∀{L:List Nd},Kh hi L->Kh lo L
 |[],_=>trivial|_::_,g=>⟨Ge.mono h g.1,Kh.mono h g.2⟩
end
end
section
open Go.RowKit
def mQ{α:Type}(m:M α):=∀k a k',m k=.ok (a,k')->k<k'
def mQ.mono{m:M Nd}(h:mQ m):Fq m:=λk a k' q=>Nat.le_of_lt<|h k a k' q
def Oc(hm:mQ sm)fr:∀f x k a k',gi T sm fr f x k=.ok (a,k')->k<=k':=by
 intro f
 induction f with
 |zero=>intro x k a k' h;cases h;omega|succ f ih=>
  intro x k a k' h;unfold gi at h;exact ys
def Od(hm:mQ sm)fr:∀f x k a k',gQ T sm fr f x k=.ok (a,k')->k<=k':=by
 intro f
 induction f with
 |zero=>intro x k a k' h;cases h;omega|succ f ih=>
  intro x k a k' h;unfold gQ at h;exact ys
def VE(hm:mQ sm)fr:∀f x k a k',n8 T sm fr f x k=.ok (a,k')->k<=k':=by
 intro f
 induction f with
 |zero=>intro x k a k' h;cases h;omega|succ f ih=>
  intro x k a k' h;unfold n8 at h;exact ys
def tS(hm:mQ sm):mQ (dn T sm):=λk a k' h=>by
 rw[dn]at h;have⟨y,k1,h1,h2⟩:=aB h;have:=hm _ _ _ h1;have:=Oc hm _ _ _ _ _ _ h2;omega
def AA(hm:mQ sm):mQ (eU T sm):=λk a k' h=>by
 rw[eU]at h;have⟨y,k1,h1,h2⟩:=aB h;have:=hm _ _ _ h1;have:=Od hm _ _ _ _ _ _ h2;omega
def RU(hm:mQ sm):mQ (sJ T sm):=λk a k' h=>by
 rw[sJ]at h;have⟨y,k1,h1,h2⟩:=aB h;have:=hm _ _ _ h1;have:=VE hm _ _ _ _ _ _ h2;omega
def aaU(hm:mQ sm):mQ (mi T sm):=λk a k' h=>by
 rw[mi]at h;have⟨y,k1,h1,h2⟩:=aB h;have:=hm _ _ _ h1;split at h2
 .have⟨z,k2,h3,h4⟩:=aB h2;have:=hm _ _ _ h3
  cases h4
  omega
 .cases h2;omega
def RX{p:Prop}(h:p:=by
 have:=eH _ _ _ _ h3;have:=bA _ _ _ _ h5;have:=hm _ _ _ h7
 omega):p:=h
def Gp(hm:mQ e):mQ (oM T e):=λk a k' h=>by
 rw[oM]at h;have⟨_,k1,h1,h2⟩:=aB h;have⟨_,k2,h3,h4⟩:=aB h2;have⟨_,k3,h5,h6⟩:=aB h4;have⟨_,k4,h7,h8⟩:=aB h6
 cases h8
 have:=bA _ _ _ _ h1;exact RX
def DH(hm:mQ e):mQ (bM T e):=λk a k' h=>by
 rw[bM]at h;have⟨_,k1,h1,h2⟩:=aB h;have:=bA _ _ _ _ h1;split at h2
 .have⟨_,k2,h3,h4⟩:=aB h2;have⟨_,k3,h5,h6⟩:=aB h4;have⟨_,k4,h7,h8⟩:=aB h6
  cases h8
  have:=eH _ _ _ _ h3;have:=bA _ _ _ _ h5;have:=Gp hm _ _ _ h7;omega
 .have⟨_,k2,h3,h4⟩:=aB h2;have⟨_,k3,h5,h6⟩:=aB h4;have⟨_,k4,h7,h8⟩:=aB h6
  cases h8
  exact RX
def VG{p}(hp:Fq p)(hm:mQ e):∀f l k a k',kH T p e f l k=.ok (a,k')->k<=k':=by
 intro f
 induction f with
 |zero=>intro l k a k' h;cases h;omega|succ f ih=>
  intro l k a k' h;rw[kH]at h;have⟨_,k1,h1,h2⟩:=aB h;have⟨_,k2,h3,h4⟩:=aB h2;have⟨_,k3,h5,h6⟩:=aB h4;have:=hp _ _ _ h1;have:=bA _ _ _ _ h3;have:=hm _ _ _ h5;split at h6
  .grind
  .cases h6;omega
theorem kQ:∀n,mQ<|bO T n
 |0=>λk a k' h=>Mo|n+1=>λk a k' h=>by
  have ih:=kQ n;unfold bO at h;split at h
  .exact Gp ih _ _ _ h
  split at h
  .unfold il at h;have⟨_,k1,h1,h2⟩:=aB h;have⟨_,k2,h3,h4⟩:=aB h2;have⟨_,k3,h5,h6⟩:=aB h4;have⟨_,k4,h7,h8⟩:=aB h6;have⟨_,k5,h9,h10⟩:=aB h8;have⟨_,k6,h11,h12⟩:=aB h10
   cases h12
   have:=bA _ _ _ _ h1;have:=ih _ _ _ h3;have:=bA _ _ _ _ h5;have:=ih _ _ _ h7;have:=bA _ _ _ _ h9;have:=ih _ _ _ h11;omega
  split at h
  .unfold lJ at h;have⟨_,k1,h1,h2⟩:=aB h;have⟨_,k2,h3,h4⟩:=aB h2;have⟨_,k3,h5,h6⟩:=aB h4;have⟨_,k4,h7,h8⟩:=aB h6;have⟨_,k5,h9,h10⟩:=aB h8
   cases h10
   have:=bA _ _ _ _ h1;have:=ih _ _ _ h3;have:=bA _ _ _ _ h5;have:=VG (oW n) ih _ _ _ _ _ h7;have:=bA _ _ _ _ h9;omega
  split at h
  .unfold li at h;have⟨_,k1,h1,h2⟩:=aB h;have⟨_,k2,h3,h4⟩:=aB h2;have⟨_,k3,h5,h6⟩:=aB h4
   cases h6
   have:=DH ih _ _ _ h1;have:=bA _ _ _ _ h3;have:=ih _ _ _ h5;omega
  .exact aaU (RU<|AA<|tS<|cL ih.mono (dq n) 3) _ _ _ h
def vw n:Fq (bO T n):=(kQ n).mono
end
section
open Go.RowKit Go.ChangeMaps Un
def Oe n:=∀w:World,Cq 222 #[Nv n] w λe w'=>e=.returned (.string<|bs<|dec n)/\w'=w
def RY{p:Prop}(h:p:=by
 obtain rfl|rfl|rfl|rfl|rfl|rfl|rfl|rfl|rfl|rfl|rfl|rfl|rfl|rfl|rfl|rfl|rfl|rfl|rfl|rfl|rfl|rfl|rfl|rfl|rfl|rfl|rfl|rfl|rfl|rfl|rfl|rfl|rfl|rfl|rfl|rfl|rfl|rfl|rfl|rfl|rfl|rfl|rfl|rfl|rfl|rfl|rfl|rfl:=this;all_goals
  intro w;go_enter func222,ntmps222
  go_wp2
  go_ret;refine⟨?_,rfl⟩;first
  |(rw[dec,if_pos aH];kernel_rfl)
  |(rw[dec,if_neg aH,dec,if_pos aH];kernel_rfl)):p:=h
def aaV n(h0:0<=n)(h:n<48):Oe n:=by
 have:n=0\/n=1\/n=2\/n=3\/n=4\/n=5\/n=6\/n=7\/n=8\/n=9\/n=10\/n=11\/n=12\/n=13\/n=14\/n=15\/n=16\/n=17\/n=18\/n=19\/n=20\/n=21\/n=22\/n=23\/n=24\/n=25\/n=26\/n=27\/n=28\/n=29\/n=30\/n=31\/n=32\/n=33\/n=34\/n=35\/n=36\/n=37\/n=38\/n=39\/n=40\/n=41\/n=42\/n=43\/n=44\/n=45\/n=46\/n=47:=ae;exact RY
def aaW n(h0:48<=n)(h:n<96):Oe n:=by
 have:n=48\/n=49\/n=50\/n=51\/n=52\/n=53\/n=54\/n=55\/n=56\/n=57\/n=58\/n=59\/n=60\/n=61\/n=62\/n=63\/n=64\/n=65\/n=66\/n=67\/n=68\/n=69\/n=70\/n=71\/n=72\/n=73\/n=74\/n=75\/n=76\/n=77\/n=78\/n=79\/n=80\/n=81\/n=82\/n=83\/n=84\/n=85\/n=86\/n=87\/n=88\/n=89\/n=90\/n=91\/n=92\/n=93\/n=94\/n=95:=ae;exact RY
def VH n(h:n<96):Oe n:=by
 by_cases q:n<48
 .exact aaV n (Nat.zero_le _) q
 .exact aaW n ae h
def aaF n(h:n<96):Cq 73 #[Nv n] w λe w'=>e=.returned (.string<|bs<|dec n)/\w'=w:=by
 have HC:=VH n h w;have h0:(0:Int)<=(n:Int):=ae;have h1:(n:Int)<100:=ae;go_enter func73,ntmps73;go_wp2_with(first|(go_at_call 222;refine HC.mono ?_;rintro e w'⟨rfl,rfl⟩)|(go_at_call 106;go_in)|(go_at_call 143;go_in));go_ret;exact⟨rfl,rfl⟩
end
def Gq:joinedFacts Tryz.prog 3 Tryz.f3 Rows.agreeSpec Rows.agreeRow=true:=by
 rw[joinedFacts];exact(fB (fB (fB (fB (fB (fB (fB (fB (fB (fB (fB (fB (fB (fB (fB (fB (fB (fB (fB (fB (fB (fB (fB (fB (fB (fB (fB (fB (fB (fB (fB Yv EI) Qc) Yw) Yx) Yy) cp6) Yz) cp8) YA) T7) T8) T9) T_) Ua) Ub) Uc) Ud) Ue) Uf) Ug) Uh) Ui) Uj) ak6) ak7) Uk) Ul) qkr) Um) Uo) Up)
end Go.Proofs.YtfnkchdeheeiiaaGreatDoor

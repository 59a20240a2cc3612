import Derived.Deep.CutRange
import Derived.Deep.RegionLaw
import Derived.RegionDies
import Derived.Test.YtfnkchdeheeiiaaGreatDoorCPure
import Derived.Test.YtfnkchdeheeiiaaGreatDoorCKit
set_option linter.all false
set_option maxRecDepth 100000
set_option maxHeartbeats 8000000
namespace Go.Proofs.YtfnkchdeheeiiaaGreatDoor
open Pu renaming Tok->ja,bC->jc
open Go Go.RowKit Proofs.Tryz
variable {s:BA} {l:List BA} {T:List ja} {e part sm small DO:M Nd} {cap g k k' rb:Nat} {σ:St} {α:Type} {w:World}
section
open Un
def dg n:=UInt8.ofNat<|48+n%10
def dec(n:Nat):List UInt8:=if n<10 then[dg n]else dec (n/10)++[dg n]
termination_by n
decreasing_by omega
def bs(l:List UInt8):BA:=⟨l.toArray⟩
def jZ l:(bs l).size=l.length:=by simp[bs,ByteArray.size]
def m8 a b:bs a++bs b=bs (a++b):=by
 apply ByteArray.ext;simp[bs]
def vP n:(dec n).length<=n+1:=by
 induction n using Nat.strongRecOn with
 |_ n ih=>
  rw[dec];split
  .simp
  .grind
def aT:List (Nd×Nd)->List Nd
 |[]=>[]|p::l=>p.1::p.2::aT l
def lv:Nd->Nat
 |.mk k s _ L _ _ _=>if k=1\/k=3\/k=4\/k=5\/k=6\/k=14\/k=15\/k=16 then 5 else if k=2 then(if L=[]then 5 else 4)else if k=8 then 4 else if k=17 then 1 else if k=7 then(if s.toList=[42]then 3 else if s.toList=[60]then 1 else 2)else 0
inductive Dc where
 |ty(name:ja)(vars:List ja)(Um:List Nd)
 |lt(ajT:Bool)(name:ja)(body:Nd)
def dd T sm:=aM (di T 2) λt k=>eN T sm 1 T.length (.mk 2 t.text 0 [] t.al (aF T k) t.al) k
def kL T(mk:M Nd)(go:List Nd->M (List Nd))l:=λk=>if a_ (tk T k) Wd=true then go l (k+1)else .ok (l,k)
def dJ(T:List ja)(mk:M Nd):Nat->List Nd->M (List Nd)
 |0,l=>λk=>.ok (l,k)|f+1,l=>aM mk λx=>kL T mk (dJ T mk f)<|l++[x]
def lC(T:List ja):Nat->List ja->M (List ja)
 |0,l=>λk=>.ok (l,k)|f+1,l=>λk=>if(tk T k).kind=3 then lC T f (l++[tk T k]) (k+1)else .ok (l,k)
def Bb(T:List ja)(mk:M Nd):M Dc:=aM (bt T ph) λ_=>aM (di T 2) λt=>aM (lC T T.length []) λvs=>aM (bt T MO) λ_=>aM (dJ T mk T.length []) λms=>aM (bt T xR) λ_ k=>.ok (.ty t vs ms,k)
def Ia(T:List ja)(e:M Nd):M Dc:=aM (cH T e) λb=>aM (bt T xR) λ_ k=>.ok (.lt (b.1==11) b.2.1 b.2.2,k)
def fs T n:=λk=>if a_ (tk T k) ph=true then Bb T (dd T<|aP T (eH T n) (eH T n) 1) k else Ia T (bP T n) k
def cQ(T:List ja)(d:M Dc):Nat->List Dc->M (List Dc)
 |0,l=>λk=>.ok (l,k)|f+1,l=>λk=>if a_ (tk T k) ph=true\/a_ (tk T k) sG=true then aM d (λx=>cQ T d f<|l++[x]) k else .ok (l,k)
def Ib(T:List ja)(l:List Dc):M (List Dc):=λk=>if(tk T k).kind=7 then .ok (l,k)else .error (db<|tk T k)
def cd(s:BA):Except Fl (List Dc):=
 if 400<s.size then .error ⟨1,0,0⟩else
 match aM (cQ (jc s 0) (fs (jc s 0) (jc s 0).length) (jc s 0).length []) (Ib<|jc s 0) 0 with
 |.error f=>.error f|.ok (l,_)=>.ok l
end
def bq s:∀k a k',bt T s k=.ok (a,k')->k'=k+1:=by
 intro k a k' h;rw[bt]at h;split at h
 .cases h;rfl
 .cases h
def eE n:∀k a k',di T n k=.ok (a,k')->k'=k+1:=by
 intro k a k' h;rw[di]at h;split at h
 .cases h;rfl
 .cases h
def aw{β:Type}{m}{f:α->M β}{b:β}(h:aM m f k=.ok (b,k')):∃a k1,m k=.ok (a,k1)/\f a k1=.ok (b,k'):=by
 rw[aM]at h;split at h
 .cases h
 .grind
def pV{mk}{a}(h:sE T mk k=.ok (a,k')):k<k':=by
 have⟨_,k1,h1,h2⟩:=aw h;have:=bq _ _ _ _ h1
 cases h2
 omega
theorem cy(hp:CQ part)(ht:CQ DO)sort:∀k a k',aP T part DO sort k=.ok (a,k')->k<k':=by
 intro k a k' h;rw[aP]at h;split at h
 .split at h
  .rw[jA]at h;split at h
   .cases h;omega
   .have⟨a1,k1,h1,h2⟩:=aw h;have m1:=hp _ _ _ h1;rw[k_]at h2;split at h2
    .have⟨b,k3,h3,h4⟩:=aw h2;have:=hp _ _ _ h3;have:=pV h4;omega
    .split at h2
     .have⟨b,k3,h3,h4⟩:=aw h2;have:=ht _ _ _ h3;have:=pV h4;omega
     .have:=pV h2;omega
  .cases h;omega
 .cases h
def VW sort:∀k,(tk T k).kind=2->aP T part DO sort k=.ok (cu<|tk T k,k+1):=by
 intro k hk;have h1:a_ (tk T k) o9=false:=by simp[a_,hk]
 have h2:aG (tk T k) sort=true:=by
  rw[aG,bE];simp[hk]
 rw[aP];rw[h1,h2];rfl
def vR{p:Prop}(h:p:=by
 split at h
 .obtain⟨y,k1,h1,h2⟩:=aw h;have:=hm _ _ _ h1;have:=ih _ _ _ _ h2;omega
 .cases h;omega):p:=h
def yi(hm:∀k a k',small k=.ok (a,k')->k<k')sort:∀f x k a k',eN T small sort f x k=.ok (a,k')->k<=k':=by
 intro f
 induction f with
 |zero=>intro x k a k' h;cases h;omega|succ f ih=>
  intro x k a k' h;unfold eN at h;exact vR
def sY(hm:∀k a k',small k=.ok (a,k')->k<k')sort:∀k a k',jB T small sort k=.ok (a,k')->k<k':=by
 intro k a k' h;rw[jB]at h;split at h
 .have⟨y,k1,h1,h2⟩:=aw h;have:=hm _ _ _ h1;have:=yi hm sort _ _ _ _ _ h2;omega
 .exact hm _ _ _ h
def mw:CQ (mr (α:=α) T):=by
 intro k a k' h
 cases h
theorem cX:∀n,CQ<|eH T n:=by
 intro n
 induction n with
 |zero=>exact mw|succ n ih=>
  intro k a k' h;rw[eH]at h;have⟨y,k1,h1,h2⟩:=aw h;have:=sY (cy ih ih 1) 1 _ _ _ h1;rw[nk]at h2;split at h2
  .have⟨z,k3,h3,h4⟩:=aw h2;have:=ih _ _ _ h3
   cases h4
   omega
  .cases h2;omega
def nU:∀n,CQ<|eh T n:=by
 intro n
 induction n with
 |zero=>exact mw|succ n ih=>
  intro k a k' h;have:=sY (cy ih mw 2) 2 k a k' h;omega
def lN{α:Type}(m:M α):=∀k a k',m k=.ok (a,k')->k<k'
def lN.mono{m:M Nd}(h:lN m):CQ m:=λk a k' q=>Nat.le_of_lt<|h k a k' q
def Le(hm:lN sm)fr:∀f x k a k',jC T sm fr f x k=.ok (a,k')->k<=k':=by
 intro f
 induction f with
 |zero=>intro x k a k' h;cases h;omega|succ f ih=>
  intro x k a k' h;unfold jC at h;exact vR
def Lf(hm:lN sm)fr:∀f x k a k',kg T sm fr f x k=.ok (a,k')->k<=k':=by
 intro f
 induction f with
 |zero=>intro x k a k' h;cases h;omega|succ f ih=>
  intro x k a k' h;unfold kg at h;exact vR
def RJ(hm:lN sm)fr:∀f x k a k',qU T sm fr f x k=.ok (a,k')->k<=k':=by
 intro f
 induction f with
 |zero=>intro x k a k' h;cases h;omega|succ f ih=>
  intro x k a k' h;unfold qU at h;exact vR
def rT(hm:lN sm):lN (dr T sm):=λk a k' h=>by
 rw[dr]at h;have⟨y,k1,h1,h2⟩:=aw h;have:=hm _ _ _ h1;have:=Le hm _ _ _ _ _ _ h2;omega
def yj(hm:lN sm):lN (fK T sm):=λk a k' h=>by
 rw[fK]at h;have⟨y,k1,h1,h2⟩:=aw h;have:=hm _ _ _ h1;have:=Lf hm _ _ _ _ _ _ h2;omega
def OL(hm:lN sm):lN (uV T sm):=λk a k' h=>by
 rw[uV]at h;have⟨y,k1,h1,h2⟩:=aw h;have:=hm _ _ _ h1;have:=RJ hm _ _ _ _ _ _ h2;omega
def Xi(hm:lN sm):lN (qV T sm):=λk a k' h=>by
 rw[qV]at h;have⟨y,k1,h1,h2⟩:=aw h;have:=hm _ _ _ h1;split at h2
 .have⟨z,k2,h3,h4⟩:=aw h2;have:=hm _ _ _ h3
  cases h4
  omega
 .cases h2;omega
def OM{p:Prop}(h:p:=by
 have:=eE _ _ _ _ h3;have:=bq _ _ _ _ h5;have:=hm _ _ _ h7
 omega):p:=h
def Df(hm:lN e):lN (sF T e):=λk a k' h=>by
 rw[sF]at h;have⟨_,k1,h1,h2⟩:=aw h;have⟨_,k2,h3,h4⟩:=aw h2;have⟨_,k3,h5,h6⟩:=aw h4;have⟨_,k4,h7,h8⟩:=aw h6
 cases h8
 have:=bq _ _ _ _ h1;exact OM
def Bc(hm:lN e):lN (cH T e):=λk a k' h=>by
 rw[cH]at h;have⟨_,k1,h1,h2⟩:=aw h;have:=bq _ _ _ _ h1;split at h2
 .have⟨_,k2,h3,h4⟩:=aw h2;have⟨_,k3,h5,h6⟩:=aw h4;have⟨_,k4,h7,h8⟩:=aw h6
  cases h8
  have:=eE _ _ _ _ h3;have:=bq _ _ _ _ h5;have:=Df hm _ _ _ h7;omega
 .have⟨_,k2,h3,h4⟩:=aw h2;have⟨_,k3,h5,h6⟩:=aw h4;have⟨_,k4,h7,h8⟩:=aw h6
  cases h8
  exact OM
def RK{p}(hp:CQ p)(hm:lN e):∀f l k a k',np T p e f l k=.ok (a,k')->k<=k':=by
 intro f
 induction f with
 |zero=>intro l k a k' h;cases h;omega|succ f ih=>
  intro l k a k' h;rw[np]at h;have⟨_,k1,h1,h2⟩:=aw h;have⟨_,k2,h3,h4⟩:=aw h2;have⟨_,k3,h5,h6⟩:=aw h4;have:=hp _ _ _ h1;have:=bq _ _ _ _ h3;have:=hm _ _ _ h5;split at h6
  .grind
  .cases h6;omega
theorem jJ:∀n,lN<|bP T n
 |0=>λk a k' h=>JB|n+1=>λk a k' h=>by
  have ih:=jJ n;unfold bP at h;split at h
  .exact Df ih _ _ _ h
  split at h
  .unfold oG at h;have⟨_,k1,h1,h2⟩:=aw h;have⟨_,k2,h3,h4⟩:=aw h2;have⟨_,k3,h5,h6⟩:=aw h4;have⟨_,k4,h7,h8⟩:=aw h6;have⟨_,k5,h9,h10⟩:=aw h8;have⟨_,k6,h11,h12⟩:=aw h10
   cases h12
   have:=bq _ _ _ _ h1;have:=ih _ _ _ h3;have:=bq _ _ _ _ h5;have:=ih _ _ _ h7;have:=bq _ _ _ _ h9;have:=ih _ _ _ h11;omega
  split at h
  .unfold sH at h;have⟨_,k1,h1,h2⟩:=aw h;have⟨_,k2,h3,h4⟩:=aw h2;have⟨_,k3,h5,h6⟩:=aw h4;have⟨_,k4,h7,h8⟩:=aw h6;have⟨_,k5,h9,h10⟩:=aw h8
   cases h10
   have:=bq _ _ _ _ h1;have:=ih _ _ _ h3;have:=bq _ _ _ _ h5;have:=RK (nU n) ih _ _ _ _ _ h7;have:=bq _ _ _ _ h9;omega
  split at h
  .unfold sv at h;have⟨_,k1,h1,h2⟩:=aw h;have⟨_,k2,h3,h4⟩:=aw h2;have⟨_,k3,h5,h6⟩:=aw h4
   cases h6
   have:=Bc ih _ _ _ h1;have:=bq _ _ _ _ h3;have:=ih _ _ _ h5;omega
  .exact Xi (OL<|yj<|rT<|cy ih.mono (cX n) 3) _ _ _ h
def tn n:CQ (bP T n):=(jJ n).mono
section
open Un
mutual
def es:Nd->Nd
 |.mk k s n L _ _ _=>.mk k (if k=3\/k=15 then iq else s) (if k=3 then n else 0) (tU L) 0 0 0
def tU:List Nd->List Nd
 |[]=>[]|x::l=>es x::tU l
end
mutual
def nn:Nd->Nat
 |.mk _ _ _ L _ _ _=>1+bY L
def bY:List Nd->Nat
 |[]=>0|x::l=>nn x+bY l
end
def qT:∀l m,bY (l++m)=bY l+bY m
 |[],m=>by simp[bY]|x::l,m=>by simp[bY,qT l m];omega
def tq x:1<=nn x:=by cases x;simp[nn]
def l7:∀l,l.length<=bY l
 |[]=>by simp[bY]|x::l=>by have:=tq x;have:=l7 l;simp[bY];omega
def fC s(l:List BA):=l.any λx=>decide (x=s)
def MW:fC s l=true↔s∈l:=by simp[fC]
def Dg:fC s l=false↔s∉l:=by grind[fC]
def tell k a b(z:Fl):=if z.kind=0\/a<z.al then⟨k,a,b⟩else z
def bi(c:Bool)k a b z:=if c then tell k a b z else z
mutual
def tV(ty:BA->Option Nat)(own:List BA):Nd->Fl->Fl
 |.mk k s _ L f _ a,z=>ir ty own L<|bi (k==2&&ty s !=some L.length) 4 a (a+s.size)<|bi (k==16&& !fC s own) 4 f (f+s.size) z
def ir(ty:BA->Option Nat)(own:List BA):List Nd->Fl->Fl
 |[],z=>z|x::l,z=>ir ty own l<|tV ty own x z
end
mutual
def nB(mk:BA->Option Nat):Nd->List BA×Fl->List BA×Fl
 |.mk k s _ L f t a,q=>if k==1 then(q.1++[s],bi (fC s q.1) 5 f t q.2)else dK mk L (q.1,bi (k==2&&mk s !=some L.length) 5 a (a+s.size) q.2)
def dK(mk:BA->Option Nat):List Nd->List BA×Fl->List BA×Fl
 |[],q=>q|x::l,q=>dK mk l<|nB mk x q
end
mutual
def dM(ty mk:BA->Option Nat):Nd->List BA->Fl->Fl
 |.mk k s _ L f t _,l,z=>
  if k==1 then bi (!fC s l) 5 f t z
  else if k==2 then bi (mk s).isNone 5 f t z
  else if k==9 then QP ty mk L (l++[s]) z
  else if k==10 then UU ty mk L l (l++[s]) z
  else if k==11 then UU ty mk L (l++[s]) (l++[s]) z
  else if k==13 then aai ty mk L l z
  else if k==14 then UW ty mk L l z
  else iI ty mk L l z
def QP(ty mk:BA->Option Nat):List Nd->List BA->Fl->Fl
 |[],_,z=>z|x::_,l,z=>dM ty mk x l z
def UU(ty mk:BA->Option Nat):List Nd->List BA->List BA->Fl->Fl
 |[],_,_,z=>z|x::r,l,l',z=>QP ty mk r l'<|dM ty mk x l z
def UW(ty mk:BA->Option Nat):List Nd->List BA->Fl->Fl
 |[],_,z=>z|x::r,l,z=>(match r with|[]=>id|y::_=>tV ty [] y)<|dM ty mk x l z
def iI(ty mk:BA->Option Nat):List Nd->List BA->Fl->Fl
 |[],_,z=>z|x::r,l,z=>iI ty mk r l<|dM ty mk x l z
def aai(ty mk:BA->Option Nat):List Nd->List BA->Fl->Fl
 |[],_,z=>z|x::r,l,z=>oV ty mk r l<|dM ty mk x l z
def oV(ty mk:BA->Option Nat):List Nd->List BA->Fl->Fl
 |[],_,z=>z|p::r,l,z=>UT ty mk r l<|nB mk p ([],z)
def UT(ty mk:BA->Option Nat):List Nd->List BA->List BA×Fl->Fl
 |[],_,q=>q.2|e::r,l,q=>oV ty mk r l<|dM ty mk e (l++q.1) q.2
end
structure SE where
 ty:BA->Option Nat
 mks:BA->Option Nat
 nm:List BA
 f:Fl
abbrev Zh:=(BA->Option Nat)->BA->Nat->BA->Option Nat
def fE:Zh:=λt x n y=>if y=x then some n else t y
def Cu:List BA->List ja->Fl->Fl
 |_,[],z=>z|p,v::r,z=>Cu (p++[v.text]) r<|bi (fC v.text p) 4 v.al v.to z
def zH(u:Zh)(ty:BA->Option Nat)(own:List BA):List Nd->(BA->Option Nat)×Fl->(BA->Option Nat)×Fl
 |[],q=>q|.mk _ s _ L _ _ a::r,q=>zH u ty own r (u q.1 s L.length,ir ty own L<|bi (q.1 s).isSome 4 a (a+s.size) q.2)
def Tf(u:Zh):Dc->SE->SE
 |.ty t vs ms,e=>⟨u e.ty t.text vs.length,(zH u (u e.ty t.text vs.length) (vs.map (·.text)) ms (e.mks,Cu [] vs<|bi (e.ty t.text).isSome 4 t.al t.to e.f)).1,e.nm,(zH u (u e.ty t.text vs.length) (vs.map (·.text)) ms (e.mks,Cu [] vs<|bi (e.ty t.text).isSome 4 t.al t.to e.f)).2⟩|.lt r t b,e=>⟨e.ty,e.mks,e.nm++[t.text],dM e.ty e.mks b (if r then e.nm++[t.text]else e.nm) e.f⟩
def gh(u:Zh):List Dc->SE->SE
 |[],e=>e|d::r,e=>gh u r<|Tf u d e
abbrev mO:BA:=⟨#[73,110,116]⟩
abbrev iA:BA:=⟨#[66,111,111,108]⟩
abbrev iB:BA:=⟨#[85,110,105,116]⟩
def ty0:BA->Option Nat:=λx=>if x=mO\/x=iA\/x=iB then some 0 else none
def vw:SE:=⟨ty0,λ_=>none,[],gF⟩
mutual
def Ge(lo:Nat):Nd->Prop
 |.mk _ s _ L f _ a=>(lo<=f/\lo<=a)/\(f<=400/\a<=400/\s.size<=400)/\Jm lo L
def Jm(lo:Nat):List Nd->Prop
 |[]=>True|x::l=>Ge lo x/\Jm lo l
end
def Told(z:Fl)lo:=z.kind≠0/\z.al<=lo
def RL k a b z(hk:k≠0):Told (tell k a b z) a:=by grind[Told,tell]
mutual
def Ge.mono{lo hi:Nat}(h:lo<=hi):∀{nd:Nd},Ge hi nd->Ge lo nd
 |.mk _ _ _ L _ _ _,g=>⟨⟨Nat.le_trans h g.1.1,Nat.le_trans h g.1.2⟩,g.2.1,Jm.mono h g.2.2⟩
def Jm.mono{lo hi:Nat}(h:lo<=hi):∀{L:List Nd},Jm hi L->Jm lo L
 |[],_=>trivial|_::_,g=>⟨Ge.mono h g.1,Jm.mono h g.2⟩
end
end
section
open Go.ChangeMaps Un
def Lg n:=∀w:World,Cq 222 #[Nv n] w λe w'=>e=.returned (.string<|bs<|dec n)/\w'=w
def ON{p:Prop}(h:p:=by
 obtain rfl|rfl|rfl|rfl|rfl|rfl|rfl|rfl|rfl|rfl|rfl|rfl|rfl|rfl|rfl|rfl|rfl|rfl|rfl|rfl|rfl|rfl|rfl|rfl|rfl|rfl|rfl|rfl|rfl|rfl|rfl|rfl|rfl|rfl|rfl|rfl|rfl|rfl|rfl|rfl|rfl|rfl|rfl|rfl|rfl|rfl|rfl|rfl:=this;all_goals
  intro w;go_enter func222,ntmps222
  go_wp2
  go_ret;refine⟨?_,rfl⟩;first
  |(rw[dec,if_pos aK];kernel_rfl)
  |(rw[dec,if_neg aK,dec,if_pos aK];kernel_rfl)):p:=h
def Xj n(h0:0<=n)(h:n<48):Lg n:=by
 have:n=0\/n=1\/n=2\/n=3\/n=4\/n=5\/n=6\/n=7\/n=8\/n=9\/n=10\/n=11\/n=12\/n=13\/n=14\/n=15\/n=16\/n=17\/n=18\/n=19\/n=20\/n=21\/n=22\/n=23\/n=24\/n=25\/n=26\/n=27\/n=28\/n=29\/n=30\/n=31\/n=32\/n=33\/n=34\/n=35\/n=36\/n=37\/n=38\/n=39\/n=40\/n=41\/n=42\/n=43\/n=44\/n=45\/n=46\/n=47:=ae;exact ON
def Xk n(h0:48<=n)(h:n<96):Lg n:=by
 have:n=48\/n=49\/n=50\/n=51\/n=52\/n=53\/n=54\/n=55\/n=56\/n=57\/n=58\/n=59\/n=60\/n=61\/n=62\/n=63\/n=64\/n=65\/n=66\/n=67\/n=68\/n=69\/n=70\/n=71\/n=72\/n=73\/n=74\/n=75\/n=76\/n=77\/n=78\/n=79\/n=80\/n=81\/n=82\/n=83\/n=84\/n=85\/n=86\/n=87\/n=88\/n=89\/n=90\/n=91\/n=92\/n=93\/n=94\/n=95:=ae;exact ON
def RM n(h:n<96):Lg n:=by
 by_cases q:n<48
 .exact Xj n (Nat.zero_le _) q
 .exact Xk n ae h
def Xb n(h:n<96):Cq 73 #[Nv n] w λe w'=>e=.returned (.string<|bs<|dec n)/\w'=w:=by
 have HC:=RM n h w;have h0:(0:Int)<=(n:Int):=ae;have h1:(n:Int)<100:=ae;go_enter func73,ntmps73;go_wp2_with(first|(go_at_call 222;refine HC.mono ?_;rintro e w'⟨rfl,rfl⟩)|(go_at_call 106;go_in)|(go_at_call 143;go_in));go_ret;exact⟨rfl,rfl⟩
end
end Go.Proofs.YtfnkchdeheeiiaaGreatDoor

import Derived.Deep.CutRange
import Derived.Deep.RegionLaw
import Derived.RegionDies
import Derived.Test.YtlnlhlefeokfjaaGreatDoorPPure
import Derived.Test.YtlnlhlefeokfjaaGreatDoorPKit
set_option linter.all false
set_option maxRecDepth 100000
set_option maxHeartbeats 8000000
namespace Go.Proofs.YtlnlhlefeokfjaaGreatDoor
open Pu renaming Tok->ja,bF->jc
open Go Go.RowKit Proofs.Tryz
variable {s:BA} {l:List BA} {T:List ja} {e part sm small typ:M Nd} {cap g k k' rb:Nat} {σ:St} {α:Type} {w:World}
section
open Un
def dg n:=UInt8.ofNat<|48+n%10
def dec(n:Nat):List UInt8:=if n<10 then[dg n]else dec (n/10)++[dg n]
termination_by n
decreasing_by omega
def bs(l:List UInt8):BA:=⟨l.toArray⟩
def cq l:(bs l).size=l.length:=by simp[bs,ByteArray.size]
def df a b:bs a++bs b=bs (a++b):=by
 apply ByteArray.ext;simp[bs]
def yU n:(dec n).length<=n+1:=by
 induction n using Nat.strongRecOn with
 |_ n ih=>
  rw[dec];split
  .simp
  .grind
def bq:List (Nd×Nd)->List Nd
 |[]=>[]|p::l=>p.1::p.2::bq l
def lv:Nd->Nat
 |.mk k s _ L _ _ _=>if k=1\/k=3\/k=4\/k=5\/k=6\/k=14\/k=15\/k=16 then 5 else if k=2 then(if L=[]then 5 else 4)else if k=8 then 4 else if k=17 then 1 else if k=7 then(if s.toList=[42]then 3 else if s.toList=[60]then 1 else 2)else 0
inductive Dc where
 |ty(name:ja)(vars:List ja)(YT:List Nd)
 |lt(amX:Bool)(name:ja)(body:Nd)
def dJ T sm:=aV (dl T 2) λt k=>dn T sm 1 T.length (.mk 2 t.text 0 [] t.aF (aR T k) t.aF) k
def nT T(mk:M Nd)(go:List Nd->M (List Nd))l:=λk=>if aX (tk T k) Vw=true then go l (k+1)else .ok (l,k)
def eP(T:List ja)(mk:M Nd):Nat->List Nd->M (List Nd)
 |0,l=>λk=>.ok (l,k)|f+1,l=>aV mk λx=>nT T mk (eP T mk f)<|l++[x]
def pM(T:List ja):Nat->List ja->M (List ja)
 |0,l=>λk=>.ok (l,k)|f+1,l=>λk=>if(tk T k).kind=3 then pM T f (l++[tk T k]) (k+1)else .ok (l,k)
def LS(T:List ja)(mk:M Nd):M Dc:=aV (bz T po) λ_=>aV (dl T 2) λt=>aV (pM T T.length []) λvs=>aV (bz T kEq) λ_=>aV (eP T mk T.length []) λms=>aV (bz T Kx) λ_ k=>.ok (.ty t vs ms,k)
def DT(T:List ja)(e:M Nd):M Dc:=aV (ch T e) λb=>aV (bz T Kx) λ_ k=>.ok (.lt (b.1==11) b.2.1 b.2.2,k)
def eZ T n:=λk=>if aX (tk T k) po=true then LS T (dJ T<|aH T (da T n) (da T n) 1) k else DT T (bt T n) k
def dx(T:List ja)(d:M Dc):Nat->List Dc->M (List Dc)
 |0,l=>λk=>.ok (l,k)|f+1,l=>λk=>if aX (tk T k) po=true\/aX (tk T k) vR=true then aV d (λx=>dx T d f<|l++[x]) k else .ok (l,k)
def Vf(T:List ja)(l:List Dc):M (List Dc):=λk=>if(tk T k).kind=7 then .ok (l,k)else .error (eK<|tk T k)
def lF(s:BA):Except Fl (List Dc):=
 if 400<s.size then .error ⟨1,0,0⟩else
 match aV (dx (jc s 0) (eZ (jc s 0) (jc s 0).length) (jc s 0).length []) (Vf<|jc s 0) 0 with
 |.error f=>.error f|.ok (l,_)=>.ok l
end
def bB s:∀k a k',bz T s k=.ok (a,k')->k'=k+1:=by
 intro k a k' h;rw[bz]at h;split at h
 .cases h;rfl
 .cases h
def eN n:∀k a k',dl T n k=.ok (a,k')->k'=k+1:=by
 intro k a k' h;rw[dl]at h;split at h
 .cases h;rfl
 .cases h
def aC{β:Type}{m}{f:α->M β}{b:β}(h:aV m f k=.ok (b,k')):∃a k1,m k=.ok (a,k1)/\f a k1=.ok (b,k'):=by
 rw[aV]at h;split at h
 .cases h
 .grind
def sv{mk}{a}(h:sd T mk k=.ok (a,k')):k<k':=by
 have⟨_,k1,h1,h2⟩:=aC h;have:=bB _ _ _ _ h1
 cases h2
 omega
theorem cE(hp:GH part)(ht:GH typ)sort:∀k a k',aH T part typ sort k=.ok (a,k')->k<k':=by
 intro k a k' h;rw[aH]at h;split at h
 .split at h
  .rw[eQ]at h;split at h
   .cases h;omega
   .have⟨a1,k1,h1,h2⟩:=aC h;have m1:=hp _ _ _ h1;rw[iK]at h2;split at h2
    .have⟨b,k3,h3,h4⟩:=aC h2;have:=hp _ _ _ h3;have:=sv h4;omega
    .split at h2
     .have⟨b,k3,h3,h4⟩:=aC h2;have:=ht _ _ _ h3;have:=sv h4;omega
     .have:=sv h2;omega
  .cases h;omega
 .cases h
def aam sort:∀k,(tk T k).kind=2->aH T part typ sort k=.ok (cN<|tk T k,k+1):=by
 intro k hk;have h1:aX (tk T k) ug=false:=by simp[aX,hk]
 have h2:aK (tk T k) sort=true:=by
  rw[aK,bW];simp[hk]
 rw[aH];rw[h1,h2];rfl
def yW{p:Prop}(h:p:=by
 split at h
 .obtain⟨y,k1,h1,h2⟩:=aC h;have:=hm _ _ _ h1;have:=ih _ _ _ _ h2;omega
 .cases h;omega):p:=h
def Be(hm:∀k a k',small k=.ok (a,k')->k<k')sort:∀f x k a k',dn T small sort f x k=.ok (a,k')->k<=k':=by
 intro f
 induction f with
 |zero=>intro x k a k' h;cases h;omega|succ f ih=>
  intro x k a k' h;unfold dn at h;exact yW
def v7(hm:∀k a k',small k=.ok (a,k')->k<k')sort:∀k a k',iM T small sort k=.ok (a,k')->k<k':=by
 intro k a k' h;rw[iM]at h;split at h
 .have⟨y,k1,h1,h2⟩:=aC h;have:=hm _ _ _ h1;have:=Be hm sort _ _ _ _ _ h2;omega
 .exact hm _ _ _ h
def nU:GH (lZ (α:=α) T):=by
 intro k a k' h
 cases h
theorem dc:∀n,GH<|da T n:=by
 intro n
 induction n with
 |zero=>exact nU|succ n ih=>
  intro k a k' h;rw[da]at h;have⟨y,k1,h1,h2⟩:=aC h;have:=v7 (cE ih ih 1) 1 _ _ _ h1;rw[nI]at h2;split at h2
  .have⟨z,k3,h3,h4⟩:=aC h2;have:=ih _ _ _ h3
   cases h4
   omega
  .cases h2;omega
def pI:∀n,GH<|dv T n:=by
 intro n
 induction n with
 |zero=>exact nU|succ n ih=>
  intro k a k' h;have:=v7 (cE ih nU 2) 2 k a k' h;omega
def mZ{α:Type}(m:M α):=∀k a k',m k=.ok (a,k')->k<k'
def mZ.mono{m:M Nd}(h:mZ m):GH m:=λk a k' q=>Nat.le_of_lt<|h k a k' q
def Pf(hm:mZ sm)fr:∀f x k a k',jF T sm fr f x k=.ok (a,k')->k<=k':=by
 intro f
 induction f with
 |zero=>intro x k a k' h;cases h;omega|succ f ih=>
  intro x k a k' h;unfold jF at h;exact yW
def Pg(hm:mZ sm)fr:∀f x k a k',mL T sm fr f x k=.ok (a,k')->k<=k':=by
 intro f
 induction f with
 |zero=>intro x k a k' h;cases h;omega|succ f ih=>
  intro x k a k' h;unfold mL at h;exact yW
def V9(hm:mZ sm)fr:∀f x k a k',vW T sm fr f x k=.ok (a,k')->k<=k':=by
 intro f
 induction f with
 |zero=>intro x k a k' h;cases h;omega|succ f ih=>
  intro x k a k' h;unfold vW at h;exact yW
def uK(hm:mZ sm):mZ (db T sm):=λk a k' h=>by
 rw[db]at h;have⟨y,k1,h1,h2⟩:=aC h;have:=hm _ _ _ h1;have:=Pf hm _ _ _ _ _ _ h2;omega
def Bf(hm:mZ sm):mZ (fe T sm):=λk a k' h=>by
 rw[fe]at h;have⟨y,k1,h1,h2⟩:=aC h;have:=hm _ _ _ h1;have:=Pg hm _ _ _ _ _ _ h2;omega
def SU(hm:mZ sm):mZ (ur T sm):=λk a k' h=>by
 rw[ur]at h;have⟨y,k1,h1,h2⟩:=aC h;have:=hm _ _ _ h1;have:=V9 hm _ _ _ _ _ _ h2;omega
def abj(hm:mZ sm):mZ (uv T sm):=λk a k' h=>by
 rw[uv]at h;have⟨y,k1,h1,h2⟩:=aC h;have:=hm _ _ _ h1;split at h2
 .have⟨z,k2,h3,h4⟩:=aC h2;have:=hm _ _ _ h3
  cases h4
  omega
 .cases h2;omega
def SV{p:Prop}(h:p:=by
 have:=eN _ _ _ _ h3;have:=bB _ _ _ _ h5;have:=hm _ _ _ h7
 omega):p:=h
def Hu(hm:mZ e):mZ (vX T e):=λk a k' h=>by
 rw[vX]at h;have⟨_,k1,h1,h2⟩:=aC h;have⟨_,k2,h3,h4⟩:=aC h2;have⟨_,k3,h5,h6⟩:=aC h4;have⟨_,k4,h7,h8⟩:=aC h6
 cases h8
 have:=bB _ _ _ _ h1;exact SV
def Et(hm:mZ e):mZ (ch T e):=λk a k' h=>by
 rw[ch]at h;have⟨_,k1,h1,h2⟩:=aC h;have:=bB _ _ _ _ h1;split at h2
 .have⟨_,k2,h3,h4⟩:=aC h2;have⟨_,k3,h5,h6⟩:=aC h4;have⟨_,k4,h7,h8⟩:=aC h6
  cases h8
  have:=eN _ _ _ _ h3;have:=bB _ _ _ _ h5;have:=Hu hm _ _ _ h7;omega
 .have⟨_,k2,h3,h4⟩:=aC h2;have⟨_,k3,h5,h6⟩:=aC h4;have⟨_,k4,h7,h8⟩:=aC h6
  cases h8
  exact SV
def V_{p}(hp:GH p)(hm:mZ e):∀f l k a k',oa T p e f l k=.ok (a,k')->k<=k':=by
 intro f
 induction f with
 |zero=>intro l k a k' h;cases h;omega|succ f ih=>
  intro l k a k' h;rw[oa]at h;have⟨_,k1,h1,h2⟩:=aC h;have⟨_,k2,h3,h4⟩:=aC h2;have⟨_,k3,h5,h6⟩:=aC h4;have:=hp _ _ _ h1;have:=bB _ _ _ _ h3;have:=hm _ _ _ h5;split at h6
  .grind
  .cases h6;omega
theorem kR:∀n,mZ<|bt T n
 |0=>λk a k' h=>MO|n+1=>λk a k' h=>by
  have ih:=kR n;unfold bt at h;split at h
  .exact Hu ih _ _ _ h
  split at h
  .unfold qL at h;have⟨_,k1,h1,h2⟩:=aC h;have⟨_,k2,h3,h4⟩:=aC h2;have⟨_,k3,h5,h6⟩:=aC h4;have⟨_,k4,h7,h8⟩:=aC h6;have⟨_,k5,h9,h10⟩:=aC h8;have⟨_,k6,h11,h12⟩:=aC h10
   cases h12
   have:=bB _ _ _ _ h1;have:=ih _ _ _ h3;have:=bB _ _ _ _ h5;have:=ih _ _ _ h7;have:=bB _ _ _ _ h9;have:=ih _ _ _ h11;omega
  split at h
  .unfold v8 at h;have⟨_,k1,h1,h2⟩:=aC h;have⟨_,k2,h3,h4⟩:=aC h2;have⟨_,k3,h5,h6⟩:=aC h4;have⟨_,k4,h7,h8⟩:=aC h6;have⟨_,k5,h9,h10⟩:=aC h8
   cases h10
   have:=bB _ _ _ _ h1;have:=ih _ _ _ h3;have:=bB _ _ _ _ h5;have:=V_ (pI n) ih _ _ _ _ _ h7;have:=bB _ _ _ _ h9;omega
  split at h
  .unfold qR at h;have⟨_,k1,h1,h2⟩:=aC h;have⟨_,k2,h3,h4⟩:=aC h2;have⟨_,k3,h5,h6⟩:=aC h4
   cases h6
   have:=Et ih _ _ _ h1;have:=bB _ _ _ _ h3;have:=ih _ _ _ h5;omega
  .exact abj (SU<|Bf<|uK<|cE ih.mono (dc n) 3) _ _ _ h
def wF n:GH (bt T n):=(kR n).mono
section
open Un
mutual
def es:Nd->Nd
 |.mk k s n L _ _ _=>.mk k (if k=3\/k=15 then jY else s) (if k=3 then n else 0) (dz L) 0 0 0
def dz:List Nd->List Nd
 |[]=>[]|x::l=>es x::dz l
end
mutual
def nn:Nd->Nat
 |.mk _ _ _ L _ _ _=>1+bV L
def bV:List Nd->Nat
 |[]=>0|x::l=>nn x+bV l
end
def SW:∀l m,bV (l++m)=bV l+bV m
 |[],m=>by simp[bV]|x::l,m=>by simp[bV,SW l m];omega
def rZ x:1<=nn x:=by cases x;simp[nn]
def yz:∀l,l.length<=bV l
 |[]=>by simp[bV]|x::l=>by have:=rZ x;have:=yz l;simp[bV];omega
def m8 s(l:List BA):=l.any λx=>decide (x=s)
def acO:m8 s l=true↔s∈l:=by simp[m8]
def Qp:m8 s l=false↔s∉l:=by grind[m8]
def tell k a b(z:Fl):=if z.kind=0\/a<z.aF then⟨k,a,b⟩else z
structure SE where
 ty:BA->Option Nat
 mks:BA->Option Nat
 nm:List BA
 f:Fl
abbrev Upd:=(BA->Option Nat)->BA->Nat->BA->Option Nat
def yj:Upd:=λt x n y=>if y=x then some n else t y
abbrev lh:BA:=⟨#[73,110,116]⟩
abbrev gS:BA:=⟨#[66,111,111,108]⟩
abbrev jC:BA:=⟨#[85,110,105,116]⟩
def Xb:BA->Option Nat:=λx=>if x=lh\/x=gS\/x=jC then some 0 else none
end
section
open Go.ChangeMaps Un
def Ph n:=∀w:World,Cq 155 #[Nv n] w λe w'=>e=.returned (.string<|bs<|dec n)/\w'=w
def SY{p:Prop}(h:p:=by
 obtain rfl|rfl|rfl|rfl|rfl|rfl|rfl|rfl|rfl|rfl|rfl|rfl|rfl|rfl|rfl|rfl|rfl|rfl|rfl|rfl|rfl|rfl|rfl|rfl|rfl|rfl|rfl|rfl|rfl|rfl|rfl|rfl|rfl|rfl|rfl|rfl|rfl|rfl|rfl|rfl|rfl|rfl|rfl|rfl|rfl|rfl|rfl|rfl:=this;all_goals
  intro w;go_enter func155,ntmps155
  go_wp2
  go_ret;refine⟨?_,rfl⟩;first
  |(rw[dec,if_pos aw];kernel_rfl)
  |(rw[dec,if_neg aw,dec,if_pos aw];kernel_rfl)):p:=h
def abk n(h0:0<=n)(h:n<48):Ph n:=by
 have:n=0\/n=1\/n=2\/n=3\/n=4\/n=5\/n=6\/n=7\/n=8\/n=9\/n=10\/n=11\/n=12\/n=13\/n=14\/n=15\/n=16\/n=17\/n=18\/n=19\/n=20\/n=21\/n=22\/n=23\/n=24\/n=25\/n=26\/n=27\/n=28\/n=29\/n=30\/n=31\/n=32\/n=33\/n=34\/n=35\/n=36\/n=37\/n=38\/n=39\/n=40\/n=41\/n=42\/n=43\/n=44\/n=45\/n=46\/n=47:=ae;exact SY
def abl n(h0:48<=n)(h:n<96):Ph n:=by
 have:n=48\/n=49\/n=50\/n=51\/n=52\/n=53\/n=54\/n=55\/n=56\/n=57\/n=58\/n=59\/n=60\/n=61\/n=62\/n=63\/n=64\/n=65\/n=66\/n=67\/n=68\/n=69\/n=70\/n=71\/n=72\/n=73\/n=74\/n=75\/n=76\/n=77\/n=78\/n=79\/n=80\/n=81\/n=82\/n=83\/n=84\/n=85\/n=86\/n=87\/n=88\/n=89\/n=90\/n=91\/n=92\/n=93\/n=94\/n=95:=ae;exact SY
def Wd n(h:n<96):Ph n:=by
 by_cases q:n<48
 .exact abk n (Nat.zero_le _) q
 .exact abl n ae h
def abh n(h:n<96):Cq 55 #[Nv n] w λe w'=>e=.returned (.string<|bs<|dec n)/\w'=w:=by
 have HC:=Wd n h w;have h0:(0:Int)<=(n:Int):=ae;have h1:(n:Int)<100:=ae;go_enter func55,ntmps55;go_wp2_with(first|(go_at_call 155;refine HC.mono ?_;rintro e w'⟨rfl,rfl⟩)|(go_at_call 79;go_in)|(go_at_call 103;go_in));go_ret;exact⟨rfl,rfl⟩
end
end Go.Proofs.YtlnlhlefeokfjaaGreatDoor

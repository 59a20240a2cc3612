import Derived.Deep.RegionLaw
import Derived.Test.YtopmodaakdnliaaGreatDoorCPure
import Derived.Test.YtopmodaakdnliaaGreatDoorCLd0
import Derived.Test.YtopmodaakdnliaaGreatDoorCKit
set_option linter.all false
set_option maxRecDepth 100000
set_option maxHeartbeats 8000000
namespace Go.Proofs.YtopmodaakdnliaaGreatDoor
open Pu renaming Tok->ja,bG->jc
open Go Proofs.Tryz
variable {s:BA} {l:List BA} {T:List ja} {e part sm small typ:M Nd} {cap g k k' rb:Nat} {σ:St} {α:Type} {w:World}
section
open Go.RowKit Un
def dg n:=UInt8.ofNat<|48+n%10
def dec(n:Nat):List UInt8:=if n<10 then[dg n]else dec (n/10)++[dg n]
termination_by n
decreasing_by omega
def bs(l:List UInt8):BA:=⟨l.toArray⟩
def bS l:(bs l).size=l.length:=by simp[bs,ByteArray.size]
def om a b:bs a++bs b=bs (a++b):=by
 apply ByteArray.ext;simp[bs]
def ya n:(dec n).length<=n+1:=by
 induction n using Nat.strongRecOn with
 |_ n ih=>
  rw[dec];split
  .simp
  .grind
def bh:List (Nd×Nd)->List Nd
 |[]=>[]|p::l=>p.1::p.2::bh l
def lv:Nd->Nat
 |.mk k s _ L _ _ _=>if k=1\/k=3\/k=4\/k=5\/k=6\/k=14\/k=15\/k=16 then 5 else if k=2 then(if L=[]then 5 else 4)else if k=8 then 4 else if k=17 then 1 else if k=7 then(if s.toList=[42]then 3 else if s.toList=[60]then 1 else 2)else 0
def atP(p:Nat×List UInt8)(least:Nat):List UInt8:=Un.xU (decide (p.1<least)) p.2
def cr(P:List (Nat×List UInt8)):List UInt8:=P.flatMap λp=>32::atP p 5
def agA:Bool->List (Nat×List UInt8)->List UInt8
 |b,p::e::r=>(if b then[]else[32,124,32])++(p.2++([32,45,62,32]++(e.2++agA false r)))|_,_=>[]
def gP(P:List (Nat×List UInt8))(i:Nat):Nat×List UInt8:=P.getD i (0,[])
def CL(k:Nat)(s:BA)(n l:Nat)(P:List (Nat×List UInt8)):List UInt8:=
 if k=1\/k=4\/k=16 then s.toList
 else if k=15 then[95]
 else if k=3 then dec n
 else if k=5 then[40,41]
 else if k=2 then s.toList++cr P
 else if k=6 then 40::((gP P 0).2++([44,32]++((gP P 1).2++[41])))
 else if k=14 then 40::((gP P 0).2++([32,58,32]++((gP P 1).2++[41])))
 else if k=17 then atP (gP P 0) 2++([32,45,62,32]++(gP P 1).2)
 else if k=8 then atP (gP P 0) 4++(32::atP (gP P 1) 5)
 else if k=7 then atP (gP P 0) (if l=1 then 2 else l)++(32::(s.toList++(32::atP (gP P 1) (l+1))))
 else if k=9 then[102,117,110,32]++(s.toList++([32,45,62,32]++(gP P 0).2))
 else if k=12 then[105,102,32]++((gP P 0).2++([32,116,104,101,110,32]++((gP P 1).2++([32,101,108,115,101,32]++(gP P 2).2))))
 else if k=13 then[109,97,116,99,104,32]++((gP P 0).2++([32,119,105,116,104,32]++(agA true (P.drop 1)++[32,101,110,100])))
 else[108,101,116,32]++((if k=11 then[114,101,99,32]else[])++(s.toList++([32,61,32]++((gP P 0).2++([32,105,110,32]++(gP P 1).2)))))
mutual
def sh:Nd->List UInt8
 |.mk k s n L f t a=>CL k s n (lv<|.mk k s n L f t a)<|prL L
def prL:List Nd->List (Nat×List UInt8)
 |[]=>[]|x::l=>(lv x,sh x)::prL l
end
def Re:∀L:List Nd,prL L=L.map λx=>(lv x,sh x)
 |[]=>rfl|x::l=>by simp[prL,Re l]
inductive Dc where
 |ty(name:ja)(vars:List ja)(ZD:List Nd)
 |lt(aok:Bool)(name:ja)(body:Nd)
def dC T sm:=aX (dd T 2) λt k=>dw T sm 1 T.length (.mk 2 t.text 0 [] t.aD (aR T k) t.aD) k
def mT T(mk:M Nd)(go:List Nd->M (List Nd))l:=λk=>if aU (tk T k) VY=true then go l (k+1)else .ok (l,k)
def eD(T:List ja)(mk:M Nd):Nat->List Nd->M (List Nd)
 |0,l=>λk=>.ok (l,k)|f+1,l=>aX mk λx=>mT T mk (eD T mk f)<|l++[x]
def oM(T:List ja):Nat->List ja->M (List ja)
 |0,l=>λk=>.ok (l,k)|f+1,l=>λk=>if(tk T k).kind=3 then oM T f (l++[tk T k]) (k+1)else .ok (l,k)
def KH(T:List ja)(mk:M Nd):M Dc:=aX (bm T lO) λ_=>aX (dd T 2) λt=>aX (oM T T.length []) λvs=>aX (bm T kEq) λ_=>aX (eD T mk T.length []) λms=>aX (bm T Dm) λ_ k=>.ok (.ty t vs ms,k)
def Dl(T:List ja)(e:M Nd):M Dc:=aX (boundM T e) λb=>aX (bm T Dm) λ_ k=>.ok (.lt (b.1==11) b.2.1 b.2.2,k)
def eG T n:=λk=>if aU (tk T k) lO=true then KH T (dC T<|aJ T (iz T n) (iz T n) 1) k else Dl T (bu T n) k
def dD(T:List ja)(d:M Dc):Nat->List Dc->M (List Dc)
 |0,l=>λk=>.ok (l,k)|f+1,l=>λk=>if aU (tk T k) lO=true\/aU (tk T k) r9=true then aX d (λx=>dD T d f<|l++[x]) k else .ok (l,k)
def V5(T:List ja)(l:List Dc):M (List Dc):=λk=>if(tk T k).kind=7 then .ok (l,k)else .error (fD<|tk T k)
def lB(s:BA):Except Fl (List Dc):=
 if 400<s.size then .error ⟨1,0,0⟩else
 match aX (dD (jc s 0) (eG (jc s 0) (jc s 0).length) (jc s 0).length []) (V5<|jc s 0) 0 with
 |.error f=>.error f|.ok (l,_)=>.ok l
mutual
def es:Nd->Nd
 |.mk k s n L _ _ _=>.mk k (if k=3\/k=15 then ph else s) (if k=3 then n else 0) (Hz L) 0 0 0
def Hz:List Nd->List Nd
 |[]=>[]|x::l=>es x::Hz l
end
mutual
def nn:Nd->Nat
 |.mk _ _ _ L _ _ _=>1+cV L
def cV:List Nd->Nat
 |[]=>0|x::l=>nn x+cV l
end
def Rl:∀l m,cV (l++m)=cV l+cV m
 |[],m=>by simp[cV]|x::l,m=>by simp[cV,Rl l m];omega
def Ec x:1<=nn x:=by cases x;simp[nn]
def Gr:∀l,l.length<=cV l
 |[]=>by simp[cV]|x::l=>by have:=Ec x;have:=Gr l;simp[cV];omega
def nD s(l:List BA):=l.any λx=>decide (x=s)
def adm:nD s l=true↔s∈l:=by simp[nD]
def adn:nD s l=false↔s∉l:=by grind[nD]
def tell k a b(z:Fl):=if z.kind=0\/a<z.aD then⟨k,a,b⟩else z
structure SE where
 ty:BA->Option Nat
 mks:BA->Option Nat
 nm:List BA
 f:Fl
abbrev Upd:=(BA->Option Nat)->BA->Nat->BA->Option Nat
def wX:Upd:=λt x n y=>if y=x then some n else t y
abbrev lA:BA:=⟨#[73,110,116]⟩
abbrev kC:BA:=⟨#[66,111,111,108]⟩
abbrev pS:BA:=⟨#[85,110,105,116]⟩
def Yo:BA->Option Nat:=λx=>if x=lA\/x=kC\/x=pS then some 0 else none
end
section
open Go.RowKit
def bq s:∀k a k',bm T s k=.ok (a,k')->k'=k+1:=by
 intro k a k' h;rw[bm]at h;split at h
 .cases h;rfl
 .cases h
def eC n:∀k a k',dd T n k=.ok (a,k')->k'=k+1:=by
 intro k a k' h;rw[dd]at h;split at h
 .cases h;rfl
 .cases h
def au{β:Type}{m}{f:α->M β}{b:β}(h:aX m f k=.ok (b,k')):∃a k1,m k=.ok (a,k1)/\f a k1=.ok (b,k'):=by
 rw[aX]at h;split at h
 .cases h
 .grind
def rl{mk}{a}(h:qS T mk k=.ok (a,k')):k<k':=by
 have⟨_,k1,h1,h2⟩:=au h;have:=bq _ _ _ _ h1
 cases h2
 omega
theorem cC(hp:Gp part)(ht:Gp typ)sort:∀k a k',aJ T part typ sort k=.ok (a,k')->k<k':=by
 intro k a k' h;rw[aJ]at h;split at h
 .split at h
  .rw[fE]at h;split at h
   .cases h;omega
   .have⟨a1,k1,h1,h2⟩:=au h;have m1:=hp _ _ _ h1;rw[jU]at h2;split at h2
    .have⟨b,k3,h3,h4⟩:=au h2;have:=hp _ _ _ h3;have:=rl h4;omega
    .split at h2
     .have⟨b,k3,h3,h4⟩:=au h2;have:=ht _ _ _ h3;have:=rl h4;omega
     .have:=rl h2;omega
  .cases h;omega
 .cases h
def abc sort:∀k,(tk T k).kind=2->aJ T part typ sort k=.ok (dG<|tk T k,k+1):=by
 intro k hk;have h1:aU (tk T k) sH=false:=by simp[aU,hk]
 have h2:aF (tk T k) sort=true:=by
  rw[aF,bY];simp[hk]
 rw[aJ];rw[h1,h2];rfl
def yg{p:Prop}(h:p:=by
 split at h
 .obtain⟨y,k1,h1,h2⟩:=au h;have:=hm _ _ _ h1;have:=ih _ _ _ _ h2;omega
 .cases h;omega):p:=h
def Aw(hm:∀k a k',small k=.ok (a,k')->k<k')sort:∀f x k a k',dw T small sort f x k=.ok (a,k')->k<=k':=by
 intro f
 induction f with
 |zero=>intro x k a k' h;cases h;omega|succ f ih=>
  intro x k a k' h;unfold dw at h;exact yg
def uO(hm:∀k a k',small k=.ok (a,k')->k<k')sort:∀k a k',iM T small sort k=.ok (a,k')->k<k':=by
 intro k a k' h;rw[iM]at h;split at h
 .have⟨y,k1,h1,h2⟩:=au h;have:=hm _ _ _ h1;have:=Aw hm sort _ _ _ _ _ h2;omega
 .exact hm _ _ _ h
def mS:Gp (jW (α:=α) T):=by
 intro k a k' h
 cases h
theorem cZ:∀n,Gp<|iz T n:=by
 intro n
 induction n with
 |zero=>exact mS|succ n ih=>
  intro k a k' h;rw[iz]at h;have⟨y,k1,h1,h2⟩:=au h;have:=uO (cC ih ih 1) 1 _ _ _ h1;rw[qT]at h2;split at h2
  .have⟨z,k3,h3,h4⟩:=au h2;have:=ih _ _ _ h3
   cases h4
   omega
  .cases h2;omega
def oK:∀n,Gp<|b_ T n:=by
 intro n
 induction n with
 |zero=>exact mS|succ n ih=>
  intro k a k' h;have:=uO (cC ih mS 2) 2 k a k' h;omega
def mx{α:Type}(m:M α):=∀k a k',m k=.ok (a,k')->k<k'
def mx.mono{m:M Nd}(h:mx m):Gp m:=λk a k' q=>Nat.le_of_lt<|h k a k' q
def Qc(hm:mx sm)fr:∀f x k a k',iN T sm fr f x k=.ok (a,k')->k<=k':=by
 intro f
 induction f with
 |zero=>intro x k a k' h;cases h;omega|succ f ih=>
  intro x k a k' h;unfold iN at h;exact yg
def Qd(hm:mx sm)fr:∀f x k a k',lX T sm fr f x k=.ok (a,k')->k<=k':=by
 intro f
 induction f with
 |zero=>intro x k a k' h;cases h;omega|succ f ih=>
  intro x k a k' h;unfold lX at h;exact yg
def Xw(hm:mx sm)fr:∀f x k a k',uM T sm fr f x k=.ok (a,k')->k<=k':=by
 intro f
 induction f with
 |zero=>intro x k a k' h;cases h;omega|succ f ih=>
  intro x k a k' h;unfold uM at h;exact yg
def sX(hm:mx sm):mx (cY T sm):=λk a k' h=>by
 rw[cY]at h;have⟨y,k1,h1,h2⟩:=au h;have:=hm _ _ _ h1;have:=Qc hm _ _ _ _ _ _ h2;omega
def At(hm:mx sm):mx (eY T sm):=λk a k' h=>by
 rw[eY]at h;have⟨y,k1,h1,h2⟩:=au h;have:=hm _ _ _ h1;have:=Qd hm _ _ _ _ _ _ h2;omega
def Tc(hm:mx sm):mx (sP T sm):=λk a k' h=>by
 rw[sP]at h;have⟨y,k1,h1,h2⟩:=au h;have:=hm _ _ _ h1;have:=Xw hm _ _ _ _ _ _ h2;omega
def ac2(hm:mx sm):mx (sQ T sm):=λk a k' h=>by
 rw[sQ]at h;have⟨y,k1,h1,h2⟩:=au h;have:=hm _ _ _ h1;split at h2
 .have⟨z,k2,h3,h4⟩:=au h2;have:=hm _ _ _ h3
  cases h4
  omega
 .cases h2;omega
def RJ{p:Prop}(h:p:=by
 have:=eC _ _ _ _ h3;have:=bq _ _ _ _ h5;have:=hm _ _ _ h7
 omega):p:=h
def Gm(hm:mx e):mx (uv T e):=λk a k' h=>by
 rw[uv]at h;have⟨_,k1,h1,h2⟩:=au h;have⟨_,k2,h3,h4⟩:=au h2;have⟨_,k3,h5,h6⟩:=au h4;have⟨_,k4,h7,h8⟩:=au h6
 cases h8
 have:=bq _ _ _ _ h1;exact RJ
def DH(hm:mx e):mx (boundM T e):=λk a k' h=>by
 rw[boundM]at h;have⟨_,k1,h1,h2⟩:=au h;have:=bq _ _ _ _ h1;split at h2
 .have⟨_,k2,h3,h4⟩:=au h2;have⟨_,k3,h5,h6⟩:=au h4;have⟨_,k4,h7,h8⟩:=au h6
  cases h8
  have:=eC _ _ _ _ h3;have:=bq _ _ _ _ h5;have:=Gm hm _ _ _ h7;omega
 .have⟨_,k2,h3,h4⟩:=au h2;have⟨_,k3,h5,h6⟩:=au h4;have⟨_,k4,h7,h8⟩:=au h6
  cases h8
  exact RJ
def Xx{p}(hp:Gp p)(hm:mx e):∀f l k a k',m8 T p e f l k=.ok (a,k')->k<=k':=by
 intro f
 induction f with
 |zero=>intro l k a k' h;cases h;omega|succ f ih=>
  intro l k a k' h;rw[m8]at h;have⟨_,k1,h1,h2⟩:=au h;have⟨_,k2,h3,h4⟩:=au h2;have⟨_,k3,h5,h6⟩:=au h4;have:=hp _ _ _ h1;have:=bq _ _ _ _ h3;have:=hm _ _ _ h5;split at h6
  .grind
  .cases h6;omega
theorem jV:∀n,mx<|bu T n
 |0=>λk a k' h=>Dq|n+1=>λk a k' h=>by
  have ih:=jV n;unfold bu at h;split at h
  .exact Gm ih _ _ _ h
  split at h
  .unfold yu at h;have⟨_,k1,h1,h2⟩:=au h;have⟨_,k2,h3,h4⟩:=au h2;have⟨_,k3,h5,h6⟩:=au h4;have⟨_,k4,h7,h8⟩:=au h6;have⟨_,k5,h9,h10⟩:=au h8;have⟨_,k6,h11,h12⟩:=au h10
   cases h12
   have:=bq _ _ _ _ h1;have:=ih _ _ _ h3;have:=bq _ _ _ _ h5;have:=ih _ _ _ h7;have:=bq _ _ _ _ h9;have:=ih _ _ _ h11;omega
  split at h
  .unfold uq at h;have⟨_,k1,h1,h2⟩:=au h;have⟨_,k2,h3,h4⟩:=au h2;have⟨_,k3,h5,h6⟩:=au h4;have⟨_,k4,h7,h8⟩:=au h6;have⟨_,k5,h9,h10⟩:=au h8
   cases h10
   have:=bq _ _ _ _ h1;have:=ih _ _ _ h3;have:=bq _ _ _ _ h5;have:=Xx (oK n) ih _ _ _ _ _ h7;have:=bq _ _ _ _ h9;omega
  split at h
  .unfold aeL at h;have⟨_,k1,h1,h2⟩:=au h;have⟨_,k2,h3,h4⟩:=au h2;have⟨_,k3,h5,h6⟩:=au h4
   cases h6
   have:=DH ih _ _ _ h1;have:=bq _ _ _ _ h3;have:=ih _ _ _ h5;omega
  .exact ac2 (Tc<|At<|sX<|cC ih.mono (cZ n) 3) _ _ _ h
def uP n:Gp (bu T n):=(jV n).mono
end
section
open Go.RowKit Go.ChangeMaps Un
def Qe n:=∀w:World,Cq 209 #[Nv n] w λe w'=>e=.returned (.string<|bs<|dec n)/\w'=w
def Sh{p:Prop}(h:p:=by
 obtain rfl|rfl|rfl|rfl|rfl|rfl|rfl|rfl|rfl|rfl|rfl|rfl|rfl|rfl|rfl|rfl|rfl|rfl|rfl|rfl|rfl|rfl|rfl|rfl|rfl|rfl|rfl|rfl|rfl|rfl|rfl|rfl|rfl|rfl|rfl|rfl|rfl|rfl|rfl|rfl|rfl|rfl|rfl|rfl|rfl|rfl|rfl|rfl:=this;all_goals
  intro w;go_enter func209,ntmps209
  go_wp2
  go_ret;refine⟨?_,rfl⟩;first
  |(rw[dec,if_pos aA];kernel_rfl)
  |(rw[dec,if_neg aA,dec,if_pos aA];kernel_rfl)):p:=h
def ac6 n(h0:0<=n)(h:n<48):Qe n:=by
 have:n=0\/n=1\/n=2\/n=3\/n=4\/n=5\/n=6\/n=7\/n=8\/n=9\/n=10\/n=11\/n=12\/n=13\/n=14\/n=15\/n=16\/n=17\/n=18\/n=19\/n=20\/n=21\/n=22\/n=23\/n=24\/n=25\/n=26\/n=27\/n=28\/n=29\/n=30\/n=31\/n=32\/n=33\/n=34\/n=35\/n=36\/n=37\/n=38\/n=39\/n=40\/n=41\/n=42\/n=43\/n=44\/n=45\/n=46\/n=47:=ae;exact Sh
def ac7 n(h0:48<=n)(h:n<96):Qe n:=by
 have:n=48\/n=49\/n=50\/n=51\/n=52\/n=53\/n=54\/n=55\/n=56\/n=57\/n=58\/n=59\/n=60\/n=61\/n=62\/n=63\/n=64\/n=65\/n=66\/n=67\/n=68\/n=69\/n=70\/n=71\/n=72\/n=73\/n=74\/n=75\/n=76\/n=77\/n=78\/n=79\/n=80\/n=81\/n=82\/n=83\/n=84\/n=85\/n=86\/n=87\/n=88\/n=89\/n=90\/n=91\/n=92\/n=93\/n=94\/n=95:=ae;exact Sh
def Xy n(h:n<96):Qe n:=by
 by_cases q:n<48
 .exact ac6 n (Nat.zero_le _) q
 .exact ac7 n ae h
def NJ n(h:n<96):Cq 90 #[Nv n] w λe w'=>e=.returned (.string<|bs<|dec n)/\w'=w:=by
 have HC:=Xy n h w;have h0:(0:Int)<=(n:Int):=ae;have h1:(n:Int)<100:=ae;go_enter func90,ntmps90;go_wp2_with(first|(go_at_call 209;refine HC.mono ?_;rintro e w'⟨rfl,rfl⟩)|(go_at_call 127;go_in)|(go_at_call 180;go_in));go_ret;exact⟨rfl,rfl⟩
end
def Cc:joinedFacts Tryz.prog 3 Tryz.f3 Rows.closedSpec Rows.closedRow=true:=by
 rw[joinedFacts];exact(fA (fA (fA (fA (fA (fA (fA (fA (fA (fA (fA (fA (fA (fA (fA (fA (fA (fA (fA (fA (fA (fA (fA (fA (fA (fA (fA (fA (fA (fA (fA VR EO) RH) VS) VT) VU) cp6) VV) cp8) VW) Ob) Oc) Od) Oe) Og) Oh) Oi) Oj) Ol) Om) On) Oo) Oq) Ot) amT) amU) Ou) Ov) qkr) Ow) Ox) Oy)
end Go.Proofs.YtopmodaakdnliaaGreatDoor

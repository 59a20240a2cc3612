import Derived.Laws.IdiomStrings
import Derived.Test.YtoceemjbcgmojaaGreatDoorVPure
import Derived.Test.YtoceemjbcgmojaaGreatDoorVRa
set_option linter.all false
set_option maxRecDepth 100000
set_option maxHeartbeats 200000
namespace Go.Proofs.YtoceemjbcgmojaaGreatDoor
section
open Go Go.RowKit Un
def dg (n:Nat):UInt8:=UInt8.ofNat (48+n%10)
def dec (n:Nat):List UInt8:=if n<10 then [dg n] else dec (n/10)++[dg n]
termination_by n
decreasing_by omega
def bs (l:List UInt8):BA:=⟨l.toArray⟩
end
section
open Go Go.RowKit Un
structure P10 (w:World):Prop where
 c:∀j,j<10→w.cell? ⟨2,j,none⟩=some (.int .u64 ((10^j:Nat):Int))
 z:2<w.heap.size
theorem P10.block {w w':World} (h:P10 w) (hz:w.heap.size≤w'.heap.size) (hb:w'.heap[2]? =w.heap[2]?):P10 w':=⟨fun j hj=>(World.cell?_of_block (a:=⟨2,j,none⟩) hb).trans (h.c j hj),Nat.lt_of_lt_of_le h.z hz⟩
theorem P10.bel {w w':World} (h:P10 w) (hb:Below w.heap.size w w'):P10 w':=h.block hb.size (hb.block 2 h.z)
end
section
open Go Go.RowKit Un
def armN:List (Nd×Nd)→List Nd
 |[]=>[]
 |p::l=>p.1::p.2::armN l
def lv:Nd→Nat
 |.mk k s _ L _ _ _=>if k=1∨k=3∨k=4∨k=5∨k=6∨k=14∨k=15∨k=16 then 5 else if k=2 then (if L=[] then 5 else 4) else if k=8 then 4 else if k=17 then 1 else if k=7 then (if s.toList=[42] then 3 else if s.toList=[60] then 1 else 2) else 0
def atP (p:Nat×List UInt8) (least:Nat):List UInt8:=Un.par (decide (p.1<least)) p.2
def behindP (P:List (Nat×List UInt8)):List UInt8:=P.flatMap fun p=>32::atP p 5
def armsP:Bool→List (Nat×List UInt8)→List UInt8
 |b,p::e::r=>(if b then [] else [32,124,32])++(p.2++([32,45,62,32]++(e.2++armsP false r)))
 |_,_=>[]
def gP (P:List (Nat×List UInt8)) (i:Nat):Nat×List UInt8:=P.getD i (0,[])
def joinE (k:Nat) (s:BA) (n l:Nat) (P:List (Nat×List UInt8)):List UInt8:=
 if k=1∨k=4∨k=16 then s.toList
 else if k=15 then [95]
 else if k=3 then dec n
 else if k=5 then [40,41]
 else if k=2 then s.toList++behindP P
 else if k=6 then 40::((gP P 0).2++([44,32]++((gP P 1).2++[41])))
 else if k=14 then 40::((gP P 0).2++([32,58,32]++((gP P 1).2++[41])))
 else if k=17 then atP (gP P 0) 2++([32,45,62,32]++(gP P 1).2)
 else if k=8 then atP (gP P 0) 4++(32::atP (gP P 1) 5)
 else if k=7 then atP (gP P 0) (if l=1 then 2 else l)++(32::(s.toList++(32::atP (gP P 1) (l+1))))
 else if k=9 then [102,117,110,32]++(s.toList++([32,45,62,32]++(gP P 0).2))
 else if k=12 then [105,102,32]++((gP P 0).2++([32,116,104,101,110,32]++((gP P 1).2++([32,101,108,115,101,32]++(gP P 2).2))))
 else if k=13 then [109,97,116,99,104,32]++((gP P 0).2++([32,119,105,116,104,32]++(armsP true (P.drop 1)++[32,101,110,100])))
 else [108,101,116,32]++((if k=11 then [114,101,99,32] else [])++(s.toList++([32,61,32]++((gP P 0).2++([32,105,110,32]++(gP P 1).2)))))
mutual
def sh:Nd→List UInt8
 |.mk k s n L f t a=>joinE k s n (lv (.mk k s n L f t a)) (prL L)
def prL:List Nd→List (Nat×List UInt8)
 |[]=>[]
 |x::l=>(lv x,sh x)::prL l
end
end
section
open Go Go.RowKit Un
inductive Dc where
 |ty (name:Pu.Tok) (vars:List Pu.Tok) (makers:List Nd)
 |lt (rec_:Bool) (name:Pu.Tok) (body:Nd)
def qa9 (T:List Pu.Tok) (sm:M Nd):M Nd:=bnd (qa3 T 2) fun t k=>qbe T sm 1 T.length (.mk 2 t.text 0 [] t.frm (qal T k) t.frm) k
def qd4 (T:List Pu.Tok) (mk:M Nd) (go:List Nd→M (List Nd)) (l:List Nd):M (List Nd):=fun k=>if isT (tk T k) kBar=true then go l (k+1) else .ok (l,k)
def qbf (T:List Pu.Tok) (mk:M Nd):Nat→List Nd→M (List Nd)
 |0,l=>fun k=>.ok (l,k)
 |f+1,l=>bnd mk fun x=>qd4 T mk (qbf T mk f) (l++[x])
def qc3 (T:List Pu.Tok):Nat→List Pu.Tok→M (List Pu.Tok)
 |0,l=>fun k=>.ok (l,k)
 |f+1,l=>fun k=>if (tk T k).kind=3 then qc3 T f (l++[tk T k]) (k+1) else .ok (l,k)
def qfe (T:List Pu.Tok) (mk:M Nd):M Dc:=bnd (qaf T qco) fun _=>bnd (qa3 T 2) fun t=>bnd (qc3 T T.length []) fun vs=>bnd (qaf T kEq) fun _=>bnd (qbf T mk T.length []) fun ms=>bnd (qaf T qeq) fun _ k=>.ok (.ty t vs ms,k)
def letDM (T:List Pu.Tok) (e:M Nd):M Dc:=bnd (qbb T e) fun b=>bnd (qaf T qeq) fun _ k=>.ok (.lt (b.1==11) b.2.1 b.2.2,k)
def qc6 (T:List Pu.Tok) (n:Nat):M Dc:=fun k=>if isT (tk T k) qco=true then qfe T (qa9 T (qaj T (typM T n) (typM T n) 1)) k else letDM T (qar T n) k
def qbk (T:List Pu.Tok) (d:M Dc):Nat→List Dc→M (List Dc)
 |0,l=>fun k=>.ok (l,k)
 |f+1,l=>fun k=>if isT (tk T k) qco=true∨isT (tk T k) kLet=true then bnd d (fun x=>qbk T d f (l++[x])) k else .ok (l,k)
def endP (T:List Pu.Tok) (l:List Dc):M (List Dc):=fun k=>if (tk T k).kind=7 then .ok (l,k) else .error (flOf (tk T k))
def qc1 (s:BA):Except Fl (List Dc):=
 if 400<s.size then .error ⟨1,0,0⟩ else
 match bnd (qbk (Pu.toks s 0) (qc6 (Pu.toks s 0) (Pu.toks s 0).length) (Pu.toks s 0).length []) (endP (Pu.toks s 0)) 0 with
 |.error f=>.error f
 |.ok (l,_)=>.ok l
def letS (r:Bool) (s x:List UInt8):List UInt8:=[108,101,116,32]++((if r then [114,101,99,32] else [])++(s++([32,61,32]++x)))
def vsW (vs:List Pu.Tok):List UInt8:=vs.flatMap fun v=>[32]++v.text.toList
def mksW:Bool→List Nd→List UInt8
 |_,[]=>[]
 |b,m::r=>([32]++(if b then [61] else [124]))++(([32]++sh m)++mksW false r)
def dcS:Dc→List UInt8
 |.ty t vs ms=>[116,121,112,101]++(([32]++t.text.toList)++(vsW vs++mksW true ms))
 |.lt r t b=>letS r t.text.toList (sh b)
def dcE (d:Dc):List UInt8:=dcS d++[59,10]
def prS (l:List Dc):List UInt8:=l.flatMap dcE
end
section
open Go Go.RowKit Un
mutual
def es:Nd→Nd
 |.mk k s n L _ _ _=>.mk k (if k=3∨k=15 then kNo else s) (if k=3 then n else 0) (esL L) 0 0 0
def esL:List Nd→List Nd
 |[]=>[]
 |x::l=>es x::esL l
end
mutual
def nn:Nd→Nat
 |.mk _ _ _ L _ _ _=>1+nnL L
def nnL:List Nd→Nat
 |[]=>0
 |x::l=>nn x+nnL l
end
theorem nnL_app:∀l m,nnL (l++m)=nnL l+nnL m
 |[],m=>by simp [nnL]
 |x::l,m=>by simp [nnL,nnL_app l m];omega
theorem nn_pos (x:Nd):1≤nn x:=by cases x;simp [nn]
theorem nnL_len:∀l,l.length≤nnL l
 |[]=>by simp [nnL]
 |x::l=>by have:=nn_pos x;have:=nnL_len l;simp [nnL];omega
def inL (s:BA) (l:List BA):Bool:=l.any fun x=>decide (x=s)
theorem inL_iff {s:BA} {l:List BA}:inL s l=true↔s∈l:=by simp [inL]
theorem inL_not {s:BA} {l:List BA}:inL s l=false↔s∉l:=by rw [←inL_iff];simp
def tell (k a b:Nat) (z:Fl):Fl:=if z.kind=0∨a<z.frm then ⟨k,a,b⟩ else z
def qas (c:Bool) (k a b:Nat) (z:Fl):Fl:=if c then tell k a b z else z
mutual
def ckT (ty:BA→Option Nat) (own:List BA):Nd→Fl→Fl
 |.mk k s _ L f _ a,z=>ckTL ty own L (qas (k==2&&ty s !=some L.length) 4 a (a+s.size) (qas (k==16&& !inL s own) 4 f (f+s.size) z))
def ckTL (ty:BA→Option Nat) (own:List BA):List Nd→Fl→Fl
 |[],z=>z
 |x::l,z=>ckTL ty own l (ckT ty own x z)
end
mutual
def ckP (mk:BA→Option Nat):Nd→List BA×Fl→List BA×Fl
 |.mk k s _ L f t a,q=>if k==1 then (q.1++[s],qas (inL s q.1) 5 f t q.2) else ckPL mk L (q.1,qas (k==2&&mk s !=some L.length) 5 a (a+s.size) q.2)
def ckPL (mk:BA→Option Nat):List Nd→List BA×Fl→List BA×Fl
 |[],q=>q
 |x::l,q=>ckPL mk l (ckP mk x q)
end
mutual
def ckE (ty mk:BA→Option Nat):Nd→List BA→Fl→Fl
 |.mk k s _ L f t _,l,z=>
  if k==1 then qas (!inL s l) 5 f t z
  else if k==2 then qas (mk s).isNone 5 f t z
  else if k==9 then ckE1 ty mk L (l++[s]) z
  else if k==10 then ckE2 ty mk L l (l++[s]) z
  else if k==11 then ckE2 ty mk L (l++[s]) (l++[s]) z
  else if k==13 then ckEM ty mk L l z
  else if k==14 then ckEO ty mk L l z
  else ckEL ty mk L l z
def ckE1 (ty mk:BA→Option Nat):List Nd→List BA→Fl→Fl
 |[],_,z=>z
 |x::_,l,z=>ckE ty mk x l z
def ckE2 (ty mk:BA→Option Nat):List Nd→List BA→List BA→Fl→Fl
 |[],_,_,z=>z
 |x::r,l,l',z=>ckE1 ty mk r l' (ckE ty mk x l z)
def ckEO (ty mk:BA→Option Nat):List Nd→List BA→Fl→Fl
 |[],_,z=>z
 |x::r,l,z=>(match r with|[]=>id|y::_=>ckT ty [] y) (ckE ty mk x l z)
def ckEL (ty mk:BA→Option Nat):List Nd→List BA→Fl→Fl
 |[],_,z=>z
 |x::r,l,z=>ckEL ty mk r l (ckE ty mk x l z)
def ckEM (ty mk:BA→Option Nat):List Nd→List BA→Fl→Fl
 |[],_,z=>z
 |x::r,l,z=>ckEA ty mk r l (ckE ty mk x l z)
def ckEA (ty mk:BA→Option Nat):List Nd→List BA→Fl→Fl
 |[],_,z=>z
 |p::r,l,z=>ckEB ty mk r l (ckP mk p ([],z))
def ckEB (ty mk:BA→Option Nat):List Nd→List BA→List BA×Fl→Fl
 |[],_,q=>q.2
 |e::r,l,q=>ckEA ty mk r l (ckE ty mk e (l++q.1) q.2)
end
structure SE where
 ty:BA→Option Nat
 mks:BA→Option Nat
 nm:List BA
 f:Fl
abbrev Upd:=(BA→Option Nat)→BA→Nat→BA→Option Nat
def up1:Upd:=fun t x n y=>match t y with
 |some m=>some m
 |none=>if y=x then some n else none
def up2:Upd:=fun t x n y=>if y=x then some n else t y
theorem up_new {t:BA→Option Nat} {x:BA} (n:Nat) (h:t x=none):up1 t x n=up2 t x n:=by
 funext y
 unfold up1 up2
 by_cases e:y=x
 ·subst e;simp [h]
 ·simp only [if_neg e];cases t y<;>rfl
def ckV:List BA→List Pu.Tok→Fl→Fl
 |_,[],z=>z
 |p,v::r,z=>ckV (p++[v.text]) r (qas (inL v.text p) 4 v.frm v.to z)
def ckM (u:Upd) (ty:BA→Option Nat) (own:List BA):List Nd→(BA→Option Nat)×Fl→(BA→Option Nat)×Fl
 |[],q=>q
 |.mk _ s _ L _ _ a::r,q=>ckM u ty own r (u q.1 s L.length,ckTL ty own L (qas (q.1 s).isSome 4 a (a+s.size) q.2))
def ckD (u:Upd):Dc→SE→SE
 |.ty t vs ms,e=>⟨u e.ty t.text vs.length,(ckM u (u e.ty t.text vs.length) (vs.map (·.text)) ms (e.mks,ckV [] vs (qas (e.ty t.text).isSome 4 t.frm t.to e.f))).1,e.nm,(ckM u (u e.ty t.text vs.length) (vs.map (·.text)) ms (e.mks,ckV [] vs (qas (e.ty t.text).isSome 4 t.frm t.to e.f))).2⟩
 |.lt r t b,e=>⟨e.ty,e.mks,e.nm++[t.text],ckE e.ty e.mks b (if r then e.nm++[t.text] else e.nm) e.f⟩
def ckDs (u:Upd):List Dc→SE→SE
 |[],e=>e
 |d::r,e=>ckDs u r (ckD u d e)
abbrev kInt:BA:=⟨#[73,110,116]⟩
abbrev kBool:BA:=⟨#[66,111,111,108]⟩
abbrev kUnit:BA:=⟨#[85,110,105,116]⟩
def ty0:BA→Option Nat:=fun x=>if x=kInt∨x=kBool∨x=kUnit then some 0 else none
def se0:SE:=⟨ty0,fun _=>none,[],noFl⟩
mutual
def Ge (lo:Nat):Nd→Prop
 |.mk _ s _ L f _ a=>(lo≤f∧lo≤a)∧(f≤400∧a≤400∧s.size≤400)∧GeL lo L
def GeL (lo:Nat):List Nd→Prop
 |[]=>True
 |x::l=>Ge lo x∧GeL lo l
end
def Told (z:Fl) (lo:Nat):Prop:=z.kind≠0∧z.frm≤lo
theorem Told.mono {z:Fl} {lo hi:Nat} (h:Told z lo) (hl:lo≤hi):Told z hi:=⟨h.1,Nat.le_trans h.2 hl⟩
theorem Told.tell {z:Fl} {lo:Nat} (h:Told z lo) (k a b:Nat) (ha:lo≤a):tell k a b z=z:=by
 unfold Go.Proofs.YtoceemjbcgmojaaGreatDoor.tell
 rw [if_neg]
 rintro (q|q)
 ·exact h.1 q
 ·have:=h.2;omega
theorem Told.if {z:Fl} {lo:Nat} (h:Told z lo) (c:Bool) (k a b:Nat) (ha:lo≤a):qas c k a b z=z:=by
 unfold qas
 rw [h.tell k a b ha]
 split<;>rfl
theorem tell_told (k a b:Nat) (z:Fl) (hk:k≠0):Told (tell k a b z) a:=by
 unfold tell
 split
 ·exact ⟨hk,br _⟩
 ·rename_i h
  simp only [not_or] at h
  exact ⟨h.1,by omega⟩
theorem tell_twice (k a b:Nat) (z:Fl) (hk:k≠0):tell k a b (tell k a b z)=tell k a b z:=(tell_told k a b z hk).tell k a b (br _)
mutual
theorem ckT_stay {ty:BA→Option Nat} {own:List BA} {lo:Nat} {z:Fl} (h:Told z lo):∀nd,Ge lo nd→ckT ty own nd z=z
 |.mk k s n L f t a,g=>by
  obtain ⟨⟨g1,g2⟩,-,g3⟩:=g
  unfold ckT
  rw [h.if _ _ _ _ g1,h.if _ _ _ _ g2]
  exact ckTL_stay h L g3
theorem ckTL_stay {ty:BA→Option Nat} {own:List BA} {lo:Nat} {z:Fl} (h:Told z lo):∀L,GeL lo L→ckTL ty own L z=z
 |[],_=>rfl
 |x::l,g=>by
  unfold ckTL
  rw [ckT_stay h x g.1]
  exact ckTL_stay h l g.2
end
mutual
theorem ckP_stay {mk:BA→Option Nat} {lo:Nat} {z:Fl} (h:Told z lo):∀nd p,Ge lo nd→(ckP mk nd (p,z)).2=z
 |.mk k s n L f t a,p,g=>by
  obtain ⟨⟨g1,g2⟩,-,g3⟩:=g
  unfold ckP
  simp only
  rw [h.if _ _ _ _ g1,h.if _ _ _ _ g2]
  split
  ·rfl
  ·exact ckPL_stay h L p g3
theorem ckPL_stay {mk:BA→Option Nat} {lo:Nat} {z:Fl} (h:Told z lo):∀L p,GeL lo L→(ckPL mk L (p,z)).2=z
 |[],p,_=>rfl
 |x::l,p,g=>by
  unfold ckPL
  have:=ckP_stay (mk:=mk) h x p g.1
  rw [show ckP mk x (p,z)=((ckP mk x (p,z)).1,z) by rw [Prod.ext_iff];exact ⟨rfl,this⟩]
  exact ckPL_stay h l _ g.2
end
mutual
theorem qea {ty mk:BA→Option Nat} {lo:Nat} {z:Fl} (h:Told z lo):∀nd l,Ge lo nd→ckE ty mk nd l z=z
 |.mk k s n L f t a,l,g=>by
  obtain ⟨⟨g1,g2⟩,-,g3⟩:=g
  unfold ckE
  rw [h.if _ _ _ _ g1,h.if _ _ _ _ g1,ckE1_stay h L _ g3,ckE2_stay h L _ _ g3,ckE2_stay h L _ _ g3,ckEM_stay h L _ g3,ckEO_stay h L _ g3,ckEL_stay h L _ g3]
  repeat' split
  all_goals rfl
theorem ckE1_stay {ty mk:BA→Option Nat} {lo:Nat} {z:Fl} (h:Told z lo):∀L l,GeL lo L→ckE1 ty mk L l z=z
 |[],_,_=>by unfold ckE1;rfl
 |x::r,l,g=>by unfold ckE1;exact qea h x l g.1
theorem ckE2_stay {ty mk:BA→Option Nat} {lo:Nat} {z:Fl} (h:Told z lo):∀L l l',GeL lo L→ckE2 ty mk L l l' z=z
 |[],_,_,_=>by unfold ckE2;rfl
 |x::r,l,l',g=>by unfold ckE2;rw [qea h x l g.1];exact ckE1_stay h r l' g.2
theorem ckEO_stay {ty mk:BA→Option Nat} {lo:Nat} {z:Fl} (h:Told z lo):∀L l,GeL lo L→ckEO ty mk L l z=z
 |[],_,_=>by unfold ckEO;rfl
 |[x],l,g=>by unfold ckEO;rw [qea h x l g.1];rfl
 |x::y::r,l,g=>by unfold ckEO;rw [qea h x l g.1];exact ckT_stay h y g.2.1
theorem ckEL_stay {ty mk:BA→Option Nat} {lo:Nat} {z:Fl} (h:Told z lo):∀L l,GeL lo L→ckEL ty mk L l z=z
 |[],_,_=>by unfold ckEL;rfl
 |x::r,l,g=>by unfold ckEL;rw [qea h x l g.1];exact ckEL_stay h r l g.2
theorem ckEM_stay {ty mk:BA→Option Nat} {lo:Nat} {z:Fl} (h:Told z lo):∀L l,GeL lo L→ckEM ty mk L l z=z
 |[],_,_=>by unfold ckEM;rfl
 |x::r,l,g=>by unfold ckEM;rw [qea h x l g.1];exact ckEA_stay h r l g.2
theorem ckEA_stay {ty mk:BA→Option Nat} {lo:Nat} {z:Fl} (h:Told z lo):∀L l,GeL lo L→ckEA ty mk L l z=z
 |[],_,_=>by unfold ckEA;rfl
 |p::r,l,g=>by
  unfold ckEA
  have:=ckP_stay (mk:=mk) h p [] g.1
  rw [show ckP mk p ([],z)=((ckP mk p ([],z)).1,z) by rw [Prod.ext_iff];exact ⟨rfl,this⟩]
  exact ckEB_stay h r l _ g.2
theorem ckEB_stay {ty mk:BA→Option Nat} {lo:Nat} {z:Fl} (h:Told z lo):∀L l p,GeL lo L→ckEB ty mk L l (p,z)=z
 |[],_,_,_=>by unfold ckEB;rfl
 |e::r,l,p,g=>by unfold ckEB;rw [qea h e _ g.1];exact ckEA_stay h r l g.2
end
theorem ckV_stay {lo:Nat} {z:Fl} (h:Told z lo):∀vs p,(∀v∈vs,lo≤v.frm)→ckV p vs z=z
 |[],_,_=>rfl
 |v::r,p,g=>by
  unfold ckV
  rw [h.if _ _ _ _ (g v (by simp))]
  exact ckV_stay h r _ fun x hx=>g x (by simp [hx])
def AscM (lo:Nat):List Nd→Nat→Prop
 |[],hi=>lo≤hi
 |.mk k s n L f t a::r,hi=>lo≤a∧Ge a (.mk k s n L f t a)∧AscM a r hi
theorem AscM.le:∀{ms:List Nd} {lo hi:Nat},AscM lo ms hi→lo≤hi
 |[],_,_,h=>h
 |.mk _ _ _ _ _ _ _::r,_,_,h=>Nat.le_trans h.1 (AscM.le (ms:=r) h.2.2)
theorem AscM.up:∀{ms:List Nd} {lo hi hi':Nat},AscM lo ms hi→hi≤hi'→AscM lo ms hi'
 |[],_,_,_,h,g=>Nat.le_trans h g
 |.mk _ _ _ _ _ _ _::r,_,_,_,h,g=>⟨h.1,h.2.1,AscM.up (ms:=r) h.2.2 g⟩
def GeD (lo:Nat):Dc→Nat→Prop
 |.ty t vs ms,hi=>lo≤t.frm∧(∀v∈vs,t.frm≤v.frm)∧AscM t.frm ms hi
 |.lt _ _ b,hi=>lo≤hi∧Ge lo b
def AscD (lo:Nat):List Dc→Prop
 |[]=>True
 |d::r=>∃hi,GeD lo d hi∧AscD hi r
mutual
theorem Ge.mono {lo hi:Nat} (h:lo≤hi):∀{nd:Nd},Ge hi nd→Ge lo nd
 |.mk _ _ _ L _ _ _,g=>⟨⟨Nat.le_trans h g.1.1,Nat.le_trans h g.1.2⟩,g.2.1,GeL.mono h g.2.2⟩
theorem GeL.mono {lo hi:Nat} (h:lo≤hi):∀{L:List Nd},GeL hi L→GeL lo L
 |[],_=>trivial
 |_::_,g=>⟨Ge.mono h g.1,GeL.mono h g.2⟩
end
theorem ckM_stay (u:Upd) {ty:BA→Option Nat} {own:List BA}:∀(ms:List Nd) {lo hi:Nat} {mk:BA→Option Nat} {z:Fl},Told z lo→AscM lo ms hi→(ckM u ty own ms (mk,z)).2=z
 |[],_,_,_,_,_,_=>rfl
 |.mk _ s _ L _ _ a::r,lo,hi,mk,z,h,g=>by
  unfold ckM
  rw [h.if _ _ _ _ g.1,ckTL_stay (h.mono g.1) L g.2.1.2.2]
  exact ckM_stay u r (h.mono g.1) g.2.2
theorem ckM_same {ty:BA→Option Nat} {own:List BA}:∀(ms:List Nd) {lo hi:Nat} {mk:BA→Option Nat} {z:Fl},AscM lo ms hi→ckM up1 ty own ms (mk,z)=ckM up2 ty own ms (mk,z)∨((ckM up1 ty own ms (mk,z)).2=(ckM up2 ty own ms (mk,z)).2∧Told (ckM up1 ty own ms (mk,z)).2 hi)
 |[],_,_,_,_,_=>Or.inl rfl
 |.mk _ s _ L _ _ a::r,lo,hi,mk,z,g=>by
  unfold ckM
  simp only
  cases hm:mk s with
  |none=>rw [up_new _ hm];exact ckM_same r g.2.2
  |some m=>
   right
   have ht:Told (qas (some m).isSome 4 a (a+s.size) z) a:=by
    unfold qas
    exact tell_told 4 a _ z (by decide)
   rw [ckTL_stay ht L g.2.1.2.2,ckM_stay up1 r ht g.2.2,ckM_stay up2 r ht g.2.2]
   exact ⟨rfl,ht.mono g.2.2.le⟩
theorem ckDs_same:∀(l:List Dc) {lo:Nat} {e1 e2:SE},AscD lo l→(e1=e2∨(e1.f=e2.f∧Told e1.f lo))→(ckDs up1 l e1).f=(ckDs up2 l e2).f
 |[],_,_,_,_,h=>by
  rcases h with h|h
  ·rw [h];rfl
  ·exact h.1
 |d::r,lo,e1,e2,⟨hi,g,gr⟩,h=>by
  unfold ckDs
  refine ckDs_same r gr ?_
  cases d with
  |ty t vs ms=>
   obtain ⟨g1,g2,g3⟩:=g
   have stay:∀{u:Upd} {e:SE},Told (qas (e.ty t.text).isSome 4 t.frm t.to e.f) t.frm→(ckD u (.ty t vs ms) e).f=qas (e.ty t.text).isSome 4 t.frm t.to e.f:=fun {u e} h=>by
    unfold ckD
    simp only
    rw [ckV_stay h vs [] g2,ckM_stay u ms h g3]
   rcases h with rfl|⟨h1,h2⟩
   ·cases ht:e1.ty t.text with
    |some m=>
     have hT:Told (qas (e1.ty t.text).isSome 4 t.frm t.to e1.f) t.frm:=by
      rw [ht]
      unfold qas
      exact tell_told 4 _ _ _ (by decide)
     right
     rw [stay hT,stay hT]
     exact ⟨rfl,hT.mono g3.le⟩
    |none=>
     unfold ckD
     simp only
     rw [up_new _ ht]
     rcases ckM_same (ty:=up2 e1.ty t.text vs.length) (own:=vs.map (·.text)) ms (mk:=e1.mks) (z:=ckV [] vs (qas (e1.ty t.text).isSome 4 t.frm t.to e1.f)) g3 with q|q
     ·left;rw [q]
     ·right;exact q
   ·have s1:qas (e1.ty t.text).isSome 4 t.frm t.to e1.f=e1.f:=h2.if _ _ _ _ g1
    have s2:qas (e2.ty t.text).isSome 4 t.frm t.to e2.f=e2.f:=by rw [←h1];exact h2.if _ _ _ _ g1
    right
    rw [stay (by rw [s1];exact h2.mono g1),stay (by rw [s2,←h1];exact h2.mono g1),s1,s2]
    exact ⟨h1,h2.mono (Nat.le_trans g1 g3.le)⟩
  |lt rr t b=>
   obtain ⟨g1,g2⟩:=g
   rcases h with rfl|⟨h1,h2⟩
   ·exact Or.inl rfl
   ·right
    have s:∀{u:Upd} {e:SE},Told e.f lo→(ckD u (.lt rr t b) e).f=e.f:=fun {u e} h=>by
     unfold ckD
     exact qea h b _ g2
    rw [s h2,s (by rw [←h1];exact h2)]
    exact ⟨h1,h2.mono g1⟩
end
end Go.Proofs.YtoceemjbcgmojaaGreatDoor

import Derived.Deep.RegionLaw
import Derived.Maps.AppendAt
import Derived.Test.YtoceemjbcgmojaaGreatDoorVSe
import Derived.Test.YtoceemjbcgmojaaGreatDoorVSh0
set_option linter.all false
set_option maxRecDepth 100000
set_option maxHeartbeats 200000
namespace Go.Proofs.YtoceemjbcgmojaaGreatDoor
section
open Go Go.RowKit Un
theorem qd5 {P:Program} {ops:Array Oper} {o:Oper} {a:Act} {w:World} {K:Act→World→Prop} {Q:Exit→Act→World→Prop} {E:Prop}
 (hg:o.guard=none) (s x:Operand) (t:TypeId) (hop:o.op=Op.call {callee:=Callee.builtin Builtin.append,args:=#[s,x],argTypes:=#[t,t]})
 (base:Nat) (e:TypeId) (i:TypeInfo) (z:Value) (size bytes:Nat) (h1:P.underlying t=some (.slice e)) (h2:P.info? e=some i) (h3:i.zero=some z) (h4:i.size=size) (h5:i.bytes=bytes) (h6:z.cells.size=size) (h7:0<size)
 (v:Value) (n:Nat) (xs:List Value) (hs:a.eval s=v) (hown:w.ownsRow base e size v n xs)
 (ad:Addr) (m c:Nat) (news:List Value) (hx:a.eval x=.slice (some ad) m c) (hn:news.length=m*size) (hc:∀j u,news[j]? =some u→w.cell? (ad.add j)=some u) (h1c:∀u∈news,u.oneCell'=true)
 (b1:n+m≤maxLen) (b2:(n+m)*bytes≤140737488355328) (hbase:base≤w.heap.size)
 (hK:∀v' w',w'.ownsRow base e size v' (n+m) (xs++news)→w.grownBy w' v.ownBlock→(v'.ownBlock=v.ownBlock∨v'.ownBlock=some w.heap.size)→K (a.put o.dst v') w'):
 if Region.wanted o (yielded ops a.tmps)=true then Oper.wp P o a w K Q else E:=by
 have hw:Region.wanted o (yielded ops a.tmps)=true:=by simp [Region.wanted,hg]
 rw [if_pos hw]
 obtain ⟨v',w',hrun,r1,r2,_,r4⟩:=run_append_own_at (P:=P) w base t o.type e i z size bytes h1 h2 h3 h4 h5 h6 h7 v n xs hown ad m c news hn hc h1c b1 b2 hbase
 unfold Oper.wp
 simp [execOp,hop,resolve,invoke,builtin,hs,hx,hrun,Result.andThen]
 exact hK v' w' r1 r2 r4
section
variable {w:World}
end
end
section
open Go Go.RowKit Un
theorem qck {w:World} {base:Nat} {e:TypeId} {size:Nat} {v:Value} {n:Nat} {xs:List Value} (h:w.ownsRow base e size v n xs):∃la cap,v=.slice la n cap:=by
 obtain ⟨h1,h2⟩:=h
 rcases h2 with ⟨h2,rfl⟩|⟨g',cap',cur,hv,_⟩
 ·exact ⟨none,0,h2⟩
 ·exact ⟨_,_,hv⟩
section
variable {w:World} {kb:Nat} {hv iv:Value} {N:Nat} {K:Nat→Option Ty} {P:Nat→Prop}
end
end
section
open Go Go.RowKit Un
def varT (n:Nat):TV:=⟨(n:Int),⟨#[]⟩,none,0,0⟩
structure NS (w:World) (nb:Nat) (lv nv:Value) (ns:List BA):Prop where
 c0:w.cell? ⟨nb,0,none⟩=some lv
 c1:w.cell? ⟨nb,1,none⟩=some nv
 fz:∀j,w.frozen? ⟨nb,j,none⟩=false
 hk:nb<w.heap.size
 ol:w.ownsRow 0 9 1 lv ns.length (ns.map .string)
 on_:w.ownsRow 0 85 3 nv ns.length (flat3 ((List.range ns.length).map fun i=>varT (i+1)))
theorem NS.bel {w w':World} {nb:Nat} {lv nv:Value} {ns:List BA} (h:NS w nb lv nv ns) (hb:Below w.heap.size w w'):NS w' nb lv nv ns:=
 ⟨by rw [qei hb _ _ h.hk];exact h.c0,by rw [qei hb _ _ h.hk];exact h.c1,fun j=>by rw [oldMark hb _ _ h.hk];exact h.fz j,Nat.lt_of_lt_of_le h.hk hb.size,qa8 h.ol hb,qa8 h.on_ hb⟩
section
variable {w:World} {nb:Nat} {lv nv:Value} {ns:List BA}
def ix (s:BA):List BA→Nat
 |[]=>0
 |a::l=>if a.toList=s.toList then 0 else ix s l+1
def OfPost (ns:List BA) (s:BA) (w:World) (e:Ending) (w':World):Prop:=
 ∃y b,e=.returned (.tuple #[TV.v y,.bool b])∧Below w.heap.size w w'∧((b=true∧s∈ns∧y=varT (ix s ns+1))∨(b=false∧¬s∈ns∧y=TV.no))
end
end
section
open Go Go.RowKit Un
def addN (s:BA) (ns:List BA):List BA:=if ix s ns<ns.length then ns else ns++[s]
def conN (k:Nat) (s:BA):BA:=if k=17 then nFn else if k=6 then nPr else s
mutual
def mean (ns:List BA):Nd→Ty×List BA
 |.mk k s _ L _ _ _=>if k=16 then (.var (ix s (addN s ns)+1),addN s ns) else (.con (conN k s) (meanL ns L).1,(meanL ns L).2)
def meanL (ns:List BA):List Nd→List Ty×List BA
 |[]=>([],ns)
 |x::l=>((mean ns x).1::(meanL (mean ns x).2 l).1,(meanL (mean ns x).2 l).2)
end
inductive TyNd:Nd→Prop where
 |var (s:BA) (n f t a:Nat):TyNd (.mk 16 s n [] f t a)
 |two (k:Nat) (s:BA) (n:Nat) (x y:Nd) (f t a:Nat) (hk:k=17∨k=6) (hx:TyNd x) (hy:TyNd y):TyNd (.mk k s n [x,y] f t a)
 |up (s:BA) (n:Nat) (L:List Nd) (f t a:Nat) (hw:∀n,okN s n) (hl:L.length≤1001) (hL:∀i (h:i<L.length),TyNd L[i]):TyNd (.mk 2 s n L f t a)
def Mu (kb nb:Nat) (hv iv lv nv:Value):List Nat:=kb::nb::(hv.ownBlock.toList++iv.ownBlock.toList++lv.ownBlock.toList++nv.ownBlock.toList)
structure KN (w:World) (kb nb:Nat) (hv iv lv nv:Value) (ns:List BA) (K:Nat→Option Ty) (P:Nat→Prop):Prop where
 ks:KS w kb hv iv ns.length K P
 nms:NS w nb lv nv ns
 nd:(Mu kb nb hv iv lv nv).Nodup
 pm:∀b,P b→¬b∈Mu kb nb hv iv lv nv
 un:ns.Nodup
theorem KN.lt {w:World} {kb nb:Nat} {hv iv lv nv:Value} {ns:List BA} {K:Nat→Option Ty} {P:Nat→Prop} (h:KN w kb nb hv iv lv nv ns K P) {b:Nat} (hb:b∈Mu kb nb hv iv lv nv):b<w.heap.size:=by
 obtain ⟨xs,x1,x2,x3⟩:=h.ks.oi
 simp only [Mu,List.mem_cons,List.mem_append,Option.mem_toList] at hb
 rcases hb with rfl|rfl|((hb|hb)|hb)|hb
 ·exact h.ks.hk
 ·exact h.nms.hk
 ·exact (qai h.ks.oh b hb).2
 ·exact (qai x2 b hb).2
 ·exact (qai h.nms.ol b hb).2
 ·exact (qai h.nms.on_ b hb).2
theorem KN.bel {w w':World} {kb nb:Nat} {hv iv lv nv:Value} {ns:List BA} {K:Nat→Option Ty} {P:Nat→Prop} (h:KN w kb nb hv iv lv nv ns K P) (hb:Below w.heap.size w w'):KN w' kb nb hv iv lv nv ns K P:=
 ⟨h.ks.bel hb,h.nms.bel hb,h.nd,h.pm,h.un⟩
theorem KN.low {w:World} {kb nb:Nat} {hv iv lv nv:Value} {ns:List BA} {K:Nat→Option Ty} {P:Nat→Prop} (h:KN w kb nb hv iv lv nv ns K P):KN w kb nb hv iv lv nv ns K (fun b=>P b∧b<w.heap.size):=
 ⟨h.ks.low,h.nms,h.nd,fun b p=>h.pm b p.1,h.un⟩
theorem NS.same {w w':World} {nb:Nat} {lv nv:Value} {ns:List BA} (h:NS w nb lv nv ns) (hs:w.heap.size≤w'.heap.size) (hb:∀b,b<w.heap.size→(b=nb∨KB lv nv b)→w'.heap[b]? =w.heap[b]?):NS w' nb lv nv ns:=by
 have hk:=hb nb h.hk (Or.inl rfl)
 exact ⟨by rw [World.cell?_of_block (a:=⟨nb,0,none⟩) (w:=w) hk];exact h.c0,by rw [World.cell?_of_block (a:=⟨nb,1,none⟩) (w:=w) hk];exact h.c1,fun j=>by rw [World.frozen?_of_block (a:=⟨nb,j,none⟩) (w:=w) hk];exact h.fz j,Nat.lt_of_lt_of_le h.hk hs,
  qb3 h.ol (fun g hg=>hb g (qai h.ol g hg).2 (Or.inr (Or.inl hg))),qb3 h.on_ (fun g hg=>hb g (qai h.on_ g hg).2 (Or.inr (Or.inr hg)))⟩
theorem KN.same {w w':World} {kb nb:Nat} {hv iv lv nv:Value} {ns:List BA} {K:Nat→Option Ty} {P:Nat→Prop} (h:KN w kb nb hv iv lv nv ns K P) (hs:w.heap.size≤w'.heap.size) (hb:∀b,b<w.heap.size→(b∈Mu kb nb hv iv lv nv∨P b)→w'.heap[b]? =w.heap[b]?):KN w' kb nb hv iv lv nv ns K P:=by
 refine ⟨h.ks.same hs fun b hz hc=>hb b hz ?_,h.nms.same hs fun b hz hc=>hb b hz (Or.inl ?_),h.nd,h.pm,h.un⟩
 ·rcases hc with rfl|(hc|hc)|hc
  ·exact Or.inl (by simp [Mu])
  ·exact Or.inl (by simp [Mu,hc])
  ·exact Or.inl (by simp [Mu,hc])
  ·exact Or.inr hc
 ·rcases hc with rfl|(hc|hc)
  ·simp [Mu]
  ·simp [Mu,hc]
  ·simp [Mu,hc]
theorem KN.set {w:World} {kb nb:Nat} {hv iv lv nv:Value} {ns:List BA} {K:Nat→Option Ty} {P:Nat→Prop} (h:KN w kb nb hv iv lv nv ns K P) {b:Nat} (h1:¬b∈Mu kb nb hv iv lv nv) (h2:¬P b) (j:Nat) (u:Value):KN (w.setCell ⟨b,j,none⟩ u) kb nb hv iv lv nv ns K P:=
 h.same (by simp [World.setCell]) fun c _ hc=>Below.heap_setCell _ _ _ _ (by
  show c≠b
  rintro rfl
  rcases hc with hc|hc
  ·exact h1 hc
  ·exact h2 hc)
theorem KN.set3 {w:World} {kb nb:Nat} {hv iv lv nv:Value} {ns:List BA} {K:Nat→Option Ty} {P:Nat→Prop} (h:KN w kb nb hv iv lv nv ns K P) {b:Nat} (h1:¬b∈Mu kb nb hv iv lv nv) (h2:¬P b) (v0 v1 v2:Value):
 KN (((w.setCell ⟨b,0,none⟩ v0).setCell ⟨b,1,none⟩ v1).setCell ⟨b,2,none⟩ v2) kb nb hv iv lv nv ns K P:=((h.set h1 h2 0 v0).set h1 h2 1 v1).set h1 h2 2 v2
def MeantPost (kb nb:Nat) (hv iv lv nv:Value) (ns:List BA) (K:Nat→Option Ty) (P:Nat→Prop) (nd:Nd) (w:World) (e:Ending) (w':World):Prop:=
 ∃y hv' iv' lv' nv' Q,e=.returned (TV.v y)∧KN w' kb nb hv' iv' lv' nv' (mean ns nd).2 K Q∧TR w' Q (mean ns nd).2.length (mean ns nd).1 y∧Fr (·∈Mu kb nb hv iv lv nv) w w'∧
  (∀b,b∈Mu kb nb hv' iv' lv' nv'→b∈Mu kb nb hv iv lv nv∨w.heap.size≤b)∧(∀b,P b→b<w.heap.size→Q b)∧(∀b,Q b→(P b∧b<w.heap.size)∨w.heap.size≤b)
abbrev nodeA (x:NV):Array Value:=#[.int .i64 x.k,.string x.s,.int .i64 x.n,.slice x.la x.ll x.lc,.int .i64 x.f,.int .i64 x.t,.int .i64 x.a]
section
variable {w:World} {kb nb:Nat} {hv iv lv nv:Value} {ns:List BA} {K:Nat→Option Ty} {P:Nat→Prop}
end
end
section
open Go Go.RowKit Un
structure NSa (w:World) (nb:Nat) (lv nv:Value) (ns:List BA) (m:Nat):Prop where
 c0:w.cell? ⟨nb,0,none⟩=some lv
 c1:w.cell? ⟨nb,1,none⟩=some nv
 fz:∀j,w.frozen? ⟨nb,j,none⟩=false
 hk:nb<w.heap.size
 ol:w.ownsRow 0 9 1 lv ns.length (ns.map .string)
 on_:w.ownsRow 0 85 3 nv m (flat3 ((List.range m).map fun i=>varT (i+1)))
 nl:lv.ownBlock≠some nb
 nn:nv.ownBlock≠some nb
 na:∀b,lv.ownBlock=some b→nv.ownBlock≠some b
theorem NSa.ns {w:World} {nb:Nat} {lv nv:Value} {ns:List BA} (h:NSa w nb lv nv ns ns.length):NS w nb lv nv ns:=⟨h.c0,h.c1,h.fz,h.hk,h.ol,h.on_⟩
theorem Fr.trans' {S T:Nat→Prop} {a b c:World} (h:Fr S a b) (k:Fr T b c) (hT:∀x,T x→S x∨a.heap.size≤x):Fr S a c:=
 ⟨k.os.trans h.os,k.tape.trans h.tape,k.output.trans h.output,Nat.le_trans h.size k.size,fun i hi hn=>(k.block i (Nat.lt_of_lt_of_le hi h.size) (fun t=>by rcases hT i t with t|t;exact hn t;omega)).trans (h.block i hi hn)⟩
theorem mem_Mu {kb nb:Nat} {hv iv lv nv:Value} {b:Nat}:b∈Mu kb nb hv iv lv nv↔(b=kb∨KB hv iv b)∨(b=nb∨KB lv nv b):=by
 simp only [Mu,KB,List.mem_cons,List.mem_append,Option.mem_toList]
 constructor
 ·rintro (h|h|((h|h)|h)|h)<;>simp [h]
 ·rintro ((h|h|h)|(h|h|h))<;>simp [h]
end
section
open Go Go.RowKit Un
theorem TR.wide {w:World} {P Q:Nat→Prop} {N:Nat} {t:Ty} {x:TV} (h:TR w P N t x) (hq:∀b,P b→Q b):TR w Q N t x:=h.move (br _) (br _) (fun _ _ _=>rfl) (fun b p _=>hq b p)
theorem KS.wide {w:World} {kb:Nat} {hv iv:Value} {N:Nat} {K:Nat→Option Ty} {P Q:Nat→Prop} (h:KS w kb hv iv N K P) (hq:∀b,P b→Q b) (hp:∀b,Q b→b≠kb∧hv.ownBlock≠some b∧iv.ownBlock≠some b):KS w kb hv iv N K Q:=by
 obtain ⟨xs,x1,x2,x3⟩:=h.oi
 exact ⟨h.c0,h.c1,h.fz,h.hk,h.oh,⟨xs,x1,x2,fun i hi t e=>(x3 i hi t e).wide hq⟩,h.nh,h.ni,h.na,hp,h.hN,h.out⟩
theorem KN.wide {w:World} {kb nb:Nat} {hv iv lv nv:Value} {ns:List BA} {K:Nat→Option Ty} {P Q:Nat→Prop} (h:KN w kb nb hv iv lv nv ns K P) (hq:∀b,P b→Q b) (hp:∀b,Q b→¬b∈Mu kb nb hv iv lv nv):KN w kb nb hv iv lv nv ns K Q:=
 ⟨h.ks.wide hq (fun b q=>⟨fun e=>hp b q (mem_Mu.2 (Or.inl (Or.inl e))),fun e=>hp b q (mem_Mu.2 (Or.inl (Or.inr (Or.inl e)))),fun e=>hp b q (mem_Mu.2 (Or.inl (Or.inr (Or.inr e))))⟩),h.nms,h.nd,hp,h.un⟩
theorem TR.ofBx {w:World} {P:Nat→Prop} {N:Nat} (c:BA) (L:List Ty) (xs:List TV) (h0:L≠[]) (hL:L.length≤1001) (hl:xs.length=L.length) {g:Nat} {C:Array Value} (hB:Bx w g C) (hC:C=(flat3 xs).toArray)
 (hr:∀i (h:i<L.length),TR w P N L[i] (xs[i]'(by omega))) (hP:P g) (cap:Nat) (hw:okN c L.length):TR w P N (.con c L) ⟨0,c,some ⟨g,0,none⟩,L.length,cap⟩:=by
 subst hC
 have hx:∀i (h:i<L.length),xs.getD i TV.no=xs[i]'(by omega):=fun i h=>by rw [List.getD_eq_getElem?_getD,List.getElem?_eq_getElem (by omega)];rfl
 refine .row c L g cap (fun i=>xs.getD i TV.no) hw h0 hL hP hB.z (fun i hi j hj=>?_) (fun i hi=>?_)
 ·rw [hx i hi,hB.c,←flat3_at xs i j (by omega) hj]
  simp
 ·rw [hx i hi]
  exact hr i hi
theorem TR.pair {w:World} {P:Nat→Prop} {N:Nat} (c:BA) {u v:Ty} {x y:TV} {g:Nat} {C:Array Value} (hB:Bx w g C) (hC:C=(flat3 [x,y]).toArray) (hu:TR w P N u x) (hv:TR w P N v y) (hP:P g) (cap:Nat) (hw:okN c 2):
 TR w P N (.con c [u,v]) ⟨0,c,some ⟨g,0,none⟩,2,cap⟩:=
 TR.ofBx c [u,v] [x,y] (by simp) (by simp) rfl hB hC (fun i hi=>by
  match i,hi with
  |0,_=>exact hu
  |1,_=>exact hv) hP cap hw
theorem NR.low {w:World} {P:Nat→Prop} {nd:Nd} {x:NV} (h:NR w P nd x):NR w (fun b=>P b∧b<w.heap.size) nd x:=h.move (br _) (fun _ _ _=>rfl) (fun _ p z=>⟨p,z⟩)
theorem TR.set3 {w:World} {P:Nat→Prop} {N:Nat} {t:Ty} {x:TV} (h:TR w P N t x) {b:Nat} (hn:¬P b) (v0 v1 v2:Value):TR (((w.setCell ⟨b,0,none⟩ v0).setCell ⟨b,1,none⟩ v1).setCell ⟨b,2,none⟩ v2) P N t x:=
 h.move (br _) (by simp [World.setCell]) (fun c p _=>by
  have hne:c≠b:=fun e=>hn (e▸p)
  rw [Below.heap_setCell _ _ _ _ hne,Below.heap_setCell _ _ _ _ hne,Below.heap_setCell _ _ _ _ hne]) (fun _ p _=>p)
theorem Fr.set3 {S:Nat→Prop} {a w:World} (h:Fr S a w) {b:Nat} (hb:S b∨a.heap.size≤b) (v0 v1 v2:Value):Fr S a (((w.setCell ⟨b,0,none⟩ v0).setCell ⟨b,1,none⟩ v1).setCell ⟨b,2,none⟩ v2):=
 ((h.set hb 0 v0).set hb 1 v1).set hb 2 v2
def MeantC (nd:Nd):Prop:=∀(w:World) (kb nb:Nat) (hv iv lv nv:Value) (ns:List BA) (K:Nat→Option Ty) (P Q:Nat→Prop) (x:NV),KN w kb nb hv iv lv nv ns K P→NR w Q nd x→(∀b,Q b→¬b∈Mu kb nb hv iv lv nv)→(mean ns nd).2.length≤1000→
    Calls Tryz.prog 72 #[.pointer (some ⟨nb,0,none⟩),.pointer (some ⟨kb,0,none⟩),x.v] w (MeantPost kb nb hv iv lv nv ns K P nd w)
theorem addN_len (s:BA) (ns:List BA):ns.length≤(addN s ns).length:=by unfold addN;split<;>simp
mutual
theorem mean_len:∀(nd:Nd) (ns:List BA),ns.length≤(mean ns nd).2.length
 |.mk k s n L f t a,ns=>by
  simp only [mean]
  split
  ·exact addN_len s ns
  ·exact meanL_len L ns
theorem meanL_len:∀(L:List Nd) (ns:List BA),ns.length≤(meanL ns L).2.length
 |[],ns=>by simp [meanL]
 |x::l,ns=>by simp only [meanL];exact Nat.le_trans (mean_len x ns) (meanL_len l _)
end
end
section
open Go Go.RowKit Un
section
variable {w:World} {kb nb:Nat} {hv iv lv nv:Value} {ns:List BA} {K:Nat→Option Ty} {P Q:Nat→Prop}
end
end
section
open Go Go.RowKit Un
mutual
def cnt:Nd→Nat
 |.mk k _ _ L _ _ _=>(if k=16 then 1 else 0)+cntL L
def cntL:List Nd→Nat
 |[]=>0
 |x::l=>cnt x+cntL l
end
mutual
theorem mean_cnt:∀(nd:Nd) (ns:List BA),(mean ns nd).2.length≤ns.length+cnt nd
 |.mk k s n L f t a,ns=>by
  simp only [mean,cnt]
  split
  ·simp only [addN]
   split<;>simp<;>omega
  ·have:=meanL_cnt L ns
   simp;omega
theorem meanL_cnt:∀(L:List Nd) (ns:List BA),(meanL ns L).2.length≤ns.length+cntL L
 |[],ns=>by simp [meanL,cntL]
 |x::l,ns=>by
   have h1:=mean_cnt x ns
   have h2:=meanL_cnt l (mean ns x).2
   simp only [meanL,cntL];omega
end
def TyM (m:M Nd):Prop:=∀k a k',m k=.ok (a,k')→TyNd a∧k<k'∧cnt a≤k'-k
def UpOk (T:List Pu.Tok):Prop:=∀k,(tk T k).kind=2→∀n,okN (tk T k).text n
section
variable {T:List Pu.Tok}
end
end
end Go.Proofs.YtoceemjbcgmojaaGreatDoor

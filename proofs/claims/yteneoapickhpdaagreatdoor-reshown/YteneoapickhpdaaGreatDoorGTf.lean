import Derived.Deep.RegionLaw
import Derived.Maps.AppendAt
import Derived.Test.YteneoapickhpdaaGreatDoorGSa
import Derived.Test.YteneoapickhpdaaGreatDoorGSh0
set_option linter.unusedSimpArgs false
set_option linter.unusedVariables false
set_option linter.unusedSectionVars false
namespace Go.Proofs.YteneoapickhpdaaGreatDoor
open Go Go.RowKit Un

section
variable {w : World}
end
end Go.Proofs.YteneoapickhpdaaGreatDoor
namespace Go.Proofs.YteneoapickhpdaaGreatDoor
open Go Go.RowKit Un
section
variable {w : World} {kb : Nat} {hv iv : Value} {N : Nat} {K : Nat → Option Ty} {P : Nat → Prop}

end
end Go.Proofs.YteneoapickhpdaaGreatDoor
namespace Go.Proofs.YteneoapickhpdaaGreatDoor
open Go Go.RowKit Un

def varT (n : Nat) : TV := ⟨(n : Int), ⟨#[]⟩, none, 0, 0⟩
section
variable {w : World} {nb : Nat} {lv nv : Value} {ns : List ByteArray}

/-- Which of the names it is. -/
def ix (s : ByteArray) : List ByteArray → Nat
  | [] => 0
  | a :: l => if a.toList = s.toList then 0 else ix s l + 1
def OfPost (ns : List ByteArray) (s : ByteArray) (w : World) (e : Ending) (w' : World) : Prop :=
  ∃ y b, e = .returned (.tuple #[TV.v y, .bool b]) ∧ Below w.heap.size w w' ∧ ((b = true ∧ s ∈ ns ∧ y = varT (ix s ns + 1)) ∨ (b = false ∧ ¬ s ∈ ns ∧ y = TV.no))
end
end Go.Proofs.YteneoapickhpdaaGreatDoor
namespace Go.Proofs.YteneoapickhpdaaGreatDoor
open Go Go.RowKit Un

def addN (s : ByteArray) (ns : List ByteArray) : List ByteArray := if ix s ns < ns.length then ns else ns ++ [s]
/-- The name of what a part makes. -/
def conN (k : Nat) (s : ByteArray) : ByteArray := if k = 17 then nFn else if k = 6 then nPr else s
mutual
/-- The type that is meant by a part; names that are new come behind the others. -/
def mean (ns : List ByteArray) : Nd → Ty × List ByteArray
  | .mk k s _ L _ _ _ => if k = 16 then (.var (ix s (addN s ns) + 1), addN s ns) else (.con (conN k s) (meanL ns L).1, (meanL ns L).2)
def meanL (ns : List ByteArray) : List Nd → List Ty × List ByteArray
  | [] => ([], ns)
  | x :: l => ((mean ns x).1 :: (meanL (mean ns x).2 l).1, (meanL (mean ns x).2 l).2)
end
/-- A part that reads as a type. -/
inductive TyNd : Nd → Prop where
  | var (s : ByteArray) (n f t a : Nat) : TyNd (.mk 16 s n [] f t a)
  | two (k : Nat) (s : ByteArray) (n : Nat) (x y : Nd) (f t a : Nat) (hk : k = 17 ∨ k = 6) (hx : TyNd x) (hy : TyNd y) : TyNd (.mk k s n [x, y] f t a)
  | up (s : ByteArray) (n : Nat) (L : List Nd) (f t a : Nat) (hw : ∀ n, okN s n) (hl : L.length ≤ 1001) (hL : ∀ i (h : i < L.length), TyNd L[i]) : TyNd (.mk 2 s n L f t a)

/-- The blocks that may turn. -/
def Mu (kb nb : Nat) (hv iv lv nv : Value) : List Nat := kb :: nb :: (hv.ownBlock.toList ++ iv.ownBlock.toList ++ lv.ownBlock.toList ++ nv.ownBlock.toList)
abbrev nodeA (x : NV) : Array Value := #[.int .i64 x.k, .string x.s, .int .i64 x.n, .slice x.la x.ll x.lc, .int .i64 x.f, .int .i64 x.t, .int .i64 x.a]
section
variable {w : World} {kb nb : Nat} {hv iv lv nv : Value} {ns : List ByteArray} {K : Nat → Option Ty} {P : Nat → Prop}

end
end Go.Proofs.YteneoapickhpdaaGreatDoor
namespace Go.Proofs.YteneoapickhpdaaGreatDoor
open Go Go.RowKit Un
end Go.Proofs.YteneoapickhpdaaGreatDoor
namespace Go.Proofs.YteneoapickhpdaaGreatDoor
open Go Go.RowKit Un
theorem TR.wide {w : World} {P Q : Nat → Prop} {N : Nat} {t : Ty} {x : TV} (h : TR w P N t x) (hq : ∀ b, P b → Q b) : TR w Q N t x := h.move (Nat.le_refl _) (Nat.le_refl _) (fun _ _ _ => rfl) (fun b p _ => hq b p)
/-- A type whose parts lie in a block of the call's own. -/
theorem TR.ofBx {w : World} {P : Nat → Prop} {N : Nat} (c : ByteArray) (L : List Ty) (xs : List TV) (h0 : L ≠ []) (hL : L.length ≤ 1001) (hl : xs.length = L.length) {g : Nat} {C : Array Value} (hB : Bx w g C) (hC : C = (flat3 xs).toArray)
    (hr : ∀ i (h : i < L.length), TR w P N L[i] (xs[i]'(by omega))) (hP : P g) (cap : Nat) (hw : okN c L.length) : TR w P N (.con c L) ⟨0, c, some ⟨g, 0, none⟩, L.length, cap⟩ := by
  subst hC
  have hx : ∀ i (h : i < L.length), xs.getD i TV.no = xs[i]'(by omega) := fun i h => by rw [List.getD_eq_getElem?_getD, List.getElem?_eq_getElem (by omega)]; rfl
  refine .row c L g cap (fun i => xs.getD i TV.no) hw h0 hL hP hB.z (fun i hi j hj => ?_) (fun i hi => ?_)
  · rw [hx i hi, hB.c, ← flat3_at xs i j (by omega) hj]
    simp
  · rw [hx i hi]
    exact hr i hi
theorem TR.pair {w : World} {P : Nat → Prop} {N : Nat} (c : ByteArray) {u v : Ty} {x y : TV} {g : Nat} {C : Array Value} (hB : Bx w g C) (hC : C = (flat3 [x, y]).toArray) (hu : TR w P N u x) (hv : TR w P N v y) (hP : P g) (cap : Nat) (hw : okN c 2) :
    TR w P N (.con c [u, v]) ⟨0, c, some ⟨g, 0, none⟩, 2, cap⟩ :=
  TR.ofBx c [u, v] [x, y] (by simp) (by simp) rfl hB hC (fun i hi => by
    match i, hi with
    | 0, _ => exact hu
    | 1, _ => exact hv) hP cap hw
theorem NR.low {w : World} {P : Nat → Prop} {nd : Nd} {x : NV} (h : NR w P nd x) : NR w (fun b => P b ∧ b < w.heap.size) nd x := h.move (Nat.le_refl _) (fun _ _ _ => rfl) (fun _ p z => ⟨p, z⟩)
theorem TR.set3 {w : World} {P : Nat → Prop} {N : Nat} {t : Ty} {x : TV} (h : TR w P N t x) {b : Nat} (hn : ¬ P b) (v0 v1 v2 : Value) : TR (((w.setCell ⟨b, 0, none⟩ v0).setCell ⟨b, 1, none⟩ v1).setCell ⟨b, 2, none⟩ v2) P N t x :=
  h.move (Nat.le_refl _) (by simp [World.setCell]) (fun c p _ => by
    have hne : c ≠ b := fun e => hn (e ▸ p)
    rw [Below.heap_setCell _ _ _ _ hne, Below.heap_setCell _ _ _ _ hne, Below.heap_setCell _ _ _ _ hne]) (fun _ p _ => p)
theorem Fr.set3 {S : Nat → Prop} {a w : World} (h : Fr S a w) {b : Nat} (hb : S b ∨ a.heap.size ≤ b) (v0 v1 v2 : Value) : Fr S a (((w.setCell ⟨b, 0, none⟩ v0).setCell ⟨b, 1, none⟩ v1).setCell ⟨b, 2, none⟩ v2) :=
  ((h.set hb 0 v0).set hb 1 v1).set hb 2 v2
theorem addN_len (s : ByteArray) (ns : List ByteArray) : ns.length ≤ (addN s ns).length := by unfold addN; split <;> simp
mutual
theorem mean_len : ∀ (nd : Nd) (ns : List ByteArray), ns.length ≤ (mean ns nd).2.length
  | .mk k s n L f t a, ns => by
      simp only [mean]
      split
      · exact addN_len s ns
      · exact meanL_len L ns
theorem meanL_len : ∀ (L : List Nd) (ns : List ByteArray), ns.length ≤ (meanL ns L).2.length
  | [], ns => by simp [meanL]
  | x :: l, ns => by simp only [meanL]; exact Nat.le_trans (mean_len x ns) (meanL_len l _)
end
end Go.Proofs.YteneoapickhpdaaGreatDoor
namespace Go.Proofs.YteneoapickhpdaaGreatDoor
open Go Go.RowKit Un

mutual
/-- How many variables stand in a part. -/
def cnt : Nd → Nat
  | .mk k _ _ L _ _ _ => (if k = 16 then 1 else 0) + cntL L
def cntL : List Nd → Nat
  | [] => 0
  | x :: l => cnt x + cntL l
end
mutual
theorem mean_cnt : ∀ (nd : Nd) (ns : List ByteArray), (mean ns nd).2.length ≤ ns.length + cnt nd
  | .mk k s n L f t a, ns => by
      simp only [mean, cnt]
      split
      · simp only [addN]
        split <;> simp <;> omega
      · have := meanL_cnt L ns
        simp; omega
theorem meanL_cnt : ∀ (L : List Nd) (ns : List ByteArray), (meanL ns L).2.length ≤ ns.length + cntL L
  | [], ns => by simp [meanL, cntL]
  | x :: l, ns => by
      have h1 := mean_cnt x ns
      have h2 := meanL_cnt l (mean ns x).2
      simp only [meanL, cntL]; omega
end
/-- A parser of types: what it reads is one, and has no more variables than it took tokens. -/
def TyM (m : M Nd) : Prop := ∀ k a k', m k = .ok (a, k') → TyNd a ∧ k < k' ∧ cnt a ≤ k' - k
/-- An up name is no sign. -/
def UpOk (T : List Pu.Tok) : Prop := ∀ k, (tk T k).kind = 2 → ∀ n, okN (tk T k).text n
section
variable {T : List Pu.Tok}
end
end Go.Proofs.YteneoapickhpdaaGreatDoor
namespace Go.Proofs.YteneoapickhpdaaGreatDoor
open Go Go.RowKit Un
section
variable {w : World} {kb nb : Nat} {hv iv lv nv : Value} {ns : List ByteArray} {K : Nat → Option Ty} {P Q : Nat → Prop}

end
end Go.Proofs.YteneoapickhpdaaGreatDoor

import Derived.Deep.RegionLaw
import Derived.Maps.AppendAt
import Derived.Test.YteneoapickhpdaaGreatDoorJGSa
import Derived.Test.YteneoapickhpdaaGreatDoorJGSh0
set_option linter.unusedSimpArgs false
set_option linter.unusedVariables false
set_option linter.unusedSectionVars false
namespace Go.Proofs.YteneoapickhpdaaGreatDoor
open Go Go.RowKit Un

section
variable {w : World}
end
end Go.Proofs.YteneoapickhpdaaGreatDoor
namespace Go.Proofs.YteneoapickhpdaaGreatDoor
open Go Go.RowKit Un
section
variable {w : World} {kb : Nat} {hv iv : Value} {N : Nat} {K : Nat → Option Ty} {P : Nat → Prop}

end
end Go.Proofs.YteneoapickhpdaaGreatDoor
namespace Go.Proofs.YteneoapickhpdaaGreatDoor
open Go Go.RowKit Un

def varT (n : Nat) : TV := ⟨(n : Int), ⟨#[]⟩, none, 0, 0⟩
section
variable {w : World} {nb : Nat} {lv nv : Value} {ns : List ByteArray}

/-- Which of the names it is. -/
def ix (s : ByteArray) : List ByteArray → Nat
  | [] => 0
  | a :: l => if a.toList = s.toList then 0 else ix s l + 1
def OfPost (ns : List ByteArray) (s : ByteArray) (w : World) (e : Ending) (w' : World) : Prop :=
  ∃ y b, e = .returned (.tuple #[TV.v y, .bool b]) ∧ Below w.heap.size w w' ∧ ((b = true ∧ s ∈ ns ∧ y = varT (ix s ns + 1)) ∨ (b = false ∧ ¬ s ∈ ns ∧ y = TV.no))
end
end Go.Proofs.YteneoapickhpdaaGreatDoor
namespace Go.Proofs.YteneoapickhpdaaGreatDoor
open Go Go.RowKit Un

def addN (s : ByteArray) (ns : List ByteArray) : List ByteArray := if ix s ns < ns.length then ns else ns ++ [s]
theorem ix_mem {s : ByteArray} : ∀ {ns : List ByteArray}, s ∈ ns → ix s ns < ns.length
  | [], h => by simp at h
  | a :: ns, h => by
      simp only [ix]
      split
      · simp
      · rename_i ne
        rcases List.mem_cons.1 h with e | h
        · exact absurd (by rw [e]) ne
        · have := ix_mem h; simp; omega
theorem ix_not {s : ByteArray} : ∀ {ns : List ByteArray}, ¬ s ∈ ns → ix s ns = ns.length
  | [], _ => rfl
  | a :: ns, h => by
      simp only [ix]
      split
      · rename_i e; exact absurd (List.mem_cons.2 (Or.inl (toList_inj e).symm)) h
      · rw [ix_not (fun k => h (List.mem_cons_of_mem _ k))]; simp
theorem ix_snoc {s : ByteArray} : ∀ {ns : List ByteArray}, ¬ s ∈ ns → ix s (ns ++ [s]) = ns.length
  | [], _ => by simp [ix]
  | a :: ns, h => by
      simp only [List.cons_append, ix]
      split
      · rename_i e; exact absurd (List.mem_cons.2 (Or.inl (toList_inj e).symm)) h
      · rw [ix_snoc (fun k => h (List.mem_cons_of_mem _ k))]; simp
theorem addN_in {s : ByteArray} {ns : List ByteArray} (h : s ∈ ns) : addN s ns = ns := by rw [addN, if_pos (ix_mem h)]
theorem addN_out {s : ByteArray} {ns : List ByteArray} (h : ¬ s ∈ ns) : addN s ns = ns ++ [s] := by rw [addN, if_neg (by rw [ix_not h]; omega)]

/-- The name of what a part makes. -/
def conN (k : Nat) (s : ByteArray) : ByteArray := if k = 17 then nFn else if k = 6 then nPr else s
mutual
/-- The type that is meant by a part; names that are new come behind the others. -/
def mean (ns : List ByteArray) : Nd → Ty × List ByteArray
  | .mk k s _ L _ _ _ => if k = 16 then (.var (ix s (addN s ns) + 1), addN s ns) else (.con (conN k s) (meanL ns L).1, (meanL ns L).2)
def meanL (ns : List ByteArray) : List Nd → List Ty × List ByteArray
  | [] => ([], ns)
  | x :: l => ((mean ns x).1 :: (meanL (mean ns x).2 l).1, (meanL (mean ns x).2 l).2)
end
/-- A part that reads as a type. -/
inductive TyNd : Nd → Prop where
  | var (s : ByteArray) (n f t a : Nat) : TyNd (.mk 16 s n [] f t a)
  | two (k : Nat) (s : ByteArray) (n : Nat) (x y : Nd) (f t a : Nat) (hk : k = 17 ∨ k = 6) (hx : TyNd x) (hy : TyNd y) : TyNd (.mk k s n [x, y] f t a)
  | up (s : ByteArray) (n : Nat) (L : List Nd) (f t a : Nat) (hw : ∀ n, okN s n) (hl : L.length ≤ 1001) (hL : ∀ i (h : i < L.length), TyNd L[i]) : TyNd (.mk 2 s n L f t a)

/-- The blocks that may turn. -/
def Mu (kb nb : Nat) (hv iv lv nv : Value) : List Nat := kb :: nb :: (hv.ownBlock.toList ++ iv.ownBlock.toList ++ lv.ownBlock.toList ++ nv.ownBlock.toList)
abbrev nodeA (x : NV) : Array Value := #[.int .i64 x.k, .string x.s, .int .i64 x.n, .slice x.la x.ll x.lc, .int .i64 x.f, .int .i64 x.t, .int .i64 x.a]
section
variable {w : World} {kb nb : Nat} {hv iv lv nv : Value} {ns : List ByteArray} {K : Nat → Option Ty} {P : Nat → Prop}

end
end Go.Proofs.YteneoapickhpdaaGreatDoor
namespace Go.Proofs.YteneoapickhpdaaGreatDoor
open Go Go.RowKit Un
theorem Fr.trans' {S T : Nat → Prop} {a b c : World} (h : Fr S a b) (k : Fr T b c) (hT : ∀ x, T x → S x ∨ a.heap.size ≤ x) : Fr S a c :=
  ⟨k.os.trans h.os, k.tape.trans h.tape, k.output.trans h.output, Nat.le_trans h.size k.size, fun i hi hn => (k.block i (Nat.lt_of_lt_of_le hi h.size) (fun t => by rcases hT i t with t | t; exact hn t; omega)).trans (h.block i hi hn)⟩
end Go.Proofs.YteneoapickhpdaaGreatDoor
namespace Go.Proofs.YteneoapickhpdaaGreatDoor
open Go Go.RowKit Un
theorem TR.wide {w : World} {P Q : Nat → Prop} {N : Nat} {t : Ty} {x : TV} (h : TR w P N t x) (hq : ∀ b, P b → Q b) : TR w Q N t x := h.move (Nat.le_refl _) (Nat.le_refl _) (fun _ _ _ => rfl) (fun b p _ => hq b p)
/-- A type whose parts lie in a block of the call's own. -/
theorem TR.ofBx {w : World} {P : Nat → Prop} {N : Nat} (c : ByteArray) (L : List Ty) (xs : List TV) (h0 : L ≠ []) (hL : L.length ≤ 1001) (hl : xs.length = L.length) {g : Nat} {C : Array Value} (hB : Bx w g C) (hC : C = (flat3 xs).toArray)
    (hr : ∀ i (h : i < L.length), TR w P N L[i] (xs[i]'(by omega))) (hP : P g) (cap : Nat) (hw : okN c L.length) : TR w P N (.con c L) ⟨0, c, some ⟨g, 0, none⟩, L.length, cap⟩ := by
  subst hC
  have hx : ∀ i (h : i < L.length), xs.getD i TV.no = xs[i]'(by omega) := fun i h => by rw [List.getD_eq_getElem?_getD, List.getElem?_eq_getElem (by omega)]; rfl
  refine .row c L g cap (fun i => xs.getD i TV.no) hw h0 hL hP hB.z (fun i hi j hj => ?_) (fun i hi => ?_)
  · rw [hx i hi, hB.c, ← flat3_at xs i j (by omega) hj]
    simp
  · rw [hx i hi]
    exact hr i hi
theorem TR.pair {w : World} {P : Nat → Prop} {N : Nat} (c : ByteArray) {u v : Ty} {x y : TV} {g : Nat} {C : Array Value} (hB : Bx w g C) (hC : C = (flat3 [x, y]).toArray) (hu : TR w P N u x) (hv : TR w P N v y) (hP : P g) (cap : Nat) (hw : okN c 2) :
    TR w P N (.con c [u, v]) ⟨0, c, some ⟨g, 0, none⟩, 2, cap⟩ :=
  TR.ofBx c [u, v] [x, y] (by simp) (by simp) rfl hB hC (fun i hi => by
    match i, hi with
    | 0, _ => exact hu
    | 1, _ => exact hv) hP cap hw
theorem NR.low {w : World} {P : Nat → Prop} {nd : Nd} {x : NV} (h : NR w P nd x) : NR w (fun b => P b ∧ b < w.heap.size) nd x := h.move (Nat.le_refl _) (fun _ _ _ => rfl) (fun _ p z => ⟨p, z⟩)
theorem TR.set3 {w : World} {P : Nat → Prop} {N : Nat} {t : Ty} {x : TV} (h : TR w P N t x) {b : Nat} (hn : ¬ P b) (v0 v1 v2 : Value) : TR (((w.setCell ⟨b, 0, none⟩ v0).setCell ⟨b, 1, none⟩ v1).setCell ⟨b, 2, none⟩ v2) P N t x :=
  h.move (Nat.le_refl _) (by simp [World.setCell]) (fun c p _ => by
    have hne : c ≠ b := fun e => hn (e ▸ p)
    rw [Below.heap_setCell _ _ _ _ hne, Below.heap_setCell _ _ _ _ hne, Below.heap_setCell _ _ _ _ hne]) (fun _ p _ => p)
theorem Fr.set3 {S : Nat → Prop} {a w : World} (h : Fr S a w) {b : Nat} (hb : S b ∨ a.heap.size ≤ b) (v0 v1 v2 : Value) : Fr S a (((w.setCell ⟨b, 0, none⟩ v0).setCell ⟨b, 1, none⟩ v1).setCell ⟨b, 2, none⟩ v2) :=
  ((h.set hb 0 v0).set hb 1 v1).set hb 2 v2
theorem Bx.setO3 {w : World} {b b2 : Nat} {C : Array Value} (h : Bx w b C) (hn : b ≠ b2) (v0 v1 v2 : Value) : Bx (((w.setCell ⟨b2, 0, none⟩ v0).setCell ⟨b2, 1, none⟩ v1).setCell ⟨b2, 2, none⟩ v2) b C :=
  ((h.setO hn 0 v0).setO hn 1 v1).setO hn 2 v2
theorem addN_len (s : ByteArray) (ns : List ByteArray) : ns.length ≤ (addN s ns).length := by unfold addN; split <;> simp
mutual
theorem mean_len : ∀ (nd : Nd) (ns : List ByteArray), ns.length ≤ (mean ns nd).2.length
  | .mk k s n L f t a, ns => by
      simp only [mean]
      split
      · exact addN_len s ns
      · exact meanL_len L ns
theorem meanL_len : ∀ (L : List Nd) (ns : List ByteArray), ns.length ≤ (meanL ns L).2.length
  | [], ns => by simp [meanL]
  | x :: l, ns => by simp only [meanL]; exact Nat.le_trans (mean_len x ns) (meanL_len l _)
end
end Go.Proofs.YteneoapickhpdaaGreatDoor
namespace Go.Proofs.YteneoapickhpdaaGreatDoor
open Go Go.RowKit Un
section
variable {w : World} {kb nb : Nat} {hv iv lv nv : Value} {ns : List ByteArray} {K : Nat → Option Ty} {P Q : Nat → Prop}

end
end Go.Proofs.YteneoapickhpdaaGreatDoor
namespace Go.Proofs.YteneoapickhpdaaGreatDoor
open Go Go.RowKit Un

mutual
/-- How many variables stand in a part. -/
def cnt : Nd → Nat
  | .mk k _ _ L _ _ _ => (if k = 16 then 1 else 0) + cntL L
def cntL : List Nd → Nat
  | [] => 0
  | x :: l => cnt x + cntL l
end
theorem cntL_app : ∀ (a b : List Nd), cntL (a ++ b) = cntL a + cntL b
  | [], b => by simp [cntL]
  | x :: a, b => by simp [cntL, cntL_app a b]; omega
mutual
theorem mean_cnt : ∀ (nd : Nd) (ns : List ByteArray), (mean ns nd).2.length ≤ ns.length + cnt nd
  | .mk k s n L f t a, ns => by
      simp only [mean, cnt]
      split
      · simp only [addN]
        split <;> simp <;> omega
      · have := meanL_cnt L ns
        simp; omega
theorem meanL_cnt : ∀ (L : List Nd) (ns : List ByteArray), (meanL ns L).2.length ≤ ns.length + cntL L
  | [], ns => by simp [meanL, cntL]
  | x :: l, ns => by
      have h1 := mean_cnt x ns
      have h2 := meanL_cnt l (mean ns x).2
      simp only [meanL, cntL]; omega
end
/-- A parser of types: what it reads is one, and has no more variables than it took tokens. -/
def TyM (m : M Nd) : Prop := ∀ k a k', m k = .ok (a, k') → TyNd a ∧ k < k' ∧ cnt a ≤ k' - k
theorem bnd_in {α β : Type} {m : M α} {f : α → M β} {k : Nat} {b : β} {k' : Nat} (h : bnd m f k = .ok (b, k')) : ∃ a k1, m k = .ok (a, k1) ∧ f a k1 = .ok (b, k') := by
  unfold bnd at h
  split at h
  · cases h
  · rename_i a k1 e; exact ⟨a, k1, e, h⟩
theorem want_in {T : List Pu.Tok} {s : ByteArray} {k : Nat} {u : Unit} {k' : Nat} (h : wantM T s k = .ok (u, k')) : k' = k + 1 := by
  unfold wantM at h
  split at h
  · simp at h; exact h.symm
  · cases h
/-- An up name is no sign. -/
def UpOk (T : List Pu.Tok) : Prop := ∀ k, (tk T k).kind = 2 → ∀ n, okN (tk T k).text n
section
variable {T : List Pu.Tok}
theorem small_tyT (hU : UpOk T) {part : M Nd} (hp : TyM part) : TyM (smallM T part part 1) := by
  intro k a k' h
  unfold smallM at h
  split at h
  · rename_i hb
    split at h
    · unfold groupM at h
      simp only [ne_eq, not_true_eq_false, false_and, if_false] at h
      obtain ⟨u, k1, h1, h2⟩ := bnd_in h
      obtain ⟨t1, z1, c1⟩ := hp _ _ _ h1
      unfold restM at h2
      split at h2
      · obtain ⟨v, k2, h3, h4⟩ := bnd_in h2
        obtain ⟨t2, z2, c2⟩ := hp _ _ _ h3
        unfold closeM at h4
        obtain ⟨_, k3, h5, h6⟩ := bnd_in h4
        have := want_in h5
        simp only [Except.ok.injEq, Prod.mk.injEq] at h6
        obtain ⟨rfl, rfl⟩ := h6
        refine ⟨.two 6 _ _ _ _ _ _ _ (Or.inr rfl) t1 t2, by omega, ?_⟩
        simp [cnt, cntL]; omega
      · simp only [show ¬ (1 : Nat) = 3 by omega, false_and, if_false] at h2
        unfold closeM at h2
        obtain ⟨_, k3, h5, h6⟩ := bnd_in h2
        have := want_in h5
        simp only [Except.ok.injEq, Prod.mk.injEq] at h6
        obtain ⟨rfl, rfl⟩ := h6
        exact ⟨t1, by omega, by omega⟩
    · rename_i ho
      simp only [Except.ok.injEq, Prod.mk.injEq] at h
      obtain ⟨rfl, rfl⟩ := h
      have hk : (tk T k).kind = 2 ∨ (tk T k).kind = 3 := by
        have ho' : isT (tk T k) kOpen = false := by simpa using ho
        simp only [beginsB, ho', Bool.false_or, if_true, Bool.or_eq_true, beq_iff_eq] at hb
        revert hb
        unfold leafK
        intro hb
        by_cases e1 : (tk T k).kind = 1
        · simp [e1] at hb
        · by_cases e2 : (tk T k).kind = 2
          · exact Or.inl e2
          · by_cases e3 : (tk T k).kind = 3
            · exact Or.inr e3
            · exfalso
              simp only [e1, e2, e3, if_false] at hb
              repeat' split at hb
              all_goals omega
      rcases hk with hk | hk
      · have : leafN (tk T k) = .mk 2 (tk T k).text 0 [] (tk T k).frm (tk T k).to (tk T k).frm := by simp [leafN, leafK, leafNum, hk]
        rw [this]
        exact ⟨.up _ _ [] _ _ _ (hU k hk) (by simp) (fun i h => by simp at h), by omega, by simp [cnt, cntL]⟩
      · have : leafN (tk T k) = .mk 16 (tk T k).text 0 [] (tk T k).frm (tk T k).to (tk T k).frm := by simp [leafN, leafK, leafNum, hk]
        rw [this]
        exact ⟨.var _ _ _ _ _, by omega, by simp [cnt, cntL]⟩
  · cases h
theorem headF_tyT {small : M Nd} (hs : TyM small) (s : ByteArray) (hw : ∀ n, okN s n) : ∀ (f : Nat) (n : Nat) (L : List Nd) (fr t a k : Nat) (x : Nd) (k' : Nat), headF T small 1 f (.mk 2 s n L fr t a) k = .ok (x, k') → L.length + f ≤ 1001 → (∀ i (h : i < L.length), TyNd L[i]) →
    TyNd x ∧ k ≤ k' ∧ cnt x ≤ cntL L + (k' - k)
  | 0, n, L, fr, t, a, k, x, k', h, hl, hL => by
      simp only [headF, Except.ok.injEq, Prod.mk.injEq] at h
      obtain ⟨rfl, rfl⟩ := h
      exact ⟨.up _ _ L _ _ _ hw (by omega) hL, Nat.le_refl _, by simp [cnt]⟩
  | f + 1, n, L, fr, t, a, k, x, k', h, hl, hL => by
      simp only [headF] at h
      split at h
      · obtain ⟨y, k1, h1, h2⟩ := bnd_in h
        obtain ⟨t1, z1, c1⟩ := hs _ _ _ h1
        simp only [Nd.add] at h2
        have ih := headF_tyT hs s hw f n (L ++ [y]) fr _ a k1 x k' h2 (by simp; omega) (fun i hi => by
          by_cases e : i < L.length
          · rw [List.getElem_append_left e]; exact hL i e
          · rw [List.getElem_append_right (by omega)]
            simp at hi ⊢
            exact t1)
        rw [cntL_app] at ih
        simp only [cntL] at ih
        exact ⟨ih.1, by omega, by omega⟩
      · simp only [Except.ok.injEq, Prod.mk.injEq] at h
        obtain ⟨rfl, rfl⟩ := h
        exact ⟨.up _ _ L _ _ _ hw (by omega) hL, Nat.le_refl _, by simp [cnt]⟩
theorem head_tyT (hU : UpOk T) {small : M Nd} (hs : TyM small) (hT : T.length ≤ 1001) (hu : ∀ k, (tk T k).kind = 2 → small k = .ok (leafN (tk T k), k + 1)) : TyM (headM T small 1) := by
  intro k a k' h
  unfold headM at h
  split at h
  · rename_i hk
    have hk : (tk T k).kind = 2 := by simpa using hk
    obtain ⟨x, k1, h1, h2⟩ := bnd_in h
    rw [hu k hk] at h1
    simp only [Except.ok.injEq, Prod.mk.injEq] at h1
    obtain ⟨rfl, rfl⟩ := h1
    have : leafN (tk T k) = .mk 2 (tk T k).text 0 [] (tk T k).frm (tk T k).to (tk T k).frm := by simp [leafN, leafK, leafNum, hk]
    rw [this] at h2
    obtain ⟨t1, z1, c1⟩ := headF_tyT hs _ (hU k hk) _ _ _ _ _ _ _ _ _ h2 (by simp; omega) (fun i hi => by simp at hi)
    simp only [cntL] at c1
    exact ⟨t1, by omega, by omega⟩
  · exact hs _ _ _ h
theorem small_upT {part typ : M Nd} (k : Nat) (hk : (tk T k).kind = 2) : smallM T part typ 1 k = .ok (leafN (tk T k), k + 1) := by
  have h1 : isT (tk T k) kOpen = false := by simp [isT, hk]
  have h2 : beginsB (tk T k) 1 = true := by simp [beginsB, leafK, hk]
  simp [smallM, h1, h2]
/-- What reads as a type is one. -/
theorem typ_ty (hU : UpOk T) (hT : T.length ≤ 1001) : ∀ n, TyM (typM T n)
  | 0 => fun k a k' h => by simp [typM, wrongM] at h
  | n + 1 => fun k a k' h => by
      have ih := typ_ty hU hT n
      simp only [typM] at h
      obtain ⟨u, k1, h1, h2⟩ := bnd_in h
      obtain ⟨t1, z1, c1⟩ := head_tyT hU (small_tyT hU ih) hT (fun k hk => small_upT k hk) _ _ _ h1
      unfold arrowM at h2
      split at h2
      · obtain ⟨v, k2, h3, h4⟩ := bnd_in h2
        obtain ⟨t2, z2, c2⟩ := ih _ _ _ h3
        simp only [Except.ok.injEq, Prod.mk.injEq] at h4
        obtain ⟨rfl, rfl⟩ := h4
        refine ⟨.two 17 _ _ _ _ _ _ _ (Or.inl rfl) t1 t2, by omega, ?_⟩
        simp [cnt, cntL]; omega
      · simp only [Except.ok.injEq, Prod.mk.injEq] at h2
        obtain ⟨rfl, rfl⟩ := h2
        exact ⟨t1, by omega, by omega⟩
end
end Go.Proofs.YteneoapickhpdaaGreatDoor

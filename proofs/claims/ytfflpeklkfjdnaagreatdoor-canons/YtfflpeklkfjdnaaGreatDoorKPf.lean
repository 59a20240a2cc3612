import Derived.Test.YtfflpeklkfjdnaaGreatDoorKMa
import Derived.Test.YtfflpeklkfjdnaaGreatDoorKPd
set_option linter.unusedSimpArgs false
set_option linter.unusedVariables false
set_option linter.unusedSectionVars false
namespace Go.Proofs.YtfflpeklkfjdnaaGreatDoor
open Go Go.RowKit Go.ChangeMaps
/-- One block alone has turned. -/
structure One (b : Nat) (w w' : World) : Prop where
  os : w'.os = w.os
  tape : w'.tape = w.tape
  output : w'.output = w.output
  size : w'.heap.size = w.heap.size
  block : ∀ k, k ≠ b → w'.heap[k]? = w.heap[k]?
theorem One.set (w : World) (b : Nat) (o : Obj) : One b w (setBlock w b o) := ⟨rfl, rfl, rfl, by simp [setBlock], fun k hk => by simp [setBlock, Array.getElem?_setIfInBounds, Ne.symm hk]⟩
theorem One.below {b n : Nat} {a w w' : World} (h : Below n a w) (k : One b w w') (hb : n ≤ b) : Below n a w' :=
  ⟨k.os.trans h.os, k.tape.trans h.tape, k.output.trans h.output, k.size ▸ h.size, fun i hi => (k.block i (by omega)).trans (h.block i hi)⟩
theorem Bx.one {w w' : World} {b c : Nat} {C : Array Value} (h : Bx w b C) (k : One c w w') (hn : b ≠ c) : Bx w' b C := h.same (by rw [k.size]; exact Nat.le_refl _) (k.block b hn)
theorem MS.one {κ : Type} [DecidableEq κ] {enc : κ → Value} {w w' : World} {b c : Nat} {L : List (κ × Value)} (h : MS enc w b L) (k : One c w w') (hn : b ≠ c) : MS enc w' b L := h.same (k.block b hn)
section
variable {P : Program} {κ : Type} [DecidableEq κ] {enc : κ → Value} {ok : World → κ → Prop}
/-- A store into a map, for the walk. -/
theorem wpList_put (w : World) {ops : Array Oper} {rest : List Oper} {o : Oper} {a : Act} {Q : Exit → Act → World → Prop}
    (hg : o.guard = none) (m x v : Operand) (t : TypeId) (hop : o.op = Op.insert t m x v ∨ o.op = Op.mapUpdate t m x v)
    {k e : TypeId} (K : KL P k enc ok) (ht : P.underlying t = some (.map k e)) (b : Nat) (L : List (κ × Value))
    (hm : a.eval m = .map (some b)) (hM : MS enc w b L) (key : κ) (val : Value) (hx : a.eval x = enc key) (hv : a.eval v = val) (h1 : ok w key) (h2 : ∀ p ∈ L, ok w p.1)
    (hK : ∀ w', MS enc w' b (putL key val L) → One b w w' → wpList P ops Q rest (a.put o.dst undef) w') :
    wpList P ops Q (o :: rest) a w := by
  refine wpList_plain hg fun K' hK' => ?_
  obtain ⟨ob, hrun, r1⟩ := hM.put K ht key val h1 h2
  unfold Oper.wp
  rcases hop with hop | hop <;>
  · simp [execOp, hop, hm, hx, hv, hrun, Result.andThen]
    exact hK' _ _ (hK _ r1 (One.set w b ob))
end
abbrev kVar : ByteArray := ⟨#[97, 32, 118, 97, 114, 105, 97, 98, 108, 101]⟩
abbrev kUp : ByteArray := ⟨#[117, 112, 32, 110, 97, 109, 101]⟩
abbrev kOpn : ByteArray := ⟨#[40]⟩
def RulesPost (w : World) (e : Ending) (w' : World) : Prop := ∃ b, e = .returned (.map (some b)) ∧ w.heap.size ≤ b ∧ Below w.heap.size w w'
theorem Ma.new {w : World} : MS Value.string (w.alloc (.map #[] 0)) w.heap.size [] := MS.new _ w
section
variable {w : World}
set_option maxRecDepth 100000 in
set_option maxHeartbeats 1000000 in
theorem operator_C (p : Addr) (f : Fn) (x y : Array Value) : Calls Tryz.prog 277 #[.pointer (some p), .func f x y] w fun e w' => (∃ v, e = .returned v) ∧ Below w.heap.size w w' := by
  have hmf : ∀ (fn : Fn) (first cap : Array Value) (w : World), (Instr.makeFunc fn first cap).run Tryz.prog w = .ok (.func fn first cap) w := fun _ _ _ _ => rfl
  go_enter Tryz.func277, Tryz.ntmps277
  go_wp2_with fail
  go_ret
  exact ⟨⟨_, rfl⟩, ((Below.refl _ _).alloc (Nat.le_refl _) _).alloc (by simp) _⟩
set_option maxRecDepth 100000 in
set_option maxHeartbeats 1000000 in
theorem declRules_C (p : Addr) : Calls Tryz.prog 177 #[.pointer (some p)] w (RulesPost w) := by
  have H := hide (Ma.new (w := w))
  have HB := hide ((Below.refl w.heap.size w).alloc (Nat.le_refl _) (.map #[] 0))
  have hmf : ∀ (fn : Fn) (first cap : Array Value) (w : World), (Instr.makeFunc fn first cap).run Tryz.prog w = .ok (.func fn first cap) w := fun _ _ _ _ => rfl
  have hmm := @run_makeMap Tryz.prog
  go_enter Tryz.func177, Tryz.ntmps177
  go_wp2_with ((refine wpList_put _ rfl _ _ _ _ (Or.inl rfl) (KL.str Tryz.underlying234) Tryz.underlying239 _ _ rfl (unhide H) _ _ rfl rfl trivial (fun _ _ => trivial) ?_; clear H; intro w' H' O'; have H := hide H'; have HB := hide (One.below (unhide HB) O' (by exact Nat.le_refl _)); clear H' O'))
  go_ret
  exact ⟨_, rfl, by simp, unhide HB⟩
set_option maxRecDepth 100000 in
set_option maxHeartbeats 1000000 in
theorem wordedRules_C (p : Addr) : Calls Tryz.prog 178 #[.pointer (some p)] w (RulesPost w) := by
  have H := hide (Ma.new (w := w))
  have HB := hide ((Below.refl w.heap.size w).alloc (Nat.le_refl _) (.map #[] 0))
  have hmf : ∀ (fn : Fn) (first cap : Array Value) (w : World), (Instr.makeFunc fn first cap).run Tryz.prog w = .ok (.func fn first cap) w := fun _ _ _ _ => rfl
  have hmm := @run_makeMap Tryz.prog
  go_enter Tryz.func178, Tryz.ntmps178
  go_wp2_with ((refine wpList_put _ rfl _ _ _ _ (Or.inl rfl) (KL.str Tryz.underlying234) Tryz.underlying240 _ _ rfl (unhide H) _ _ rfl rfl trivial (fun _ _ => trivial) ?_; clear H; intro w' H' O'; have H := hide H'; have HB := hide (One.below (unhide HB) O' (by exact Nat.le_refl _)); clear H' O'))
  go_ret
  exact ⟨_, rfl, by simp, unhide HB⟩
set_option maxRecDepth 100000 in
set_option maxHeartbeats 1000000 in
theorem atomRules_C (p : Addr) : Calls Tryz.prog 179 #[.pointer (some p)] w (RulesPost w) := by
  have H : Hid (MS Value.string ((w.alloc (.cells #[.pointer (some p)] 125)).alloc (.map #[] 0)) (w.heap.size + 1) []) := hide (by have := Ma.new (w := w.alloc (.cells #[.pointer (some p)] 125)); simpa using this)
  have HB := hide (((Below.refl w.heap.size w).alloc (Nat.le_refl _) (.cells #[.pointer (some p)] 125)).alloc (by simp) (.map #[] 0))
  have B0 := hide ((Bx.new w #[.pointer (some p)] 125).alloc (.map #[] 0))
  obtain ⟨c0, f0, z0⟩ := unhide B0
  have hmf : ∀ (fn : Fn) (first cap : Array Value) (w : World), (Instr.makeFunc fn first cap).run Tryz.prog w = .ok (.func fn first cap) w := fun _ _ _ _ => rfl
  have hmm := @run_makeMap Tryz.prog
  go_enter Tryz.func179, Tryz.ntmps179
  go_wp2_with ((refine wpList_put _ rfl _ _ _ _ (Or.inl rfl) (KL.str Tryz.underlying234) Tryz.underlying240 _ _ rfl (unhide H) _ _ rfl rfl trivial (fun _ _ => trivial) ?_; clear H; intro w' H' O'; have H := hide H'; have HB := hide (One.below (unhide HB) O' (by simp)); have B0 := hide ((unhide B0).one O' (by simp)); obtain ⟨c0, f0, z0⟩ := unhide B0; clear H' O'))
  go_ret
  exact ⟨_, rfl, by simp, unhide HB⟩
set_option maxRecDepth 100000 in
set_option maxHeartbeats 1000000 in
theorem plainRules_C (p : Addr) : Calls Tryz.prog 180 #[.pointer (some p)] w (RulesPost w) := by
  have H : Hid (MS Value.string ((w.alloc (.cells #[.pointer (some p)] 125)).alloc (.map #[] 0)) (w.heap.size + 1) []) := hide (by have := Ma.new (w := w.alloc (.cells #[.pointer (some p)] 125)); simpa using this)
  have HB := hide (((Below.refl w.heap.size w).alloc (Nat.le_refl _) (.cells #[.pointer (some p)] 125)).alloc (by simp) (.map #[] 0))
  have B0 := hide ((Bx.new w #[.pointer (some p)] 125).alloc (.map #[] 0))
  obtain ⟨c0, f0, z0⟩ := unhide B0
  have hmf : ∀ (fn : Fn) (first cap : Array Value) (w : World), (Instr.makeFunc fn first cap).run Tryz.prog w = .ok (.func fn first cap) w := fun _ _ _ _ => rfl
  have hmm := @run_makeMap Tryz.prog
  go_enter Tryz.func180, Tryz.ntmps180
  go_wp2_with ((refine wpList_put _ rfl _ _ _ _ (Or.inl rfl) (KL.str Tryz.underlying234) Tryz.underlying241 _ _ rfl (unhide H) _ _ rfl rfl trivial (fun _ _ => trivial) ?_; clear H; intro w' H' O'; have H := hide H'; have HB := hide (One.below (unhide HB) O' (by simp)); have B0 := hide ((unhide B0).one O' (by simp)); obtain ⟨c0, f0, z0⟩ := unhide B0; clear H' O'))
  go_ret
  exact ⟨_, rfl, by simp, unhide HB⟩
set_option maxRecDepth 100000 in
set_option maxHeartbeats 1000000 in
theorem smallRules_C (p : Addr) : Calls Tryz.prog 181 #[.pointer (some p)] w (fun e w' => e = .returned (.map (some w.heap.size)) ∧ MS Value.string w' w.heap.size [(kVar, .func (.func 274) #[.pointer (some p)] #[]), (kUp, .func (.func 275) #[.pointer (some p)] #[]), (kOpn, .func (.func 276) #[.pointer (some p)] #[])] ∧ Below w.heap.size w w') := by
  have H := hide (Ma.new (w := w))
  have HB := hide ((Below.refl w.heap.size w).alloc (Nat.le_refl _) (.map #[] 0))
  have hmf : ∀ (fn : Fn) (first cap : Array Value) (w : World), (Instr.makeFunc fn first cap).run Tryz.prog w = .ok (.func fn first cap) w := fun _ _ _ _ => rfl
  have hmm := @run_makeMap Tryz.prog
  go_enter Tryz.func181, Tryz.ntmps181
  go_wp2_with ((refine wpList_put _ rfl _ _ _ _ (Or.inl rfl) (KL.str Tryz.underlying234) Tryz.underlying242 _ _ rfl (unhide H) _ _ rfl rfl trivial (fun _ _ => trivial) ?_; clear H; intro w' H' O'; have H := hide H'; have HB := hide (One.below (unhide HB) O' (by exact Nat.le_refl _)); clear H' O'))
  go_ret
  exact ⟨rfl, unhide H, unhide HB⟩
set_option maxRecDepth 100000 in
set_option maxHeartbeats 1000000 in
theorem comparisonRules_C (p : Addr) : Calls Tryz.prog 182 #[.pointer (some p)] w (RulesPost w) := by
  have H := hide (Ma.new (w := w))
  have HB := hide ((Below.refl w.heap.size w).alloc (Nat.le_refl _) (.map #[] 0))
  have hmf : ∀ (fn : Fn) (first cap : Array Value) (w : World), (Instr.makeFunc fn first cap).run Tryz.prog w = .ok (.func fn first cap) w := fun _ _ _ _ => rfl
  have hmm := @run_makeMap Tryz.prog
  go_enter Tryz.func182, Tryz.ntmps182
  go_wp2_with (first | (refine wpList_put _ rfl _ _ _ _ (Or.inl rfl) (KL.str Tryz.underlying234) Tryz.underlying243 _ _ rfl (unhide H) _ _ rfl rfl trivial (fun _ _ => trivial) ?_; clear H; intro w' H' O'; have H := hide H'; have HB := hide (One.below (unhide HB) O' (by exact Nat.le_refl _)); clear H' O') | (go_at_call 277; refine (operator_C _ _ _ _).mono ?_; rintro e w' ⟨⟨v, rfl⟩, hb⟩; have H := hide ((unhide H).below hb); have HB := hide ((unhide HB).trans (hb.mono (unhide HB).size)); clear hb))
  go_ret
  exact ⟨_, rfl, by simp, unhide HB⟩
set_option maxRecDepth 100000 in
set_option maxHeartbeats 1000000 in
theorem sumRules_C (p : Addr) : Calls Tryz.prog 183 #[.pointer (some p)] w (RulesPost w) := by
  have H := hide (Ma.new (w := w))
  have HB := hide ((Below.refl w.heap.size w).alloc (Nat.le_refl _) (.map #[] 0))
  have hmf : ∀ (fn : Fn) (first cap : Array Value) (w : World), (Instr.makeFunc fn first cap).run Tryz.prog w = .ok (.func fn first cap) w := fun _ _ _ _ => rfl
  have hmm := @run_makeMap Tryz.prog
  go_enter Tryz.func183, Tryz.ntmps183
  go_wp2_with (first | (refine wpList_put _ rfl _ _ _ _ (Or.inl rfl) (KL.str Tryz.underlying234) Tryz.underlying243 _ _ rfl (unhide H) _ _ rfl rfl trivial (fun _ _ => trivial) ?_; clear H; intro w' H' O'; have H := hide H'; have HB := hide (One.below (unhide HB) O' (by exact Nat.le_refl _)); clear H' O') | (go_at_call 277; refine (operator_C _ _ _ _).mono ?_; rintro e w' ⟨⟨v, rfl⟩, hb⟩; have H := hide ((unhide H).below hb); have HB := hide ((unhide HB).trans (hb.mono (unhide HB).size)); clear hb))
  go_ret
  exact ⟨_, rfl, by simp, unhide HB⟩
set_option maxRecDepth 100000 in
set_option maxHeartbeats 1000000 in
theorem productRules_C (p : Addr) : Calls Tryz.prog 184 #[.pointer (some p)] w (RulesPost w) := by
  have H := hide (Ma.new (w := w))
  have HB := hide ((Below.refl w.heap.size w).alloc (Nat.le_refl _) (.map #[] 0))
  have hmf : ∀ (fn : Fn) (first cap : Array Value) (w : World), (Instr.makeFunc fn first cap).run Tryz.prog w = .ok (.func fn first cap) w := fun _ _ _ _ => rfl
  have hmm := @run_makeMap Tryz.prog
  go_enter Tryz.func184, Tryz.ntmps184
  go_wp2_with (first | (refine wpList_put _ rfl _ _ _ _ (Or.inl rfl) (KL.str Tryz.underlying234) Tryz.underlying243 _ _ rfl (unhide H) _ _ rfl rfl trivial (fun _ _ => trivial) ?_; clear H; intro w' H' O'; have H := hide H'; have HB := hide (One.below (unhide HB) O' (by exact Nat.le_refl _)); clear H' O') | (go_at_call 277; refine (operator_C _ _ _ _).mono ?_; rintro e w' ⟨⟨v, rfl⟩, hb⟩; have H := hide ((unhide H).below hb); have HB := hide ((unhide HB).trans (hb.mono (unhide HB).size)); clear hb))
  go_ret
  exact ⟨_, rfl, by simp, unhide HB⟩
end
end Go.Proofs.YtfflpeklkfjdnaaGreatDoor

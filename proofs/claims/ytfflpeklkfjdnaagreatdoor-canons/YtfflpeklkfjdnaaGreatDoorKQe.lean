import Derived.Test.YtfflpeklkfjdnaaGreatDoorKQd
import Derived.Test.YtfflpeklkfjdnaaGreatDoorKPq
set_option linter.unusedSimpArgs false
set_option linter.unusedVariables false
set_option linter.unusedSectionVars false
namespace Go.Proofs.YtfflpeklkfjdnaaGreatDoor
open Go Go.RowKit Go.ChangeMaps Un
section
variable {w : World} {kb fb cb mb : Nat} {ns : List ByteArray}
set_option maxRecDepth 100000 in
set_option maxHeartbeats 1000000 in
theorem Fresh_C : Calls Tryz.prog 26 #[] w fun e w' => e = .returned (.func (.func 62) #[] #[.pointer (some ⟨w.heap.size, 0, none⟩)]) ∧ w' = w.alloc (.cells #[.int .i64 0] 3) := by
  have hmf : ∀ (fn : Fn) (first cap : Array Value) (w : World), (Instr.makeFunc fn first cap).run Tryz.prog w = .ok (.func fn first cap) w := fun _ _ _ _ => rfl
  go_enter Tryz.func26, Tryz.ntmps26
  go_wp2_with fail
  go_ret
  exact ⟨rfl, rfl⟩
set_option maxRecDepth 100000 in
set_option maxHeartbeats 1000000 in
theorem Names_C (cb : Nat) (hB : Bx w cb #[.int .i64 0]) : Calls Tryz.prog 25 #[.func (.func 62) #[] #[.pointer (some ⟨cb, 0, none⟩)]] w fun e w' => ∃ kb fb mb, e = .returned (nmV kb fb) ∧ NM w' kb fb cb mb [] ∧ Below w.heap.size w w' ∧ w.heap.size ≤ mb := by
  have hmf : ∀ (fn : Fn) (first cap : Array Value) (w : World), (Instr.makeFunc fn first cap).run Tryz.prog w = .ok (.func fn first cap) w := fun _ _ _ _ => rfl
  have hmm := @run_makeMap Tryz.prog
  have z := hB.z
  have HB := hide hB
  go_enter Tryz.func25, Tryz.ntmps25
  go_wp2_with fail
  go_ret
  have hb0 := (((Below.refl w.heap.size w).alloc (Nat.le_refl _) (.cells #[.func (.func 62) #[] #[.pointer (some ⟨cb, 0, none⟩)]] 71)).alloc (by simp) (.map #[] 0)).alloc (by simp; omega) (.cells #[.map (some (w.heap.size + 1))] 156)
  refine ⟨w.heap.size + 1 + 1, w.heap.size, w.heap.size + 1, rfl, ⟨?_, ?_, ?_, ?_, by simp, by simp, by omega⟩, hb0, by omega⟩
  · have := Bx.new ((w.alloc (.cells #[.func (.func 62) #[] #[.pointer (some ⟨cb, 0, none⟩)]] 71)).alloc (.map #[] 0)) #[.map (some (w.heap.size + 1))] 156
    simpa using this
  · exact ((Bx.new w _ _).alloc _).alloc _
  · exact (((unhide HB).alloc _).alloc _).alloc _
  · have := (MS.new Value.string (w.alloc (.cells #[.func (.func 62) #[] #[.pointer (some ⟨cb, 0, none⟩)]] 71))).below ((Below.refl _ _).alloc (Nat.le_refl _) (.cells #[.map (some (w.heap.size + 1))] 156))
    simpa [nmF] using this
/-- No reading is wrong in no way. -/
def ErM {α : Type} (m : M α) : Prop := ∀ k f, m k = .error f → f.kind ≠ 0
theorem er_bnd {α β : Type} {m : M α} {g : α → M β} (h : ErM m) (hg : ∀ a, ErM (g a)) : ErM (bnd m g) := fun k f e => by
  unfold bnd at e
  split at e
  · rename_i e1; cases e; exact h _ _ e1
  · exact hg _ _ _ e
theorem er_want (T : List Pu.Tok) (c : ByteArray) : ErM (wantM T c) := fun k f e => by
  unfold wantM at e
  split at e
  · cases e
  · cases e; exact flOf_kind _
theorem er_close (T : List Pu.Tok) (mk : Nat → Nd) : ErM (closeM T mk) := er_bnd (er_want T _) fun _ k f e => by cases e
theorem er_small {T : List Pu.Tok} {p : M Nd} (hp : ErM p) : ErM (smallM T p p 1) := fun k f e => by
  unfold smallM at e
  split at e
  · split at e
    · unfold groupM at e
      simp only [ne_eq, not_true_eq_false, false_and, if_false] at e
      refine er_bnd hp (fun a k f e => ?_) _ _ e
      unfold restM at e
      split at e
      · exact er_bnd hp (fun b => er_close T _) _ _ e
      · simp only [show ¬ (1 : Nat) = 3 by omega, false_and, if_false] at e
        exact er_close T _ _ _ e
    · cases e
  · cases e; exact flOf_kind _
theorem er_headF {T : List Pu.Tok} {sm : M Nd} (hs : ErM sm) : ∀ f x, ErM (headF T sm 1 f x)
  | 0, x => fun k f e => by cases e
  | n + 1, x => fun k f e => by
    unfold headF at e
    split at e
    · exact er_bnd hs (fun y k f e => er_headF hs n _ _ _ e) _ _ e
    · cases e
theorem er_typ {T : List Pu.Tok} : ∀ n, ErM (typM T n)
  | 0 => fun k f e => by unfold typM wrongM at e; cases e; exact flOf_kind _
  | n + 1 => fun k f e => by
    have ih := er_typ (T := T) n
    unfold typM at e
    refine er_bnd (fun k f e => ?_) (fun a k f e => ?_) _ _ e
    · unfold headM at e
      split at e
      · exact er_bnd (er_small ih) (fun x => er_headF (er_small ih) _ _) _ _ e
      · exact er_small ih _ _ e
    · unfold arrowM at e
      split at e
      · exact er_bnd ih (fun b k f e => by cases e) _ _ e
      · cases e
theorem readT_kind {s : ByteArray} {f : Fl} (h : readT s = .error f) : f.kind ≠ 0 := by
  unfold readT at h
  split at h
  · cases h; simp
  · split at h
    · rename_i e; cases h; exact er_typ _ _ _ e
    · split at h
      · cases h
      · cases h; exact flOf_kind _
def ReadPost (kb fb cb mb : Nat) (ns : List ByteArray) (s : ByteArray) (w : World) (e : Ending) (w' : World) : Prop :=
  ∃ v f, e = .returned (.tuple #[v, flV f]) ∧ Fr (Two cb mb) w w' ∧
    ((f.kind ≠ 0 ∧ (readT s = .error f ∨ ∃ a, readT s = .ok a ∧ 48 < size (mean ns a).1 ∧ f = ⟨7, 0, s.size⟩)) ∨
     (f = noFl ∧ ∃ a, readT s = .ok a ∧ ¬ 48 < size (mean ns a).1 ∧ NM w' kb fb cb mb (mean ns a).2 ∧ (mean ns a).2.length ≤ ns.length + 401 ∧ TyV w' (fun b => w.heap.size ≤ b) (mean ns a).1 v))
set_option maxRecDepth 100000 in
set_option maxHeartbeats 1000000 in
theorem readType_C (hL : Laid w) (h : NM w kb fb cb mb ns) (hn : ns.length ≤ 500) (s : ByteArray) : Calls Tryz.prog 24 #[.string s, nmV kb fb] w (ReadPost kb fb cb mb ns s w) := by
  have hlt := h.lt
  have hb0 : Below w.heap.size w (w.alloc (.cells zF 34)) := (Below.refl _ _).alloc (Nat.le_refl _) _
  have B0 := hide (Bx.new w zF 34)
  have HC := Type_C (hL.bel hb0) s
  have HN := hide h
  clear hL h
  go_enter Tryz.func24, Tryz.ntmps24
  go_wp2_with fail
  refine HC.mono ?_
  rintro e w1 ⟨v, f, rfl, hb1, hp⟩
  have HB1 := hb0.trans (hb1.mono hb0.size)
  have hb2 : Below w1.heap.size w1 (w1.alloc (.cells #[.int .i64 (f.kind : Int), .int .i64 (f.frm : Int), .int .i64 (f.to : Int)] 34)) := (Below.refl _ _).alloc (Nat.le_refl _) _
  have HB2 := HB1.trans (hb2.mono HB1.size)
  have B2 := hide (((unhide B0).below hb1).alloc (.cells #[.int .i64 (f.kind : Int), .int .i64 (f.frm : Int), .int .i64 (f.to : Int)] 34))
  have L2 := hide (Bx.new w1 #[.int .i64 (f.kind : Int), .int .i64 (f.frm : Int), .int .i64 (f.to : Int)] 34)
  obtain ⟨c2, f2, z2⟩ := unhide B2
  obtain ⟨d2, g2, y2⟩ := unhide L2
  unfold flV
  cases hr : readT s with
  | error f' =>
    rw [hr] at hp
    obtain ⟨rfl, rfl⟩ := hp
    have hk := readT_kind hr
    have hk' : ((f.kind : Int) == 0) = false := by simp; omega
    have B3 := hide (((unhide B2).set3' rfl (.int .i64 (f.kind : Int)) (.int .i64 (f.frm : Int)) (.int .i64 (f.to : Int))).drew')
    go_wp2_with fail
    go_region
    go_wp2_with fail
    obtain ⟨c3, f3, z3⟩ := unhide B3
    refine bodyPost_ret (v := .tuple #[.nilIface, flV f]) (by simp [results, Tryz.results24, go_sem, flV, c3]) rfl ⟨_, f, rfl, ?_, Or.inl ⟨hk, Or.inl hr⟩⟩
    exact ((Fr.of HB2).set3 (Or.inr (Nat.le_refl _)) _ _ _).drew
  | ok a =>
    rw [hr] at hp
    obtain ⟨rfl, P1⟩ := hp
    obtain ⟨tv, xv, rfl⟩ := P1.iface
    obtain ⟨hTy, hcn, hnz⟩ := readT_ty hr
    have hmc := mean_cnt a ns
    have hsm := size_mean a ns
    have hz01 := hb1.size
    simp at hz01
    have hQ : ∀ b, (w.alloc (.cells zF 34)).heap.size ≤ b → b ≠ cb ∧ b ≠ mb := fun b q => by simp at q; omega
    have HO := hide (of_C' a hTy _ kb fb cb mb ns _ _ ((unhide HN).bel HB2) (P1.bel hb2) hQ (by omega))
    simp only [noFl] at *
    go_wp2_with fail
    refine (unhide HO).mono ?_
    rintro e w3 ⟨u, rfl, T3, N3, F3⟩
    obtain ⟨tu, xu, rfl⟩ := T3.iface
    have hnt : ¬ Two cb mb w.heap.size := fun q => by rcases q with q | q <;> omega
    have B3 := (unhide B2).fr F3 hnt
    have FF := (Fr.of HB2).trans F3
    have z3 := F3.size
    simp at z3
    clear HO HC
    go_wp2_with fail
    refine (sizeQ_C (mean ns a).1 w3 _ _ T3 (by omega)).mono ?_
    rintro e w4 ⟨rfl, hb4⟩
    have B4 := B3.below hb4
    have FG := FF.trans (Fr.of hb4)
    have N4 := N3.bel hb4
    have T4 := T3.bel hb4
    have HB4 := hide B4
    obtain ⟨c4, f4, z4⟩ := B4
    by_cases hsz : 48 < size (mean ns a).1
    · have hd : (48 : Int) < (size (mean ns a).1 : Int) := by omega
      have B5 := hide ((unhide HB4).set3' rfl (.int .i64 7) (.int .i64 0) (.int .i64 (s.size : Int)))
      go_wp2_with fail
      obtain ⟨c5, f5, z5⟩ := unhide B5
      exact bodyPost_ret (v := .tuple #[.nilIface, flV ⟨7, 0, s.size⟩]) (by simp [results, Tryz.results24, go_sem, flV, c5]) rfl ⟨_, ⟨7, 0, s.size⟩, rfl, FG.set3 (Or.inr (Nat.le_refl _)) _ _ _, Or.inl ⟨by simp, Or.inr ⟨a, hr, hsz, rfl⟩⟩⟩
    · have hd : decide ((48 : Int) < (size (mean ns a).1 : Int)) = false := by simp; omega
      have B5 := hide ((unhide HB4).set3' rfl (.int .i64 0) (.int .i64 0) (.int .i64 0))
      go_wp2_with fail
      obtain ⟨c5, f5, z5⟩ := unhide B5
      refine bodyPost_ret (v := .tuple #[.iface tu xu, flV noFl]) (by simp [results, Tryz.results24, go_sem, flV, c5, noFl]) rfl ⟨_, noFl, rfl, FG.set3 (Or.inr (Nat.le_refl _)) _ _ _, Or.inr ⟨rfl, a, hr, hsz, ?_, by omega, ?_⟩⟩
      · exact ((N4.set (by omega) 0 _).set (by omega) 1 _).set (by omega) 2 _
      · refine T4.move (by simp [World.setCell]) (fun b p _ => ?_) (fun b p _ => ?_)
        · have p' : _ ≤ b := p
          simp at p'
          rw [Below.heap_setCell _ _ _ _ (by show b ≠ w.heap.size; omega), Below.heap_setCell _ _ _ _ (by show b ≠ w.heap.size; omega), Below.heap_setCell _ _ _ _ (by show b ≠ w.heap.size; omega)]
        · have p' : _ ≤ b := p
          simp at p'
          show w.heap.size ≤ b
          omega
end
end Go.Proofs.YtfflpeklkfjdnaaGreatDoor

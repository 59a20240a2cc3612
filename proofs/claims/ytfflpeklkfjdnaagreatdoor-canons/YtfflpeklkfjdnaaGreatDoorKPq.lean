import Derived.Test.YtfflpeklkfjdnaaGreatDoorKTm
import Derived.Test.YtfflpeklkfjdnaaGreatDoorKPp
set_option linter.unusedSimpArgs false
set_option linter.unusedVariables false
set_option linter.unusedSectionVars false
namespace Go.Proofs.YtfflpeklkfjdnaaGreatDoor
open Go Go.RowKit Go.ChangeMaps
theorem nextTok_7 {s : ByteArray} {p : Nat} (h : (nextTok s p).kind = 7) : nextTok s p = Pu.endTok s := by
  unfold nextTok at h ⊢
  split at h
  · exfalso
    revert h
    unfold Pu.tokAt
    repeat' split
    all_goals simp [Pu.mkT]
  · rename_i hn
    rw [if_neg hn]
theorem end_next {s : ByteArray} {k : Nat} (hk : k < (Pu.toks s 0).length) (h : (tk (Pu.toks s 0) k).kind = 7) : (nextTok s (tk (Pu.toks s 0) k).to).kind ≠ 6 := by
  rw [tk_next s k hk] at h ⊢
  rw [nextTok_7 h]
  show (nextTok s s.size).kind ≠ 6
  unfold nextTok
  rw [if_neg (by rw [Pu.endTo_end (Nat.le_refl _)]; omega)]
  simp [Pu.endTok]
theorem readT_err {s : ByteArray} (hs : ¬ 400 < s.size) {f : Fl} (h : fin (Pu.toks s 0) (typM (Pu.toks s 0) (Pu.toks s 0).length 0) = .error f) : readT s = .error f := by
  unfold readT
  rw [if_neg hs]
  unfold fin at h
  split at h
  · rename_i f' e; cases h; rw [e]
  · rename_i a k e
    split at h
    · rename_i h6
      cases h
      rw [e]
      simp [h6]
    · cases h
theorem readT_ok {s : ByteArray} (hs : ¬ 400 < s.size) {a : Nd} {k : Nat} (h : fin (Pu.toks s 0) (typM (Pu.toks s 0) (Pu.toks s 0).length 0) = .ok (a, k)) : readT s = if (tk (Pu.toks s 0) k).kind == 7 then .ok a else .error (flOf (tk (Pu.toks s 0) k)) := by
  unfold readT
  rw [if_neg hs, (fin_ok h).1]
abbrev kEnd' : ByteArray := ⟨#[116, 104, 101, 32, 101, 110, 100]⟩
theorem Ke.low {rb B : Nat} {a b c : World} (k : Ke rb b c) (h : Below B a b) (hB : B ≤ b.heap.size) (hr : B ≤ rb) : Below B a c :=
  ⟨k.os.trans h.os, k.tape.trans h.tape, k.output.trans h.output, Nat.le_trans h.size k.size, fun i hi => (k.block i (Nat.lt_of_lt_of_le hi hB) (by omega)).trans (h.block i hi)⟩
def WholePost (s : ByteArray) (w : World) (e : Ending) (w' : World) : Prop :=
  ∃ v f, e = .returned (.tuple #[v, flV f]) ∧ Below w.heap.size w w' ∧ match readT s with
    | .error f' => f = f' ∧ v = .nilIface
    | .ok a => f = noFl ∧ PT w' (fun b => w.heap.size ≤ b) a v
section
variable {w : World}
set_option maxRecDepth 100000 in
set_option maxHeartbeats 1000000 in
theorem whole_long (s : ByteArray) (hs : 400 < s.size) : Calls Tryz.prog 121 #[.string s, .func (.func 122) #[] #[]] w (WholePost s w) := by
  have h1 : (400 : Int) < (s.size : Int) := by omega
  have hp : Hid (readT s = .error ⟨1, 0, 0⟩) := by show _ = _; simp [readT, hs]
  go_enter_defers Tryz.func121, Tryz.ntmps121
  go_wp2_with fail
  simp [bodyPostD, Leaves, settle, results, Tryz.results121, go_sem]
  refine ⟨_, ⟨1, 0, 0⟩, rfl, (Below.refl _ _).alloc (Nat.le_refl _) _, ?_⟩
  rw [unhide hp]
  exact ⟨rfl, rfl⟩
set_option maxRecDepth 100000 in
set_option maxHeartbeats 1000000 in
theorem whole_C (h : Laid w) (s : ByteArray) (hs : ¬ 400 < s.size) (hT : (Pu.toks s 0).length ≤ 1001) : Calls Tryz.prog 121 #[.string s, .func (.func 122) #[] #[]] w (WholePost s w) := by
  have h1 : decide ((400 : Int) < (s.size : Int)) = false := by simp; omega
  have hmf : ∀ (fn : Fn) (first cap : Array Value) (w : World), (Instr.makeFunc fn first cap).run Tryz.prog w = .ok (.func fn first cap) w := fun _ _ _ _ => rfl
  have hs' : s.size ≤ 1000 := by omega
  have hT0 : 0 < (Pu.toks s 0).length := by
    rw [toks_next s 0 (Nat.zero_le _)]; split <;> simp
  have B0 := Bx.new w zF 34
  have hb0 : Below w.heap.size w (w.alloc (.cells zF 34)) := (Below.refl _ _).alloc (Nat.le_refl _) _
  have HL := h.bel hb0
  go_enter_defers Tryz.func121, Tryz.ntmps121
  go_wp2_with fail
  refine (newReader_C HL s hs').mono ?_
  intro e w1 hp
  obtain ⟨hb1, hp⟩ := hp
  have B1 := B0.below hb1
  have HB1 := hb0.trans (hb1.mono hb0.size)
  have et := tk_next s 0 hT0
  rw [show lastK (Pu.toks s 0) 0 = 0 from rfl] at et
  rcases hp with ⟨h6, rfl, sb, m, R1⟩ | ⟨h6, rfl⟩
  · have hsz : (w.alloc (.cells zF 34)).heap.size = w.heap.size + 1 := by simp
    rw [← et, hsz] at R1
    rw [← et] at h6
    have hz1 := R1.bx.z
    have RA : RD w1 (w.heap.size + 1) sb m s (tk (Pu.toks s 0) 0) (lastK (Pu.toks s 0) 0) := by rw [show lastK (Pu.toks s 0) 0 = 0 from rfl]; exact R1
    have HA := arrow_C hs' hT (Pu.toks s 0).length w1 (w.heap.size + 1) sb m 0 RA hT0 h6 (by omega)
    clear RA
    go_wp2_with fail
    refine HA.mono ?_
    intro e w2 hp
    cases hA : fin (Pu.toks s 0) (typM (Pu.toks s 0) (Pu.toks s 0).length 0) with
    | error f =>
      obtain ⟨rfl, K2⟩ := hp.bad hA
      have HB2 : Below w.heap.size w w2 := K2.low HB1 HB1.size (by omega)
      refine leaves_cons (f := 207) (args := #[.pointer (some ⟨w.heap.size, 0, none⟩)]) (by simp) (by simp [go_sem]) ?_
      refine (caught_C w.heap.size (B1.ke' K2 (by omega)) f).mono ?_
      rintro e u' w9 ⟨rfl, rfl, hB, hb⟩
      obtain ⟨c9, _, _⟩ := hB
      simp [Leaves, settle, results, Tryz.results121, go_sem, c9]
      refine ⟨_, f, rfl, HB2.trans (hb.mono (by exact Nat.le_refl _)), ?_⟩
      rw [readT_err hs hA]
      exact ⟨rfl, rfl⟩
    | ok r =>
    obtain ⟨a, k⟩ := r
    obtain ⟨v, rfl, K2, R2, hk, P2⟩ := hp.ok hA
    obtain ⟨tv, xv, rfl⟩ := P2.iface
    have h62 := (fin_ok hA).2
    have HB2 : Below w.heap.size w w2 := K2.low HB1 HB1.size (by omega)
    have B2 := B1.ke' K2 (by omega)
    have hrd := readT_ok hs hA
    have ho := tk_ok s k hk
    have hke := kind_end ho h62
    clear hp hA
    by_cases h7 : (tk (Pu.toks s 0) k).kind = 7
    · have t7 : ((kindB (tk (Pu.toks s 0) k)).toList == kEnd'.toList) = true := by rw [show kEnd'.toList = [116, 104, 101, 32, 101, 110, 100] from toList_mk _, hke]; simp [h7]
      go_wp2_with fail
      refine (take_yes R2 hs' (tk_to s k hk) kEnd' t7).mono ?_
      intro e w3 hp
      obtain ⟨rfl, K3, R3⟩ := hp.ok (end_next hk h7)
      have B3 := B2.ke' K3 (by omega)
      have HB3 : Below w.heap.size w w3 := K3.low HB2 HB2.size (by omega)
      have P3 := P2.ke K3 (fun b p => by show b ≠ _; have : w1.heap.size ≤ b := p; omega)
      have B4 := hide (B3.set3' rfl (.int .i64 0) (.int .i64 0) (.int .i64 0))
      obtain ⟨c3, f3, z3⟩ := B3
      clear hp
      go_wp2_with fail
      refine leaves_cons (f := 207) (args := #[.pointer (some ⟨w.heap.size, 0, none⟩)]) (by simp) (by simp [go_sem]) ?_
      refine (idle_C w.heap.size).mono ?_
      rintro e u' w9 ⟨rfl, rfl, rfl⟩
      obtain ⟨c4, f4, z4⟩ := unhide B4
      simp [Leaves, settle, results, Tryz.results121, go_sem, c4]
      refine ⟨_, noFl, rfl, ((HB3.setCell (p := ⟨w.heap.size, 0, none⟩) (Nat.le_refl _) _).setCell (p := ⟨w.heap.size, 1, none⟩) (Nat.le_refl _) _).setCell (p := ⟨w.heap.size, 2, none⟩) (Nat.le_refl _) _, ?_⟩
      rw [hrd, if_pos (by simp [h7])]
      refine ⟨rfl, P3.move (by simp [World.setCell]) (fun b p _ => ?_) (fun b p _ => ?_)⟩
      · have p' : w1.heap.size ≤ b := p
        rw [Below.heap_setCell _ _ _ _ (by show b ≠ w.heap.size; omega), Below.heap_setCell _ _ _ _ (by show b ≠ w.heap.size; omega), Below.heap_setCell _ _ _ _ (by show b ≠ w.heap.size; omega)]
      · have p' : w1.heap.size ≤ b := p
        show w.heap.size ≤ b
        omega
    · have t7 : ((kindB (tk (Pu.toks s 0) k)).toList == kEnd'.toList) = false := by rw [show kEnd'.toList = [116, 104, 101, 32, 101, 110, 100] from toList_mk _, hke]; simp [h7]
      go_wp2_with fail
      refine (take_no R2 kEnd' t7 h62).mono ?_
      rintro e w3 ⟨rfl, K3⟩
      have HB3 : Below w.heap.size w w3 := K3.low HB2 HB2.size (by omega)
      rw [if_neg (by simp [h7])] at hrd
      refine leaves_cons (f := 207) (args := #[.pointer (some ⟨w.heap.size, 0, none⟩)]) (by simp) (by simp [go_sem]) ?_
      refine (caught_C w.heap.size (B2.ke' K3 (by omega)) (flOf (tk (Pu.toks s 0) k))).mono ?_
      rintro e u' w9 ⟨rfl, rfl, hB, hb⟩
      obtain ⟨c9, _, _⟩ := hB
      simp [Leaves, settle, results, Tryz.results121, go_sem, c9]
      refine ⟨_, (flOf (tk (Pu.toks s 0) k)), rfl, HB3.trans (hb.mono (by exact Nat.le_refl _)), ?_⟩
      rw [hrd]
      exact ⟨rfl, rfl⟩
  · rw [← et] at h6 ⊢
    have hst : fin (Pu.toks s 0) (typM (Pu.toks s 0) (Pu.toks s 0).length 0) = .error (flOf (tk (Pu.toks s 0) 0)) := stall_typ _ _ 0 h6
    refine leaves_cons (f := 207) (args := #[.pointer (some ⟨w.heap.size, 0, none⟩)]) (by simp) (by simp [go_sem]) ?_
    refine (caught_C w.heap.size B1 (flOf (tk (Pu.toks s 0) 0))).mono ?_
    rintro e u' w9 ⟨rfl, rfl, hB, hb⟩
    obtain ⟨c9, _, _⟩ := hB
    simp [Leaves, settle, results, Tryz.results121, go_sem, c9]
    refine ⟨_, (flOf (tk (Pu.toks s 0) 0)), rfl, HB1.trans (hb.mono (by exact Nat.le_refl _)), ?_⟩
    rw [readT_err hs hst]
    exact ⟨rfl, rfl⟩
theorem toksF_len (s : ByteArray) : ∀ f i, (Pu.toksF s f i).length ≤ f + 1
  | 0, i => by simp [Pu.toksF]
  | f + 1, i => by
    unfold Pu.toksF
    split
    · split
      · have := toksF_len s f (i + 1); omega
      · have := toksF_len s f (Pu.tokAt s i).to; simp; omega
    · simp
theorem toks_len (s : ByteArray) (i : Nat) : (Pu.toks s i).length ≤ s.size - i + 1 := toksF_len s _ _
theorem whole_any (h : Laid w) (s : ByteArray) : Calls Tryz.prog 121 #[.string s, .func (.func 122) #[] #[]] w (WholePost s w) := by
  by_cases hs : 400 < s.size
  · exact whole_long s hs
  · exact whole_C h s hs (by have := toks_len s 0; omega)
set_option maxRecDepth 100000 in
set_option maxHeartbeats 1000000 in
theorem Type_C (h : Laid w) (s : ByteArray) : Calls Tryz.prog 58 #[.string s] w (WholePost s w) := by
  have hb0 : Below w.heap.size w (w.alloc (.cells zF 34)) := (Below.refl _ _).alloc (Nat.le_refl _) _
  have HL := h.bel hb0
  have B0 := hide (Bx.new w zF 34)
  have HC := whole_any HL s
  go_enter Tryz.func58, Tryz.ntmps58
  go_wp2_with fail
  refine HC.mono ?_
  rintro e w1 ⟨v, f, rfl, hb1, hp⟩
  have B1 := (unhide B0).below hb1
  have B2 := hide (B1.set3' rfl (.int .i64 (f.kind : Int)) (.int .i64 (f.frm : Int)) (.int .i64 (f.to : Int)))
  obtain ⟨c1, f1, z1⟩ := B1
  have Hp := hide hp
  unfold flV
  clear hp
  go_wp2_with fail
  obtain ⟨c2, f2, z2⟩ := unhide B2
  refine bodyPost_ret (v := .tuple #[v, flV f]) (by simp [results, Tryz.results58, go_sem, flV, c2]) rfl ⟨v, f, rfl, (((hb0.trans (hb1.mono hb0.size)).setCell (p := ⟨w.heap.size, 0, none⟩) (Nat.le_refl _) _).setCell (p := ⟨w.heap.size, 1, none⟩) (Nat.le_refl _) _).setCell (p := ⟨w.heap.size, 2, none⟩) (Nat.le_refl _) _, ?_⟩
  have hp := unhide Hp
  cases hr : readT s with
  | error f' => rw [hr] at hp; exact hp
  | ok a =>
    rw [hr] at hp
    refine ⟨hp.1, hp.2.move (by simp [World.setCell]) (fun b p _ => ?_) (fun b p _ => ?_)⟩
    · have p' : (w.alloc (.cells zF 34)).heap.size ≤ b := p
      simp at p'
      rw [Below.heap_setCell _ _ _ _ (by show b ≠ w.heap.size; omega), Below.heap_setCell _ _ _ _ (by show b ≠ w.heap.size; omega), Below.heap_setCell _ _ _ _ (by show b ≠ w.heap.size; omega)]
    · have p' : (w.alloc (.cells zF 34)).heap.size ≤ b := p
      simp at p'
      show w.heap.size ≤ b
      omega
end
end Go.Proofs.YtfflpeklkfjdnaaGreatDoor

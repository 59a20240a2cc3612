import Derived.Test.YtklidhjlfappnaaGreatDoorGTq
import Derived.Test.YtklidhjlfappnaaGreatDoorGTm
set_option linter.unusedSimpArgs false
set_option linter.unusedVariables false
set_option linter.unusedSectionVars false
namespace Go.Proofs.YtklidhjlfappnaaGreatDoor
open Go Go.RowKit Un
/-- Canon, as the document says. -/
def canonA (s : ByteArray) : List UInt8 × Fl :=
  match readT s with
  | .error f => ([], f)
  | .ok a => if 48 < size (mean [] a).1 then ([], ⟨7, 0, s.size⟩) else (Un.written dec (mean [] a).1, noFl)
abbrev zK : Array Value := #[.slice none 0 0, .slice none 0 0]
theorem KN.start {w : World} {kb nb : Nat} (hk : Bx w kb zK) (hn : Bx w nb zK) (hne : kb ≠ nb) : KN w kb nb (.slice none 0 0) (.slice none 0 0) (.slice none 0 0) (.slice none 0 0) [] (fun _ => none) (fun _ => False) :=
  ⟨⟨hk.c 0, hk.c 1, hk.f, hk.z, ⟨rfl, Or.inl ⟨rfl, rfl⟩⟩, ⟨[], rfl, ⟨rfl, Or.inl ⟨rfl, rfl⟩⟩, fun i h => by simp at h⟩, by simp [Value.ownBlock], by simp [Value.ownBlock], fun b e => by simp [Value.ownBlock] at e, fun b p => p.elim, by simp, fun _ _ => rfl⟩,
   ⟨hn.c 0, hn.c 1, hn.f, hn.z, ⟨rfl, Or.inl ⟨rfl, rfl⟩⟩, ⟨rfl, Or.inl ⟨rfl, rfl⟩⟩⟩, by simp [Mu, Value.ownBlock, hne], fun b p => p.elim, List.nodup_nil⟩
theorem mem_Mu0 {kb nb b : Nat} (h : b ∈ Mu kb nb (.slice none 0 0) (.slice none 0 0) (.slice none 0 0) (.slice none 0 0)) : b = kb ∨ b = nb := by
  rcases mem_Mu.1 h with (h | h | h) | (h | h | h)
  · exact Or.inl h
  · simp [Value.ownBlock] at h
  · simp [Value.ownBlock] at h
  · exact Or.inr h
  · simp [Value.ownBlock] at h
  · simp [Value.ownBlock] at h
def CanonPost (s : ByteArray) (w : World) (e : Ending) (w' : World) : Prop := ∃ z f, e = .returned (.tuple #[.string z, flV f]) ∧ Below w.heap.size w w' ∧ z = bs (canonA s).1 ∧ f = (canonA s).2
section
variable {w : World}
set_option maxRecDepth 100000 in
set_option maxHeartbeats 2000000 in
theorem Canon_C (s : ByteArray) : Calls Tryz.prog 31 #[.string s] w (CanonPost s w) := by
  have BF := hide (((Bx.new w zFl 33).alloc (.cells zK 133)).alloc (.cells zK 136))
  have BK := hide ((Bx.at (w.alloc (.cells zFl 33)) zK 133 (w.heap.size + 1) (by simp)).alloc (.cells zK 136))
  have BN := hide (Bx.at ((w.alloc (.cells zFl 33)).alloc (.cells zK 133)) zK 136 (w.heap.size + 1 + 1) (by simp))
  have HB := hide ((((Below.refl w.heap.size w).alloc (Nat.le_refl _) (.cells zFl 33)).alloc (by simp) (.cells zK 133)).alloc (by simp; omega) (.cells zK 136))
  have H := hide (KN.start (unhide BK) (unhide BN) (by omega))
  go_enter Tryz.func31, Tryz.ntmps31
  go_wp2_with fail
  refine (taken_C (unhide H) Knw.start (by simp) s).mono ?_
  rintro e w1 ⟨y, f, rfl, hF1, hmt⟩
  have ML : ∀ b, b ∈ Mu (w.heap.size + 1) (w.heap.size + 1 + 1) (.slice none 0 0) (.slice none 0 0) (.slice none 0 0) (.slice none 0 0) → w.heap.size < b ∧ b < w.heap.size + 3 := fun b k => by rcases mem_Mu0 k with k | k <;> omega
  have hs1 : w.heap.size + 3 ≤ w1.heap.size := by have := hF1.size; simp at this; omega
  have key : Hid ((f.kind ≠ 0 ∧ canonA s = ([], f)) ∨ (f = noFl ∧ ∃ t ns hv iv lv nv Q, canonA s = (Un.written dec t, noFl) ∧ size t ≤ 48 ∧ KN w1 (w.heap.size + 1) (w.heap.size + 1 + 1) hv iv lv nv ns (fun _ => none) Q ∧ TR w1 Q ns.length t y ∧ (∀ b, b ∈ Mu (w.heap.size + 1) (w.heap.size + 1 + 1) hv iv lv nv → w.heap.size < b) ∧ (∀ b, Q b → w.heap.size + 3 ≤ b))) := by
    unfold canonA
    cases hr : readT s with
    | error f' =>
      rw [hr] at hmt
      obtain ⟨rfl, h2⟩ := hmt
      exact Or.inl ⟨h2, rfl⟩
    | ok a =>
      rw [hr] at hmt
      simp only [sub_var] at hmt
      rcases hmt with ⟨h1, rfl⟩ | ⟨h1, rfl, _, hv, iv, lv, nv, Q, hK, hT, hM, _, hQ⟩
      · exact Or.inl ⟨by simp, by simp [h1]⟩
      · refine Or.inr ⟨rfl, _, _, hv, iv, lv, nv, Q, by simp [h1], by omega, hK, hT, fun b k => ?_, fun b q => ?_⟩
        · rcases hM b k with k | k
          · exact (ML b k).1
          · simp at k; omega
        · rcases hQ b q with k | k
          · exact k.1.elim
          · simp at k; omega
  have bb := ((Below.refl w1.heap.size w1).alloc (Nat.le_refl _) (.cells y.a 138)).alloc (by simp) (.cells (flA f) 33)
  have BF1 := hide ((((unhide BF).fr hF1 (fun k => by have := (ML _ k).1; omega)).alloc (.cells y.a 138)).alloc (.cells (flA f) 33))
  have BY1 := hide ((Bx.new w1 y.a 138).alloc (.cells (flA f) 33))
  have BG1 := hide (Bx.at (w1.alloc (.cells y.a 138)) (flA f) 33 (w1.heap.size + 1) (by simp))
  have HB1 : Hid (Below w.heap.size w ((w1.alloc (.cells y.a 138)).alloc (.cells (flA f) 33))) := by
    have h1 : Below w.heap.size w w1 := ⟨hF1.os.trans (unhide HB).os, hF1.tape.trans (unhide HB).tape, hF1.output.trans (unhide HB).output, by omega, fun b hb => (hF1.block b (by simp; omega) (fun k => by have := (ML b k).1; omega)).trans ((unhide HB).block b hb)⟩
    exact h1.trans (bb.mono (by omega))
  have HBB := hide bb
  clear hmt hF1 BF BK BN HB H bb ML
  obtain ⟨cF, fF, yF⟩ := unhide BF1
  obtain ⟨cY, fY, yY⟩ := unhide BY1
  obtain ⟨cG, fG, yG⟩ := unhide BG1
  unfold TV.a at cY fY cF fF cG fG
  unfold TV.v flV
  rcases unhide key with ⟨hk, hc⟩ | ⟨rfl, t, ns, hv, iv, lv, nv, Q, hc, hsz, hK, hT, hM, hQ⟩
  · have hf' : (((f.kind : Nat) : Int) != 0) = true := by simp; omega
    have HC := hide hc
    clear key hk hc
    go_wp2_with fail
    go_region
    go_wp2_with fail
    have F := hide (((unhide BF1).set3 rfl (.int .i64 (f.kind : Int)) (.int .i64 (f.frm : Int)) (.int .i64 (f.to : Int))).drew)
    unfold TV.a at F
    obtain ⟨c9, f9, y9⟩ := unhide F
    refine bodyPost_ret (v := .tuple #[.string ⟨#[]⟩, flV f]) (by simp [results, Tryz.results31, go_sem, c9, flV]) rfl ⟨⟨#[]⟩, f, rfl, ((unhide HB1).set3 (Nat.le_refl _) _ _ _).drew, ?_, ?_⟩
    · rw [unhide HC]; rfl
    · rw [unhide HC]
  · have hf' : (((noFl.kind : Nat) : Int) != 0) = false := rfl
    have HC := hide hc
    have hkw := hK.ks.hk
    have PC : Array Value := #[]
    have b3 := (unhide HBB).alloc (by simp; omega) (.cells #[.pointer (some ⟨w.heap.size + 1, 0, none⟩), .slice none 0 0] 143)
    have BP := hide (Bx.at ((w1.alloc (.cells y.a 138)).alloc (.cells (flA noFl) 33)) #[.pointer (some ⟨w.heap.size + 1, 0, none⟩), .slice none 0 0] 143 (w1.heap.size + 1 + 1) (by simp))
    have BF3 := hide ((unhide BF1).alloc (.cells #[.pointer (some ⟨w.heap.size + 1, 0, none⟩), .slice none 0 0] 143))
    have BY3 := hide ((unhide BY1).alloc (.cells #[.pointer (some ⟨w.heap.size + 1, 0, none⟩), .slice none 0 0] 143))
    have BG3 := hide ((unhide BG1).alloc (.cells #[.pointer (some ⟨w.heap.size + 1, 0, none⟩), .slice none 0 0] 143))
    have HB3 := hide ((unhide HB1).alloc (by simp; omega) (.cells #[.pointer (some ⟨w.heap.size + 1, 0, none⟩), .slice none 0 0] 143))
    have W3 : Hid (WS _ (w1.heap.size + 1 + 1) (w.heap.size + 1) 0 hv iv ns.length (fun _ => none) (fun b => Q b ∧ b < w1.heap.size) (.slice none 0 0) []) :=
      ⟨(hK.low.bel b3).ks, ⟨(unhide BP).c 0, (unhide BP).c 1, (unhide BP).f, (unhide BP).z, ⟨rfl, Or.inl ⟨rfl, rfl⟩⟩, by simp [Value.ownBlock]⟩, by
        rintro b (rfl | k) hb
        · rcases hb with k | k | k
          · omega
          · have := hK.ks.kb_lt k; omega
          · omega
        · simp [Value.ownBlock] at k, Nat.zero_le _⟩
    have T3 := hide (hT.low.bel b3)
    have szT : size (sub Ty.var t) ≤ 48 := by rw [sub_var]; exact hsz
    clear key hc hK hT hM hQ b3 BF1 BY1 BG1 HB1 HBB cF fF yF cY fY yY cG fG yG PC
    obtain ⟨cF, fF, yF⟩ := unhide BF3
    obtain ⟨cY, fY, yY⟩ := unhide BY3
    obtain ⟨cG, fG, yG⟩ := unhide BG3
    unfold TV.a at cY fY cF fF cG fG
    go_wp2_with fail
    go_region_with (go_at_call 63; refine (write_C (R := Ty.var) Knw.start (fun _ => by simp [Wf]) 48 _ _ _ _ ((unhide W3).bel (Below.refl _ _).drew) t y ((unhide T3).bel (Below.refl _ _).drew) szT 0 (by simp; omega)).mono ?_; rintro e w4 ⟨lv4, rfl, hW4, hF4, hL4⟩; obtain ⟨d1, d2, d3⟩ := ((unhide BF3).drew.fr hF4 (fun k => by rcases k with k | k; omega; simp [Value.ownBlock] at k)); obtain ⟨e1, e2, e3⟩ := ((unhide BG3).drew.fr hF4 (fun k => by rcases k with k | k; omega; simp [Value.ownBlock] at k)); have HF4 := hide hF4; have B4 := hide ((unhide BF3).drew.fr hF4 (fun k => by rcases k with k | k; omega; simp [Value.ownBlock] at k)); clear hW4 hF4 hL4)
    all_goals
      go_wp2_with fail
      have F9 := hide ((unhide B4).set3 rfl (.int .i64 (noFl.kind : Int)) (.int .i64 (noFl.frm : Int)) (.int .i64 (noFl.to : Int)))
      obtain ⟨c9, f9, y9⟩ := unhide F9
      have HB4 : Below w.heap.size w w4 := by
        have h3 := (unhide HB3).drew
        refine ⟨(unhide HF4).os.trans h3.os, (unhide HF4).tape.trans h3.tape, (unhide HF4).output.trans h3.output, Nat.le_trans h3.size (unhide HF4).size, fun b hb => ((unhide HF4).block b (Nat.lt_of_lt_of_le hb h3.size) (fun k => ?_)).trans (h3.block b hb)⟩
        rcases k with k | k
        · omega
        · simp [Value.ownBlock] at k
      refine bodyPost_ret (v := .tuple #[.string (bs (Un.wr dec (vars [] (sub Ty.var t)) (sub Ty.var t) 0)), flV noFl]) (by simp [results, Tryz.results31, go_sem, c9, flV]) rfl ⟨_, noFl, rfl, HB4.set3 (Nat.le_refl _) _ _ _, ?_, ?_⟩
      · rw [unhide HC, sub_var]; rfl
      · rw [unhide HC]
end
end Go.Proofs.YtklidhjlfappnaaGreatDoor
namespace Go.Proofs.YtklidhjlfappnaaGreatDoor
open Go Go.RowKit Un
/-- Unify, as the document says. -/
def UniA (a b : ByteArray) (z : List UInt8) (ok : Bool) (f : Fl) : Prop :=
  match readT a with
  | .error f' => z = [] ∧ ok = false ∧ f = f'
  | .ok na => if 48 < size (mean [] na).1 then z = [] ∧ ok = false ∧ f = ⟨7, 0, a.size⟩ else
    match readT b with
    | .error f' => z = [] ∧ ok = false ∧ f = f'
    | .ok nb => if 48 < size (mean (mean [] na).2 nb).1 then z = [] ∧ ok = false ∧ f = ⟨7, 0, b.size⟩ else
      (∃ T, Mgu (mean [] na).1 (mean (mean [] na).2 nb).1 T ∧ ((48 < size T ∧ z = [] ∧ ok = false ∧ f = ⟨7, 0, 0⟩) ∨ (¬ 48 < size T ∧ z = Un.written dec T ∧ ok = true ∧ f = noFl))) ∨
      ((∀ σ, sub σ (mean [] na).1 ≠ sub σ (mean (mean [] na).2 nb).1) ∧ z = [] ∧ ok = false ∧ f = noFl)
/-- There is but one such answer. -/
theorem UniA.one {a b : ByteArray} {z z' : List UInt8} {ok ok' : Bool} {f f' : Fl} (h : UniA a b z ok f) (h' : UniA a b z' ok' f') : z = z' ∧ ok = ok' ∧ f = f' := by
  unfold UniA at h h'
  cases e1 : readT a with
  | error f1 => rw [e1] at h h'; exact ⟨h.1.trans h'.1.symm, h.2.1.trans h'.2.1.symm, h.2.2.trans h'.2.2.symm⟩
  | ok na =>
    rw [e1] at h h'
    simp only at h h'
    split at h
    · rename_i hs
      rw [if_pos hs] at h'
      exact ⟨h.1.trans h'.1.symm, h.2.1.trans h'.2.1.symm, h.2.2.trans h'.2.2.symm⟩
    · rename_i hs
      rw [if_neg hs] at h'
      cases e2 : readT b with
      | error f1 => rw [e2] at h h'; exact ⟨h.1.trans h'.1.symm, h.2.1.trans h'.2.1.symm, h.2.2.trans h'.2.2.symm⟩
      | ok nb =>
        rw [e2] at h h'
        simp only at h h'
        split at h
        · rename_i hs2
          rw [if_pos hs2] at h'
          exact ⟨h.1.trans h'.1.symm, h.2.1.trans h'.2.1.symm, h.2.2.trans h'.2.2.symm⟩
        · rename_i hs2
          rw [if_neg hs2] at h'
          rcases h with ⟨T, hT, h⟩ | ⟨hn, h⟩
          · rcases h' with ⟨U, hU, h'⟩ | ⟨hn', _⟩
            · obtain ⟨e3, e4⟩ := hT.one dec hU
              rcases h with ⟨g1, g2, g3, g4⟩ | ⟨g1, g2, g3, g4⟩
              · rcases h' with ⟨k1, k2, k3, k4⟩ | ⟨k1, _⟩
                · exact ⟨g2.trans k2.symm, g3.trans k3.symm, g4.trans k4.symm⟩
                · omega
              · rcases h' with ⟨k1, _⟩ | ⟨k1, k2, k3, k4⟩
                · omega
                · exact ⟨by rw [g2, k2, e3], g3.trans k3.symm, g4.trans k4.symm⟩
            · obtain ⟨⟨R, r1, r2⟩, _⟩ := hT
              exact absurd (r1.trans r2.symm) (hn' R)
          · rcases h' with ⟨U, hU, _⟩ | ⟨_, h'⟩
            · obtain ⟨⟨R, r1, r2⟩, _⟩ := hU
              exact absurd (r1.trans r2.symm) (hn R)
            · exact ⟨h.1.trans h'.1.symm, h.2.1.trans h'.2.1.symm, h.2.2.trans h'.2.2.symm⟩
def UnifyPost (a b : ByteArray) (w : World) (e : Ending) (w' : World) : Prop := ∃ z ok f, e = .returned (.tuple #[.string (bs z), .bool ok, flV f]) ∧ Below w.heap.size w w' ∧ UniA a b z ok f
end Go.Proofs.YtklidhjlfappnaaGreatDoor

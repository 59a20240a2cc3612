import Derived.Test.YtfflpeklkfjdnaaGreatDoorKTq
import Derived.Test.YtfflpeklkfjdnaaGreatDoorKTm
set_option linter.unusedSimpArgs false
set_option linter.unusedVariables false
set_option linter.unusedSectionVars false
namespace Go.Proofs.YtfflpeklkfjdnaaGreatDoor
open Go Go.RowKit Un
/-- Canon, as the document says. -/
def canonA (s : ByteArray) : List UInt8 × Fl :=
  match readT s with
  | .error f => ([], f)
  | .ok a => if 48 < size (mean [] a).1 then ([], ⟨7, 0, s.size⟩) else (Un.written dec (mean [] a).1, noFl)
abbrev zK : Array Value := #[.slice none 0 0, .slice none 0 0]
theorem KN.start {w : World} {kb nb : Nat} (hk : Bx w kb zK) (hn : Bx w nb zK) (hne : kb ≠ nb) : KN w kb nb (.slice none 0 0) (.slice none 0 0) (.slice none 0 0) (.slice none 0 0) [] (fun _ => none) (fun _ => False) :=
  ⟨⟨hk.c 0, hk.c 1, hk.f, hk.z, ⟨rfl, Or.inl ⟨rfl, rfl⟩⟩, ⟨[], rfl, ⟨rfl, Or.inl ⟨rfl, rfl⟩⟩, fun i h => by simp at h⟩, by simp [Value.ownBlock], by simp [Value.ownBlock], fun b e => by simp [Value.ownBlock] at e, fun b p => p.elim, by simp, fun _ _ => rfl⟩,
   ⟨hn.c 0, hn.c 1, hn.f, hn.z, ⟨rfl, Or.inl ⟨rfl, rfl⟩⟩, ⟨rfl, Or.inl ⟨rfl, rfl⟩⟩⟩, by simp [Mu, Value.ownBlock, hne], fun b p => p.elim, List.nodup_nil⟩
theorem mem_Mu0 {kb nb b : Nat} (h : b ∈ Mu kb nb (.slice none 0 0) (.slice none 0 0) (.slice none 0 0) (.slice none 0 0)) : b = kb ∨ b = nb := by
  rcases mem_Mu.1 h with (h | h | h) | (h | h | h)
  · exact Or.inl h
  · simp [Value.ownBlock] at h
  · simp [Value.ownBlock] at h
  · exact Or.inr h
  · simp [Value.ownBlock] at h
  · simp [Value.ownBlock] at h
def CanonPost (s : ByteArray) (w : World) (e : Ending) (w' : World) : Prop := ∃ z f, e = .returned (.tuple #[.string z, flV f]) ∧ Below w.heap.size w w' ∧ z = bs (canonA s).1 ∧ f = (canonA s).2
section
variable {w : World}
set_option maxRecDepth 100000 in
set_option maxHeartbeats 2000000 in
theorem Canon_C (s : ByteArray) : Calls Tryz.prog 10 #[.string s] w (CanonPost s w) := by
  have BF := hide (((Bx.new w zFl 34).alloc (.cells zK 79)).alloc (.cells zK 83))
  have BK := hide ((Bx.at (w.alloc (.cells zFl 34)) zK 79 (w.heap.size + 1) (by simp)).alloc (.cells zK 83))
  have BN := hide (Bx.at ((w.alloc (.cells zFl 34)).alloc (.cells zK 79)) zK 83 (w.heap.size + 1 + 1) (by simp))
  have HB := hide ((((Below.refl w.heap.size w).alloc (Nat.le_refl _) (.cells zFl 34)).alloc (by simp) (.cells zK 79)).alloc (by simp; omega) (.cells zK 83))
  have H := hide (KN.start (unhide BK) (unhide BN) (by omega))
  go_enter Tryz.func10, Tryz.ntmps10
  go_wp2_with fail
  refine (taken_C (unhide H) Knw.start (by simp) s).mono ?_
  rintro e w1 ⟨y, f, rfl, hF1, hmt⟩
  have ML : ∀ b, b ∈ Mu (w.heap.size + 1) (w.heap.size + 1 + 1) (.slice none 0 0) (.slice none 0 0) (.slice none 0 0) (.slice none 0 0) → w.heap.size < b ∧ b < w.heap.size + 3 := fun b k => by rcases mem_Mu0 k with k | k <;> omega
  have hs1 : w.heap.size + 3 ≤ w1.heap.size := by have := hF1.size; simp at this; omega
  have key : Hid ((f.kind ≠ 0 ∧ canonA s = ([], f)) ∨ (f = noFl ∧ ∃ t ns hv iv lv nv Q, canonA s = (Un.written dec t, noFl) ∧ size t ≤ 48 ∧ KN w1 (w.heap.size + 1) (w.heap.size + 1 + 1) hv iv lv nv ns (fun _ => none) Q ∧ TR w1 Q ns.length t y ∧ (∀ b, b ∈ Mu (w.heap.size + 1) (w.heap.size + 1 + 1) hv iv lv nv → w.heap.size < b) ∧ (∀ b, Q b → w.heap.size + 3 ≤ b))) := by
    unfold canonA
    cases hr : readT s with
    | error f' =>
      rw [hr] at hmt
      obtain ⟨rfl, h2⟩ := hmt
      exact Or.inl ⟨h2, rfl⟩
    | ok a =>
      rw [hr] at hmt
      simp only [sub_var] at hmt
      rcases hmt with ⟨h1, rfl⟩ | ⟨h1, rfl, _, hv, iv, lv, nv, Q, hK, hT, hM, _, hQ⟩
      · exact Or.inl ⟨by simp, by simp [h1]⟩
      · refine Or.inr ⟨rfl, _, _, hv, iv, lv, nv, Q, by simp [h1], by omega, hK, hT, fun b k => ?_, fun b q => ?_⟩
        · rcases hM b k with k | k
          · exact (ML b k).1
          · simp at k; omega
        · rcases hQ b q with k | k
          · exact k.1.elim
          · simp at k; omega
  have bb := ((Below.refl w1.heap.size w1).alloc (Nat.le_refl _) (.cells y.a 85)).alloc (by simp) (.cells (flA f) 34)
  have BF1 := hide ((((unhide BF).fr hF1 (fun k => by have := (ML _ k).1; omega)).alloc (.cells y.a 85)).alloc (.cells (flA f) 34))
  have BY1 := hide ((Bx.new w1 y.a 85).alloc (.cells (flA f) 34))
  have BG1 := hide (Bx.at (w1.alloc (.cells y.a 85)) (flA f) 34 (w1.heap.size + 1) (by simp))
  have HB1 : Hid (Below w.heap.size w ((w1.alloc (.cells y.a 85)).alloc (.cells (flA f) 34))) := by
    have h1 : Below w.heap.size w w1 := ⟨hF1.os.trans (unhide HB).os, hF1.tape.trans (unhide HB).tape, hF1.output.trans (unhide HB).output, by omega, fun b hb => (hF1.block b (by simp; omega) (fun k => by have := (ML b k).1; omega)).trans ((unhide HB).block b hb)⟩
    exact h1.trans (bb.mono (by omega))
  have HBB := hide bb
  clear hmt hF1 BF BK BN HB H bb ML
  obtain ⟨cF, fF, yF⟩ := unhide BF1
  obtain ⟨cY, fY, yY⟩ := unhide BY1
  obtain ⟨cG, fG, yG⟩ := unhide BG1
  unfold TV.a at cY fY cF fF cG fG
  unfold TV.v flV
  rcases unhide key with ⟨hk, hc⟩ | ⟨rfl, t, ns, hv, iv, lv, nv, Q, hc, hsz, hK, hT, hM, hQ⟩
  · have hf' : (((f.kind : Nat) : Int) != 0) = true := by simp; omega
    have HC := hide hc
    clear key hk hc
    go_wp2_with fail
    go_region
    go_wp2_with fail
    have F := hide (((unhide BF1).set3 rfl (.int .i64 (f.kind : Int)) (.int .i64 (f.frm : Int)) (.int .i64 (f.to : Int))).drew)
    unfold TV.a at F
    obtain ⟨c9, f9, y9⟩ := unhide F
    refine bodyPost_ret (v := .tuple #[.string ⟨#[]⟩, flV f]) (by simp [results, Tryz.results10, go_sem, c9, flV]) rfl ⟨⟨#[]⟩, f, rfl, ((unhide HB1).set3 (Nat.le_refl _) _ _ _).drew, ?_, ?_⟩
    · rw [unhide HC]; rfl
    · rw [unhide HC]
  · have hf' : (((noFl.kind : Nat) : Int) != 0) = false := rfl
    have HC := hide hc
    have hkw := hK.ks.hk
    have PC : Array Value := #[]
    have b3 := (unhide HBB).alloc (by simp; omega) (.cells #[.pointer (some ⟨w.heap.size + 1, 0, none⟩), .slice none 0 0] 91)
    have BP := hide (Bx.at ((w1.alloc (.cells y.a 85)).alloc (.cells (flA noFl) 34)) #[.pointer (some ⟨w.heap.size + 1, 0, none⟩), .slice none 0 0] 91 (w1.heap.size + 1 + 1) (by simp))
    have BF3 := hide ((unhide BF1).alloc (.cells #[.pointer (some ⟨w.heap.size + 1, 0, none⟩), .slice none 0 0] 91))
    have BY3 := hide ((unhide BY1).alloc (.cells #[.pointer (some ⟨w.heap.size + 1, 0, none⟩), .slice none 0 0] 91))
    have BG3 := hide ((unhide BG1).alloc (.cells #[.pointer (some ⟨w.heap.size + 1, 0, none⟩), .slice none 0 0] 91))
    have HB3 := hide ((unhide HB1).alloc (by simp; omega) (.cells #[.pointer (some ⟨w.heap.size + 1, 0, none⟩), .slice none 0 0] 91))
    have W3 : Hid (WS _ (w1.heap.size + 1 + 1) (w.heap.size + 1) 0 hv iv ns.length (fun _ => none) (fun b => Q b ∧ b < w1.heap.size) (.slice none 0 0) []) :=
      ⟨(hK.low.bel b3).ks, ⟨(unhide BP).c 0, (unhide BP).c 1, (unhide BP).f, (unhide BP).z, ⟨rfl, Or.inl ⟨rfl, rfl⟩⟩, by simp [Value.ownBlock]⟩, by
        rintro b (rfl | k) hb
        · rcases hb with k | k | k
          · omega
          · have := hK.ks.kb_lt k; omega
          · omega
        · simp [Value.ownBlock] at k, Nat.zero_le _⟩
    have T3 := hide (hT.low.bel b3)
    have szT : size (sub Ty.var t) ≤ 48 := by rw [sub_var]; exact hsz
    clear key hc hK hT hM hQ b3 BF1 BY1 BG1 HB1 HBB cF fF yF cY fY yY cG fG yG PC
    obtain ⟨cF, fF, yF⟩ := unhide BF3
    obtain ⟨cY, fY, yY⟩ := unhide BY3
    obtain ⟨cG, fG, yG⟩ := unhide BG3
    unfold TV.a at cY fY cF fF cG fG
    go_wp2_with fail
    go_region_with (go_at_call 29; refine (write_C (R := Ty.var) Knw.start (fun _ => by simp [Wf]) 48 _ _ _ _ ((unhide W3).bel (Below.refl _ _).drew) t y ((unhide T3).bel (Below.refl _ _).drew) szT 0 (by simp; omega)).mono ?_; rintro e w4 ⟨lv4, rfl, hW4, hF4, hL4⟩; obtain ⟨d1, d2, d3⟩ := ((unhide BF3).drew.fr hF4 (fun k => by rcases k with k | k; omega; simp [Value.ownBlock] at k)); obtain ⟨e1, e2, e3⟩ := ((unhide BG3).drew.fr hF4 (fun k => by rcases k with k | k; omega; simp [Value.ownBlock] at k)); have HF4 := hide hF4; have B4 := hide ((unhide BF3).drew.fr hF4 (fun k => by rcases k with k | k; omega; simp [Value.ownBlock] at k)); clear hW4 hF4 hL4)
    all_goals
      go_wp2_with fail
      have F9 := hide ((unhide B4).set3 rfl (.int .i64 (noFl.kind : Int)) (.int .i64 (noFl.frm : Int)) (.int .i64 (noFl.to : Int)))
      obtain ⟨c9, f9, y9⟩ := unhide F9
      have HB4 : Below w.heap.size w w4 := by
        have h3 := (unhide HB3).drew
        refine ⟨(unhide HF4).os.trans h3.os, (unhide HF4).tape.trans h3.tape, (unhide HF4).output.trans h3.output, Nat.le_trans h3.size (unhide HF4).size, fun b hb => ((unhide HF4).block b (Nat.lt_of_lt_of_le hb h3.size) (fun k => ?_)).trans (h3.block b hb)⟩
        rcases k with k | k
        · omega
        · simp [Value.ownBlock] at k
      refine bodyPost_ret (v := .tuple #[.string (bs (Un.wr dec (vars [] (sub Ty.var t)) (sub Ty.var t) 0)), flV noFl]) (by simp [results, Tryz.results10, go_sem, c9, flV]) rfl ⟨_, noFl, rfl, HB4.set3 (Nat.le_refl _) _ _ _, ?_, ?_⟩
      · rw [unhide HC, sub_var]; rfl
      · rw [unhide HC]
end
end Go.Proofs.YtfflpeklkfjdnaaGreatDoor
namespace Go.Proofs.YtfflpeklkfjdnaaGreatDoor
open Go Go.RowKit Un
/-- Unify, as the document says. -/
def UniA (a b : ByteArray) (z : List UInt8) (ok : Bool) (f : Fl) : Prop :=
  match readT a with
  | .error f' => z = [] ∧ ok = false ∧ f = f'
  | .ok na => if 48 < size (mean [] na).1 then z = [] ∧ ok = false ∧ f = ⟨7, 0, a.size⟩ else
    match readT b with
    | .error f' => z = [] ∧ ok = false ∧ f = f'
    | .ok nb => if 48 < size (mean (mean [] na).2 nb).1 then z = [] ∧ ok = false ∧ f = ⟨7, 0, b.size⟩ else
      (∃ T, Mgu (mean [] na).1 (mean (mean [] na).2 nb).1 T ∧ ((48 < size T ∧ z = [] ∧ ok = false ∧ f = ⟨7, 0, 0⟩) ∨ (¬ 48 < size T ∧ z = Un.written dec T ∧ ok = true ∧ f = noFl))) ∨
      ((∀ σ, sub σ (mean [] na).1 ≠ sub σ (mean (mean [] na).2 nb).1) ∧ z = [] ∧ ok = false ∧ f = noFl)
/-- There is but one such answer. -/
theorem UniA.one {a b : ByteArray} {z z' : List UInt8} {ok ok' : Bool} {f f' : Fl} (h : UniA a b z ok f) (h' : UniA a b z' ok' f') : z = z' ∧ ok = ok' ∧ f = f' := by
  unfold UniA at h h'
  cases e1 : readT a with
  | error f1 => rw [e1] at h h'; exact ⟨h.1.trans h'.1.symm, h.2.1.trans h'.2.1.symm, h.2.2.trans h'.2.2.symm⟩
  | ok na =>
    rw [e1] at h h'
    simp only at h h'
    split at h
    · rename_i hs
      rw [if_pos hs] at h'
      exact ⟨h.1.trans h'.1.symm, h.2.1.trans h'.2.1.symm, h.2.2.trans h'.2.2.symm⟩
    · rename_i hs
      rw [if_neg hs] at h'
      cases e2 : readT b with
      | error f1 => rw [e2] at h h'; exact ⟨h.1.trans h'.1.symm, h.2.1.trans h'.2.1.symm, h.2.2.trans h'.2.2.symm⟩
      | ok nb =>
        rw [e2] at h h'
        simp only at h h'
        split at h
        · rename_i hs2
          rw [if_pos hs2] at h'
          exact ⟨h.1.trans h'.1.symm, h.2.1.trans h'.2.1.symm, h.2.2.trans h'.2.2.symm⟩
        · rename_i hs2
          rw [if_neg hs2] at h'
          rcases h with ⟨T, hT, h⟩ | ⟨hn, h⟩
          · rcases h' with ⟨U, hU, h'⟩ | ⟨hn', _⟩
            · obtain ⟨e3, e4⟩ := hT.one dec hU
              rcases h with ⟨g1, g2, g3, g4⟩ | ⟨g1, g2, g3, g4⟩
              · rcases h' with ⟨k1, k2, k3, k4⟩ | ⟨k1, _⟩
                · exact ⟨g2.trans k2.symm, g3.trans k3.symm, g4.trans k4.symm⟩
                · omega
              · rcases h' with ⟨k1, _⟩ | ⟨k1, k2, k3, k4⟩
                · omega
                · exact ⟨by rw [g2, k2, e3], g3.trans k3.symm, g4.trans k4.symm⟩
            · obtain ⟨⟨R, r1, r2⟩, _⟩ := hT
              exact absurd (r1.trans r2.symm) (hn' R)
          · rcases h' with ⟨U, hU, _⟩ | ⟨_, h'⟩
            · obtain ⟨⟨R, r1, r2⟩, _⟩ := hU
              exact absurd (r1.trans r2.symm) (hn R)
            · exact ⟨h.1.trans h'.1.symm, h.2.1.trans h'.2.1.symm, h.2.2.trans h'.2.2.symm⟩
def UnifyPost (a b : ByteArray) (w : World) (e : Ending) (w' : World) : Prop := ∃ z ok f, e = .returned (.tuple #[.string (bs z), .bool ok, flV f]) ∧ Below w.heap.size w w' ∧ UniA a b z ok f
end Go.Proofs.YtfflpeklkfjdnaaGreatDoor
namespace Go.Proofs.YtfflpeklkfjdnaaGreatDoor
open Go Go.RowKit Un
/-- What Unify asks of taking a text, where nothing is known yet. -/
theorem taken_key {kb nb : Nat} {hv iv lv nv : Value} {ns : List ByteArray} {P : Nat → Prop} {s : ByteArray} {w w1 : World} {y : TV} {f : Fl} (hmt : match readT s with
    | .error f' => f = f' ∧ f.kind ≠ 0
    | .ok a => (48 < size (sub Ty.var (mean ns a).1) ∧ f = ⟨7, 0, s.size⟩) ∨ (¬ 48 < size (sub Ty.var (mean ns a).1) ∧ f = noFl ∧ (mean ns a).2.length ≤ ns.length + 401 ∧ ∃ hv' iv' lv' nv' Q, KN w1 kb nb hv' iv' lv' nv' (mean ns a).2 (fun _ => none) Q ∧ TR w1 Q (mean ns a).2.length (mean ns a).1 y ∧
      (∀ b, b ∈ Mu kb nb hv' iv' lv' nv' → b ∈ Mu kb nb hv iv lv nv ∨ w.heap.size ≤ b) ∧ (∀ b, P b → b < w.heap.size → Q b) ∧ (∀ b, Q b → (P b ∧ b < w.heap.size) ∨ w.heap.size ≤ b))) :
    (f.kind ≠ 0 ∧ (readT s = .error f ∨ ∃ a, readT s = .ok a ∧ 48 < size (mean ns a).1 ∧ f = ⟨7, 0, s.size⟩)) ∨
    (f = noFl ∧ ∃ a hv' iv' lv' nv' Q, readT s = .ok a ∧ ¬ 48 < size (mean ns a).1 ∧ (mean ns a).2.length ≤ ns.length + 401 ∧ KN w1 kb nb hv' iv' lv' nv' (mean ns a).2 (fun _ => none) Q ∧ TR w1 Q (mean ns a).2.length (mean ns a).1 y ∧
      (∀ b, b ∈ Mu kb nb hv' iv' lv' nv' → b ∈ Mu kb nb hv iv lv nv ∨ w.heap.size ≤ b) ∧ (∀ b, P b → b < w.heap.size → Q b) ∧ (∀ b, Q b → (P b ∧ b < w.heap.size) ∨ w.heap.size ≤ b)) := by
  cases hr : readT s with
  | error f' => rw [hr] at hmt; obtain ⟨rfl, h2⟩ := hmt; exact Or.inl ⟨h2, Or.inl rfl⟩
  | ok a =>
    rw [hr] at hmt
    simp only [sub_var] at hmt
    rcases hmt with ⟨h1, rfl⟩ | ⟨h1, rfl, h2, hv', iv', lv', nv', Q, h3⟩
    · exact Or.inl ⟨by simp, Or.inr ⟨a, rfl, h1, rfl⟩⟩
    · exact Or.inr ⟨rfl, a, hv', iv', lv', nv', Q, rfl, h1, h2, h3⟩
section
variable {w : World}
set_option maxRecDepth 100000 in
set_option maxHeartbeats 4000000 in
theorem Unify_C (a b : ByteArray) : Calls Tryz.prog 12 #[.string a, .string b] w (UnifyPost a b w) := by
  have BF := hide (((Bx.new w zFl 34).alloc (.cells zK 79)).alloc (.cells zK 83))
  have BK := hide ((Bx.at (w.alloc (.cells zFl 34)) zK 79 (w.heap.size + 1) (by simp)).alloc (.cells zK 83))
  have BN := hide (Bx.at ((w.alloc (.cells zFl 34)).alloc (.cells zK 79)) zK 83 (w.heap.size + 1 + 1) (by simp))
  have HB := hide ((((Below.refl w.heap.size w).alloc (Nat.le_refl _) (.cells zFl 34)).alloc (by simp) (.cells zK 79)).alloc (by simp; omega) (.cells zK 83))
  have H := hide (KN.start (unhide BK) (unhide BN) (by omega))
  go_enter Tryz.func12, Tryz.ntmps12
  go_wp2_with fail
  refine (taken_C (unhide H) Knw.start (by simp) a).mono ?_
  rintro e w1 ⟨y, f, rfl, hF1, hmt⟩
  have ML : ∀ b, b ∈ Mu (w.heap.size + 1) (w.heap.size + 1 + 1) (.slice none 0 0) (.slice none 0 0) (.slice none 0 0) (.slice none 0 0) → w.heap.size < b ∧ b < w.heap.size + 3 := fun b k => by rcases mem_Mu0 k with k | k <;> omega
  have hs1 : w.heap.size + 3 ≤ w1.heap.size := by have := hF1.size; simp at this; omega
  have key := hide (taken_key hmt)
  have bb := ((Below.refl w1.heap.size w1).alloc (Nat.le_refl _) (.cells y.a 85)).alloc (by simp) (.cells (flA f) 34)
  have BF1 := hide ((((unhide BF).fr hF1 (fun k => by have := (ML _ k).1; omega)).alloc (.cells y.a 85)).alloc (.cells (flA f) 34))
  have BY1 := hide ((Bx.new w1 y.a 85).alloc (.cells (flA f) 34))
  have BG1 := hide (Bx.at (w1.alloc (.cells y.a 85)) (flA f) 34 (w1.heap.size + 1) (by simp))
  have HB1 : Hid (Below w.heap.size w ((w1.alloc (.cells y.a 85)).alloc (.cells (flA f) 34))) := by
    have h1 : Below w.heap.size w w1 := ⟨hF1.os.trans (unhide HB).os, hF1.tape.trans (unhide HB).tape, hF1.output.trans (unhide HB).output, by omega, fun b hb => (hF1.block b (by simp; omega) (fun k => by have := (ML b k).1; omega)).trans ((unhide HB).block b hb)⟩
    exact h1.trans (bb.mono (by omega))
  have HBB := hide bb
  clear hmt hF1 BF BK BN HB H bb
  obtain ⟨cF, fF, yF⟩ := unhide BF1
  obtain ⟨cY, fY, yY⟩ := unhide BY1
  obtain ⟨cG, fG, yG⟩ := unhide BG1
  unfold TV.a at cY fY cF fF cG fG
  unfold TV.v flV
  rcases unhide key with ⟨hk, hor⟩ | ⟨rfl, na, hv, iv, lv, nv, Q, hr, hsz, hlen, hK, hT, hM, _, hQ⟩
  · have hf' : (((f.kind : Nat) : Int) != 0) = true := by simp; omega
    have HC0 : UniA a b [] false f := by
      unfold UniA
      rcases hor with h | ⟨na, h, h2, h3⟩
      · rw [h]; exact ⟨rfl, rfl, rfl⟩
      · rw [h]; rw [h3]; simp [h2]
    have HC := hide HC0
    clear HC0
    clear key hk hor
    go_wp2_with fail
    go_region
    go_wp2_with fail
    have F := hide (((unhide BF1).set3 rfl (.int .i64 (f.kind : Int)) (.int .i64 (f.frm : Int)) (.int .i64 (f.to : Int))).drew)
    unfold TV.a at F
    obtain ⟨c9, f9, y9⟩ := unhide F
    exact bodyPost_ret (v := .tuple #[.string ⟨#[]⟩, .bool false, flV f]) (by simp [results, Tryz.results12, go_sem, c9, flV]) rfl ⟨[], false, f, rfl, ((unhide HB1).set3 (Nat.le_refl _) _ _ _).drew, unhide HC⟩
  · have hf' : (((noFl.kind : Nat) : Int) != 0) = false := rfl
    have Hr := hide hr
    have Hsz := hide hsz
    have K1 := hide (hK.low.bel (unhide HBB))
    have T1 := hide (hT.low.bel (unhide HBB))
    have M1 : Hid (∀ c, c ∈ Mu (w.heap.size + 1) (w.heap.size + 1 + 1) hv iv lv nv → w.heap.size < c ∧ c < w1.heap.size) := fun c k => ⟨by
      rcases hM c k with k | k
      · exact (ML c k).1
      · simp at k; omega, hK.lt k⟩
    have hl2 : (mean [] na).2.length + 401 ≤ 1000 := by simp at hlen; omega
    have QL : Hid (∀ c, Q c → w.heap.size + 3 ≤ c) := fun c q => by
      rcases hQ c q with k | k
      · exact k.1.elim
      · simp at k; omega
    clear key hr hsz hK hT hM hQ ML
    go_wp2_with fail
    refine (taken_C (unhide K1) Knw.start hl2 b).mono ?_
    rintro e w2 ⟨y2, f2, rfl, hF2, hmt⟩
    have hs2 : w1.heap.size + 2 ≤ w2.heap.size := by have := hF2.size; simp at this; omega
    have key := hide (taken_key hmt)
    have nM : ∀ c, (c = w.heap.size ∨ w1.heap.size ≤ c) → ¬ c ∈ Mu (w.heap.size + 1) (w.heap.size + 1 + 1) hv iv lv nv := fun c hc k => by have := unhide M1 c k; omega
    have BF2 := hide (((unhide BF1).fr hF2 (nM _ (Or.inl rfl))).setO3 (b2 := w1.heap.size + 1) (by omega) (.int .i64 (f2.kind : Int)) (.int .i64 (f2.frm : Int)) (.int .i64 (f2.to : Int)))
    have BY2 := hide (((unhide BY1).fr hF2 (nM _ (Or.inr (by omega)))).setO3 (b2 := w1.heap.size + 1) (by omega) (.int .i64 (f2.kind : Int)) (.int .i64 (f2.frm : Int)) (.int .i64 (f2.to : Int)))
    have BG2 := hide (((unhide BG1).fr hF2 (nM _ (Or.inr (by omega)))).set3 rfl (.int .i64 (f2.kind : Int)) (.int .i64 (f2.frm : Int)) (.int .i64 (f2.to : Int)))
    have bg := (unhide BG1).fr hF2 (nM _ (Or.inr (by omega)))
    have HB2 : Hid (Below w.heap.size w w2) := by
      have h1 := unhide HB1
      exact ⟨hF2.os.trans h1.os, hF2.tape.trans h1.tape, hF2.output.trans h1.output, by omega, fun c hc => (hF2.block c (by have := h1.size; omega) (fun k => by have := unhide M1 c k; omega)).trans (h1.block c hc)⟩
    have T2 : Hid (∀ Q2 : Nat → Prop, ∀ N2, (mean [] na).2.length ≤ N2 → (∀ c, (Q c ∧ c < w1.heap.size) → c < w1.heap.size + 2 → Q2 c) → TR w2 (fun c => Q2 c ∧ c < w2.heap.size) N2 (mean [] na).1 y) := fun Q2 N2 h1 h2 => (unhide T1).move h1 hF2.size (fun c q z => hF2.block c z ((unhide K1).pm c q)) (fun c q z => ⟨h2 c q (by omega), by omega⟩)
    clear hmt hF2 BF1 BY1 BG1 HB1 HBB T1 K1 nM cF fF yF cY fY yY cG fG yG
    obtain ⟨cG, fG, yG⟩ := bg
    have BF3 := hide ((unhide BF2).alloc (.cells y2.a 85))
    have BY3 := hide ((unhide BY2).alloc (.cells y2.a 85))
    have BG3 := hide ((unhide BG2).alloc (.cells y2.a 85))
    have hw2s : w2.heap.size = (((w2.setCell ⟨w1.heap.size + 1, 0, none⟩ (.int .i64 (f2.kind : Int))).setCell ⟨w1.heap.size + 1, 1, none⟩ (.int .i64 (f2.frm : Int))).setCell ⟨w1.heap.size + 1, 2, none⟩ (.int .i64 (f2.to : Int))).heap.size := by simp [World.setCell]
    have BU3 := hide (Bx.at (((w2.setCell ⟨w1.heap.size + 1, 0, none⟩ (.int .i64 (f2.kind : Int))).setCell ⟨w1.heap.size + 1, 1, none⟩ (.int .i64 (f2.frm : Int))).setCell ⟨w1.heap.size + 1, 2, none⟩ (.int .i64 (f2.to : Int))) y2.a 85 w2.heap.size hw2s)
    have HB3 := hide (((unhide HB2).set3 (b := w1.heap.size + 1) (by omega) (.int .i64 (f2.kind : Int)) (.int .i64 (f2.frm : Int)) (.int .i64 (f2.to : Int))).alloc (by rw [← hw2s]; omega) (.cells y2.a 85))
    clear BF2 BY2 BG2 hw2s
    obtain ⟨cF, fF, yF⟩ := unhide BF3
    obtain ⟨cY, fY, yY⟩ := unhide BY3
    obtain ⟨cH, fH, yH⟩ := unhide BG3
    obtain ⟨cU, fU, yU⟩ := unhide BU3
    unfold TV.a at cF fF cY fY cH fH cU fU
    unfold TV.v flV
    rcases unhide key with ⟨hk, hor⟩ | ⟨rfl, nb, hv2, iv2, lv2, nv2, Q2, hr2, hsz2, hlen2, hK2, hT2, hM2, hP2, hQ2⟩
    · have hf2 : (((f2.kind : Nat) : Int) != 0) = true := by simp; omega
      have HC0 : UniA a b [] false f2 := by
        unfold UniA
        rw [unhide Hr]
        simp only
        rw [if_neg (unhide Hsz)]
        rcases hor with h | ⟨nb, h, h2, h3⟩
        · rw [h]; simp
        · rw [h]; rw [h3]; simp [h2]
      have HC := hide HC0
      clear HC0 key hk hor
      go_wp2_with fail
      go_region
      go_wp2_with fail
      have F := hide (((unhide BF3).set3 rfl (.int .i64 (f2.kind : Int)) (.int .i64 (f2.frm : Int)) (.int .i64 (f2.to : Int))).drew)
      unfold TV.a at F
      obtain ⟨c9, f9, y9⟩ := unhide F
      exact bodyPost_ret (v := .tuple #[.string ⟨#[]⟩, .bool false, flV f2]) (by simp [results, Tryz.results12, go_sem, c9, flV]) rfl ⟨[], false, f2, rfl, ((unhide HB3).set3 (Nat.le_refl _) _ _ _).drew, unhide HC⟩
    · have hf2 : (((noFl.kind : Nat) : Int) != 0) = false := rfl
      have Hr2 := hide hr2
      have Hsz2 := hide hsz2
      have nM2 : ¬ w1.heap.size + 1 ∈ Mu (w.heap.size + 1) (w.heap.size + 1 + 1) hv2 iv2 lv2 nv2 := fun k => by
        rcases hM2 _ k with k | k
        · have := unhide M1 _ k; omega
        · simp at k; omega
      have nQ2 : ¬ (Q2 (w1.heap.size + 1) ∧ w1.heap.size + 1 < w2.heap.size) := fun k => by
        rcases hQ2 _ k.1 with k | k
        · omega
        · simp at k; omega
      have b3 := (Below.refl _ (((w2.setCell ⟨w1.heap.size + 1, 0, none⟩ (.int .i64 (noFl.kind : Int))).setCell ⟨w1.heap.size + 1, 1, none⟩ (.int .i64 (noFl.frm : Int))).setCell ⟨w1.heap.size + 1, 2, none⟩ (.int .i64 (noFl.to : Int)))).alloc (Nat.le_refl _) (.cells y2.a 85)
      have K3 := hide ((hK2.low.set3 nM2 nQ2 (.int .i64 (noFl.kind : Int)) (.int .i64 (noFl.frm : Int)) (.int .i64 (noFl.to : Int))).bel b3)
      have U3 := hide ((hT2.low.set3 nQ2 (.int .i64 (noFl.kind : Int)) (.int .i64 (noFl.frm : Int)) (.int .i64 (noFl.to : Int))).bel b3)
      have V3 := hide (((unhide T2 Q2 _ (mean_len nb (mean [] na).2) (fun c q z => hP2 c q (by simp; omega))).set3 nQ2 (.int .i64 (noFl.kind : Int)) (.int .i64 (noFl.frm : Int)) (.int .i64 (noFl.to : Int))).bel b3)
      have s3 : w2.heap.size + 1 = ((((w2.setCell ⟨w1.heap.size + 1, 0, none⟩ (.int .i64 (noFl.kind : Int))).setCell ⟨w1.heap.size + 1, 1, none⟩ (.int .i64 (noFl.frm : Int))).setCell ⟨w1.heap.size + 1, 2, none⟩ (.int .i64 (noFl.to : Int))).alloc (.cells y2.a 85)).heap.size := by simp [World.setCell]
      have M3 : Hid (∀ c, c ∈ Mu (w.heap.size + 1) (w.heap.size + 1 + 1) hv2 iv2 lv2 nv2 → w.heap.size < c ∧ c < w2.heap.size ∧ c ≠ w1.heap.size ∧ c ≠ w1.heap.size + 1) := fun c k => by
        refine ⟨?_, hK2.lt k, ?_, ?_⟩
        · rcases hM2 c k with k | k
          · exact (unhide M1 c k).1
          · simp at k; omega
        · rcases hM2 c k with k | k
          · have := unhide M1 c k; omega
          · simp at k; omega
        · rintro rfl; exact nM2 k
      have Q3 : Hid (∀ c, Q2 c → c ≠ w.heap.size ∧ c ≠ w1.heap.size ∧ c ≠ w1.heap.size + 1) := fun c q => by
        rcases hQ2 c q with k | k
        · have := unhide QL c k.1.1; omega
        · simp at k; omega
      unfold TV.a at BF3 BY3 BG3 BU3 HB3 K3 U3 V3 s3
      clear key hr2 hsz2 hK2 hT2 hM2 hP2 hQ2 b3 T2 HB2 nM2 nQ2 cF fF yF cY fY yY cH fH yH cU fU yU
      obtain ⟨cF, fF, yF⟩ := unhide BF3
      obtain ⟨cY, fY, yY⟩ := unhide BY3
      obtain ⟨cH, fH, yH⟩ := unhide BG3
      obtain ⟨cU, fU, yU⟩ := unhide BU3
      clear s3
      go_wp2_with fail
      refine (equal_C _ _ _ _ _ _ _ (unhide K3).ks Knw.start (Nat.le_refl _) (mean [] na).1 (mean (mean [] na).2 nb).1 y y2 (unhide V3) (unhide U3) (Nat.le_refl _)).mono ?_
      rintro e w4 ⟨ok, rfl, hF4, hT4, hN4⟩
      have nKB : ∀ c, (c = w.heap.size ∨ c = w1.heap.size ∨ c = w1.heap.size + 1 ∨ c = w2.heap.size) → ¬ KB hv2 iv2 c := fun c hc k => by
        have := unhide M3 c (mem_Mu.2 (Or.inl (Or.inr k)))
        omega
      have BF4 := hide ((unhide BF3).fr hF4 (nKB _ (Or.inl rfl)))
      have BY4 := hide ((unhide BY3).fr hF4 (nKB _ (Or.inr (Or.inl rfl))))
      have BG4 := hide ((unhide BG3).fr hF4 (nKB _ (Or.inr (Or.inr (Or.inl rfl)))))
      have HB4 : Hid (Below w.heap.size w w4) := by
        have h3 := unhide HB3
        exact ⟨hF4.os.trans h3.os, hF4.tape.trans h3.tape, hF4.output.trans h3.output, Nat.le_trans h3.size hF4.size, fun c hc => (hF4.block c (Nat.lt_of_lt_of_le hc h3.size) (fun k => by have := unhide M3 c (mem_Mu.2 (Or.inl (Or.inr k))); omega)).trans (h3.block c hc)⟩
      have V4 := hide ((unhide V3).move (w' := w4) (Q := fun c => Q2 c ∧ c < w2.heap.size) (Nat.le_refl _) hF4.size (fun c q z => hF4.block c z (fun k => by
        have := (unhide K3).ks.pk c q
        rcases k with k | k
        · exact this.2.1 k
        · exact this.2.2 k)) (fun _ q _ => q))
      have hs4 : w2.heap.size + 1 ≤ w4.heap.size := by have := hF4.size; simp [World.setCell] at this; omega
      clear hF4 BF3 BY3 BG3 BU3 HB3 V3 U3 cF fF yF cY fY yY cH fH yH cU fU yU nKB
      obtain ⟨cF, fF, yF⟩ := unhide BF4
      obtain ⟨cY, fY, yY⟩ := unhide BY4
      obtain ⟨cH, fH, yH⟩ := unhide BG4
      have hUn : Hid (∀ z ok f, ((∃ T, Mgu (mean [] na).1 (mean (mean [] na).2 nb).1 T ∧ ((48 < size T ∧ z = [] ∧ ok = false ∧ f = (⟨7, 0, 0⟩ : Fl)) ∨ (¬ 48 < size T ∧ z = Un.written dec T ∧ ok = true ∧ f = noFl))) ∨
          ((∀ σ, sub σ (mean [] na).1 ≠ sub σ (mean (mean [] na).2 nb).1) ∧ z = [] ∧ ok = false ∧ f = noFl)) → UniA a b z ok f) := fun z ok f h => by
        unfold UniA
        rw [unhide Hr]
        simp only
        rw [if_neg (unhide Hsz), unhide Hr2]
        simp only
        rw [if_neg (unhide Hsz2)]
        exact h
      cases ok with
      | false =>
        have HN := hN4 rfl
        simp only [sub_var] at HN
        have HC := hide (unhide hUn [] false noFl (Or.inr ⟨HN, rfl, rfl, rfl⟩))
        clear HN hT4 hN4 hUn
        go_wp2_with fail
        go_region
        go_wp2_with fail
        have F := hide (((unhide BF4).set3 rfl (.int .i64 (noFl.kind : Int)) (.int .i64 (noFl.frm : Int)) (.int .i64 (noFl.to : Int))).drew)
        obtain ⟨c9, f9, y9⟩ := unhide F
        exact bodyPost_ret (v := .tuple #[.string ⟨#[]⟩, .bool false, flV noFl]) (by simp [results, Tryz.results12, go_sem, c9, flV]) rfl ⟨[], false, noFl, rfl, ((unhide HB4).set3 (Nat.le_refl _) _ _ _).drew, unhide HC⟩
      | true =>
        obtain ⟨K', R', rk', hKS, hKn, hMd, _⟩ := hT4 rfl
        have HKS := hide hKS
        have HKn := hide hKn
        have HMg := hide hMd.mgu
        have HWf : Hid (∀ n, Wf (R' n)) := fun n => Knw.wf hKn (fun m t e => by
          by_cases hm : 0 < m ∧ m ≤ (mean (mean [] na).2 nb).2.length
          · obtain ⟨_, _, _, _, x, _, _, _, _, _, _, ht⟩ := hKS.at hm.1 hm.2
            exact (ht t e).wf
          · rw [hKS.out m (by omega)] at e; cases e) _ _ n (Nat.le_refl _) (Nat.le_refl _)
        clear hT4 hN4 hKS hKn hMd
        go_wp2_with fail
        refine (large_C (unhide HKn) (unhide HKS) (unhide V4)).mono ?_
        rintro e w5 ⟨rfl, hb5⟩
        have BF5 := hide ((unhide BF4).below hb5)
        have BY5 := hide ((unhide BY4).below hb5)
        have BG5 := hide ((unhide BG4).below hb5)
        have HB5 := hide ((unhide HB4).trans (hb5.mono (by omega)))
        have K5 := hide ((unhide HKS).bel hb5)
        have V5 := hide ((unhide V4).bel hb5)
        have hs5 : w4.heap.size ≤ w5.heap.size := hb5.size
        clear BF4 BY4 BG4 HB4 HKS V4 hb5 cF fF yF cY fY yY cH fH yH
        obtain ⟨cF, fF, yF⟩ := unhide BF5
        obtain ⟨cY, fY, yY⟩ := unhide BY5
        obtain ⟨cH, fH, yH⟩ := unhide BG5
        by_cases hlg : 48 < size (sub R' (mean [] na).1)
        · have HC := hide (unhide hUn [] false ⟨7, 0, 0⟩ (Or.inl ⟨_, unhide HMg, Or.inl ⟨hlg, rfl, rfl, rfl⟩⟩))
          have hd : decide (48 < size (sub R' (mean [] na).1)) = true := by simp [hlg]
          rw [hd]
          clear hlg hd hUn
          go_wp2_with fail
          have F := hide ((unhide BF5).set3 rfl (.int .i64 7) (.int .i64 0) (.int .i64 0))
          obtain ⟨c9, f9, y9⟩ := unhide F
          exact bodyPost_ret (v := .tuple #[.string ⟨#[]⟩, .bool false, flV ⟨7, 0, 0⟩]) (by simp [results, Tryz.results12, go_sem, c9, flV]) rfl ⟨[], false, ⟨7, 0, 0⟩, rfl, (unhide HB5).set3 (Nat.le_refl _) _ _ _, unhide HC⟩
        · have HC := hide (unhide hUn _ true noFl (Or.inl ⟨_, unhide HMg, Or.inr ⟨hlg, rfl, rfl, rfl⟩⟩))
          have hd : decide (48 < size (sub R' (mean [] na).1)) = false := by simp [hlg]
          rw [hd]
          have szT : size (sub R' (mean [] na).1) ≤ 48 := by omega
          clear hlg hd hUn
          have kw := (unhide K5).hk
          have b6 := (Below.refl w5.heap.size w5).alloc (Nat.le_refl _) (.cells #[.pointer (some ⟨w.heap.size + 1, 0, none⟩), .slice none 0 0] 91)
          have BP := hide (Bx.new w5 #[.pointer (some ⟨w.heap.size + 1, 0, none⟩), .slice none 0 0] 91)
          have BF6 := hide ((unhide BF5).alloc (.cells #[.pointer (some ⟨w.heap.size + 1, 0, none⟩), .slice none 0 0] 91))
          have BY6 := hide ((unhide BY5).alloc (.cells #[.pointer (some ⟨w.heap.size + 1, 0, none⟩), .slice none 0 0] 91))
          have BG6 := hide ((unhide BG5).alloc (.cells #[.pointer (some ⟨w.heap.size + 1, 0, none⟩), .slice none 0 0] 91))
          have HB6 := hide ((unhide HB5).alloc (by omega) (.cells #[.pointer (some ⟨w.heap.size + 1, 0, none⟩), .slice none 0 0] 91))
          have W6 : Hid (WS _ w5.heap.size (w.heap.size + 1) 0 hv2 iv2 _ K' (fun c => Q2 c ∧ c < w2.heap.size) (.slice none 0 0) []) :=
            ⟨(unhide K5).bel b6, ⟨(unhide BP).c 0, (unhide BP).c 1, (unhide BP).f, (unhide BP).z, ⟨rfl, Or.inl ⟨rfl, rfl⟩⟩, by simp [Value.ownBlock]⟩, by
              rintro c (rfl | k) hc
              · rcases hc with k | k | k
                · omega
                · have := (unhide K5).kb_lt k; omega
                · omega
              · simp [Value.ownBlock] at k, Nat.zero_le _⟩
          have V6 := hide ((unhide V5).bel b6)
          clear BF5 BY5 BG5 HB5 K5 V5 b6 cF fF yF cY fY yY cH fH yH
          obtain ⟨cF, fF, yF⟩ := unhide BF6
          obtain ⟨cY, fY, yY⟩ := unhide BY6
          obtain ⟨cH, fH, yH⟩ := unhide BG6
          go_wp2_with fail
          go_region_with (go_at_call 29; refine (write_C (unhide HKn) (unhide HWf) 48 _ _ _ _ ((unhide W6).bel (Below.refl _ _).drew) (mean [] na).1 y ((unhide V6).bel (Below.refl _ _).drew) szT 0 (by simp; omega)).mono ?_; rintro e w7 ⟨lv7, rfl, hW7, hF7, hL7⟩; obtain ⟨d1, d2, d3⟩ := ((unhide BF6).drew.fr hF7 (fun k => by rcases k with k | k; omega; simp [Value.ownBlock] at k)); obtain ⟨e1, e2, e3⟩ := ((unhide BG6).drew.fr hF7 (fun k => by rcases k with k | k; omega; simp [Value.ownBlock] at k)); have HF7 := hide hF7; have B7 := hide ((unhide BF6).drew.fr hF7 (fun k => by rcases k with k | k; omega; simp [Value.ownBlock] at k)); clear hW7 hF7 hL7)
          all_goals
            go_wp2_with fail
            have F9 := hide ((unhide B7).set3 rfl (.int .i64 (noFl.kind : Int)) (.int .i64 (noFl.frm : Int)) (.int .i64 (noFl.to : Int)))
            obtain ⟨c9, f9, y9⟩ := unhide F9
            have HB7 : Below w.heap.size w w7 := by
              have h3 := (unhide HB6).drew
              refine ⟨(unhide HF7).os.trans h3.os, (unhide HF7).tape.trans h3.tape, (unhide HF7).output.trans h3.output, Nat.le_trans h3.size (unhide HF7).size, fun c hc => ((unhide HF7).block c (Nat.lt_of_lt_of_le hc h3.size) (fun k => ?_)).trans (h3.block c hc)⟩
              rcases k with k | k
              · omega
              · simp [Value.ownBlock] at k
            exact bodyPost_ret (v := .tuple #[.string (bs (Un.wr dec (vars [] (sub R' (mean [] na).1)) (sub R' (mean [] na).1) 0)), .bool true, flV noFl]) (by simp [results, Tryz.results12, go_sem, c9, flV]) rfl ⟨_, true, noFl, rfl, HB7.set3 (Nat.le_refl _) _ _ _, unhide HC⟩
end
end Go.Proofs.YtfflpeklkfjdnaaGreatDoor

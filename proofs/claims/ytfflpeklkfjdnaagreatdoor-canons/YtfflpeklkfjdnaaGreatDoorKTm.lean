import Derived.Test.YtfflpeklkfjdnaaGreatDoorKTf
import Derived.Test.YtfflpeklkfjdnaaGreatDoorKSj
import Derived.Test.YtfflpeklkfjdnaaGreatDoorKTj
set_option linter.unusedSimpArgs false
set_option linter.unusedVariables false
set_option linter.unusedSectionVars false
namespace Go.Proofs.YtfflpeklkfjdnaaGreatDoor
open Go Go.RowKit Un

theorem toksF_last (s : ByteArray) : ∀ f i, ∃ l, Pu.toksF s f i = l ++ [Pu.endTok s] ∧ l.length ≤ f
  | 0, i => ⟨[], rfl, Nat.le_refl _⟩
  | f + 1, i => by
      unfold Pu.toksF
      split
      · split
        · obtain ⟨l, h, k⟩ := toksF_last s f (i + 1)
          exact ⟨l, h, by omega⟩
        · obtain ⟨l, h, k⟩ := toksF_last s f (Pu.tokAt s i).to
          exact ⟨Pu.tokAt s i :: l, by rw [h]; rfl, by simp; omega⟩
      · exact ⟨[], rfl, by simp⟩
theorem toks_last (s : ByteArray) (i : Nat) : ∃ l, Pu.toks s i = l ++ [Pu.endTok s] ∧ l.length ≤ s.size - i := toksF_last s _ i
theorem toks_en (s : ByteArray) : ∀ i (h : i < (Pu.toks s 0).length), (Pu.toks s 0)[i].kind ≠ 7 → i + 1 < (Pu.toks s 0).length := by
  obtain ⟨l, e, _⟩ := toks_last s 0
  rw [e]
  intro i h hk
  simp at h ⊢
  by_cases k : i = l.length
  · subst k
    rw [List.getElem_append_right (by omega)] at hk
    exact absurd (by simp [Pu.endTok]) hk
  · omega
theorem ext0 (s : ByteArray) (i e : Nat) (h : i < e) (he : e ≤ s.size) : (s.extract i e).data[0]? = s.data[i]? := by
  have hi : i < s.data.size := by have : s.size = s.data.size := rfl; omega
  rw [ByteArray.data_extract, Array.getElem?_extract]
  simp
  intro h2
  have : s.size = s.data.size := rfl
  omega
theorem extsz (s : ByteArray) (i e : Nat) (he : e ≤ s.size) : (s.extract i e).size = e - i := by
  rw [ByteArray.size_extract]; omega
theorem toksF_up (s : ByteArray) (hs : s.size ≤ 400) : ∀ f i t, t ∈ Pu.toksF s f i → t.kind = 2 → ∀ n, okN t.text n
  | 0, i, t, h, hk => by
      simp [Pu.toksF, Pu.endTok] at h
      subst h
      simp at hk
  | f + 1, i, t, h, hk => by
      unfold Pu.toksF at h
      split at h
      · rename_i hi
        split at h
        · exact toksF_up s hs f _ t h hk
        · rcases List.mem_cons.1 h with h | h
          · subst h
            have hup : Pu.upB (Pu.at_ s i) = true ∧ Pu.tokAt s i = Pu.mkT s i 2 (Pu.endTo s Pu.nameB i) := by
              revert hk
              unfold Pu.tokAt
              repeat' split
              all_goals first
                | (intro hk; simp [Pu.mkT] at hk; done)
                | (intro hk; exact ⟨by assumption, rfl⟩)
            have hge : i < Pu.endTo s Pu.nameB i := by
              have : Pu.nameB (Pu.at_ s i) = true := by simp [Pu.nameB, hup.1]
              exact Pu.endTo_gt hi this
            have hle : Pu.endTo s Pu.nameB i ≤ s.size := Pu.endTo_le _ (by omega)
            have htx : (Pu.tokAt s i).text = s.extract i (Pu.endTo s Pu.nameB i) := by rw [hup.2]; rfl
            have h0 := ext0 s i _ hge hle
            have hb : s.data[i]? = some s[i] := by rw [Array.getElem?_eq_getElem (by exact hi)]; rfl
            have hu := hup.1
            rw [Pu.at_lt hi] at hu
            intro n
            refine ⟨by rw [htx, extsz s i _ hle]; omega, ?_⟩
            rw [htx]
            rintro (e | e)
            · rw [e, hb] at h0
              have : s[i] = 62 := by simpa [nFn] using h0.symm
              rw [this] at hu
              exact absurd hu (by decide)
            · rw [e, hb] at h0
              have : s[i] = 44 := by simpa [nPr] using h0.symm
              rw [this] at hu
              exact absurd hu (by decide)
          · exact toksF_up s hs f _ t h hk
      · simp [Pu.endTok] at h
        subst h
        simp at hk
theorem toks_up (s : ByteArray) (hs : s.size ≤ 400) : UpOk (Pu.toks s 0) := by
  intro k hk
  unfold tk at hk ⊢
  rw [List.getD_eq_getElem?_getD] at hk ⊢
  cases e : (Pu.toks s 0)[k]? with
  | none => rw [e] at hk; simp at hk
  | some t =>
    rw [e] at hk
    exact toksF_up s hs _ _ t (List.mem_of_getElem? e) hk
/-- The text of a type, read: what is wrong, or the part that it is. -/
def readT (s : ByteArray) : Except Fl Nd :=
  if 400 < s.size then .error ⟨1, 0, 0⟩ else
  match typM (Pu.toks s 0) (Pu.toks s 0).length 0 with
  | .error f => .error f
  | .ok (a, k) => if (tk (Pu.toks s 0) k).kind == 7 then .ok a else .error (flOf (tk (Pu.toks s 0) k))
def flV (f : Fl) : Value := .agg #[.int .i64 (f.kind : Int), .int .i64 (f.frm : Int), .int .i64 (f.to : Int)]
def TypedPost (s : ByteArray) (w : World) (e : Ending) (w' : World) : Prop :=
  ∃ x f, e = .returned (.tuple #[NV.v x, flV f]) ∧ Below w.heap.size w w' ∧ match readT s with
    | .error f' => f = f' ∧ f.kind ≠ 0
    | .ok a => (f = noFl ∧ NR w' (fun b => w.heap.size ≤ b) a x) ∧ TyNd a ∧ cnt a ≤ 401
theorem tokCells_at (l : List Pu.Tok) (i : Nat) (h : i < l.length) : (tokCells l)[i * 4]? = some (.int .i64 (l[i].kind : Int)) ∧ (tokCells l)[i * 4 + 1]? = some (.string l[i].text) ∧ (tokCells l)[i * 4 + 2]? = some (.int .i64 (l[i].frm : Int)) ∧ (tokCells l)[i * 4 + 3]? = some (.int .i64 (l[i].to : Int)) := by
  induction l generalizing i with
  | nil => simp at h
  | cons x xs ih =>
    cases i with
    | zero => simp [tokCells]
    | succ i =>
      have := ih i (by simpa using h)
      have e : ∀ j, (tokCells (x :: xs))[(i + 1) * 4 + j]? = (tokCells xs)[i * 4 + j]? := fun j => by
        have : tokCells (x :: xs) = .int .i64 (x.kind : Int) :: .string x.text :: .int .i64 (x.frm : Int) :: .int .i64 (x.to : Int) :: tokCells xs := by simp [tokCells]
        rw [this, show (i + 1) * 4 + j = i * 4 + j + 4 by omega]
        simp
      have e0 := e 0
      simp only [Nat.add_zero] at e0
      rw [e0, e 1, e 2, e 3]
      simpa using this
section
variable {w : World}
set_option maxRecDepth 100000 in
set_option maxHeartbeats 1000000 in
theorem typed_long (s : ByteArray) (hs : 400 < s.size) : Calls Tryz.prog 67 #[.string s] w (TypedPost s w) := by
  have h1 : (400 : Int) < (s.size : Int) := by omega
  have hp : Hid (readT s = .error ⟨1, 0, 0⟩) := by show _ = _; simp [readT, hs]
  clear hs
  go_enter Tryz.func67, Tryz.ntmps67
  go_wp2_with fail
  refine bodyPost_ret (v := .tuple #[NV.v NV.no, flV ⟨1, 0, 0⟩]) (by simp [results, Tryz.results67, go_sem, NV.v, NV.no, flV]) rfl ⟨NV.no, ⟨1, 0, 0⟩, rfl, ((Below.refl _ _).alloc (Nat.le_refl _) _).alloc (by simp) _, ?_⟩
  rw [unhide hp]
  exact ⟨rfl, by simp⟩
theorem _root_.Go.RowKit.Below.ke' {B rb : Nat} {a b c : World} (h : Below B a b) (k : Ke rb b c) (hr : B ≤ rb) (hB : B ≤ b.heap.size) : Below B a c :=
  ⟨k.os.trans h.os, k.tape.trans h.tape, k.output.trans h.output, Nat.le_trans h.size k.size, fun i hi => (k.block i (by omega) (by omega)).trans (h.block i hi)⟩
theorem _root_.Go.RowKit.Below.set7 {B : Nat} {a w : World} (h : Below B a w) {b : Nat} (hb : B ≤ b) (v0 v1 v2 v3 v4 v5 v6 : Value) : Below B a (((((((w.setCell ⟨b, 0, none⟩ v0).setCell ⟨b, 1, none⟩ v1).setCell ⟨b, 2, none⟩ v2).setCell ⟨b, 3, none⟩ v3).setCell ⟨b, 4, none⟩ v4).setCell ⟨b, 5, none⟩ v5).setCell ⟨b, 6, none⟩ v6) :=
  ((((((h.setCell (p := ⟨b, 0, none⟩) hb v0).setCell (p := ⟨b, 1, none⟩) hb v1).setCell (p := ⟨b, 2, none⟩) hb v2).setCell (p := ⟨b, 3, none⟩) hb v3).setCell (p := ⟨b, 4, none⟩) hb v4).setCell (p := ⟨b, 5, none⟩) hb v5).setCell (p := ⟨b, 6, none⟩) hb v6
/-- The reader, as Typed makes it. -/
theorem SS.made {w1 : World} {base g cap : Nat} {T : List Pu.Tok} (ho : w1.ownsRow base 58 4 (.slice (some ⟨g, 0, none⟩) T.length cap) T.length (tokCells T)) (hp : 0 < T.length) (hT : T.length ≤ 1001) (en : ∀ i (h : i < T.length), T[i].kind ≠ 7 → i + 1 < T.length) (tt : TypeId) :
    SS (w1.alloc (.cells #[.slice (some ⟨g, 0, none⟩) T.length cap, .int .i64 0, .int .i64 0, .int .i64 0, .int .i64 0] tt)) w1.heap.size g cap T (.ok 0) := by
  have zg := (own_block ho g rfl).2
  have B := Bx.new w1 #[.slice (some ⟨g, 0, none⟩) T.length cap, .int .i64 0, .int .i64 0, .int .i64 0, .int .i64 0] tt
  have bb := (Below.refl w1.heap.size w1).alloc (Nat.le_refl _) (.cells #[.slice (some ⟨g, 0, none⟩) T.length cap, .int .i64 0, .int .i64 0, .int .i64 0, .int .i64 0] tt)
  refine (show RS _ _ _ _ _ 0 noFl from ⟨B.c 0, B.c 1, B.c 2, B.c 3, B.c 4, B.f, fun i hi => ?_, B.z, by have := bb.size; omega, by omega, hp, hT, en⟩)
  obtain ⟨t0, t1, t2, t3⟩ := tokCells_at T i hi
  rw [oldCell bb g _ zg, oldCell bb g _ zg, oldCell bb g _ zg, oldCell bb g _ zg, own_cell ho _ (by omega), own_cell ho _ (by omega), own_cell ho _ (by omega), own_cell ho _ (by omega)]
  exact ⟨t0, t1, t2, t3⟩
set_option maxRecDepth 100000 in
set_option maxHeartbeats 1000000 in
theorem typed_short (s : ByteArray) (hs : s.size ≤ 400) : Calls Tryz.prog 67 #[.string s] w (TypedPost s w) := by
  have h1 : ¬ (400 : Int) < (s.size : Int) := by omega
  have bb := ((Below.refl w.heap.size w).alloc (Nat.le_refl _) (.cells zNode 62)).alloc (by simp) (.cells #[.int .i64 0, .int .i64 0, .int .i64 0] 34)
  have BX := hide ((Bx.new w zNode 62).alloc (.cells #[.int .i64 0, .int .i64 0, .int .i64 0] 34))
  have BF := hide (Bx.at (w.alloc (.cells zNode 62)) #[.int .i64 0, .int .i64 0, .int .i64 0] 34 (w.heap.size + 1) (by simp))
  have HB := hide bb
  clear bb
  go_enter Tryz.func67, Tryz.ntmps67
  go_wp2_with fail
  refine (tokens_any s _ (by omega)).mono ?_
  rintro e w1 ⟨v, rfl, ho, hb⟩
  have hT4 : (Pu.toks s 0).length ≤ 401 := by obtain ⟨l, hl, hll⟩ := toks_last s 0; rw [hl]; simp; omega
  have hT : (Pu.toks s 0).length ≤ 1001 := by omega
  have hpos : 0 < (Pu.toks s 0).length := by obtain ⟨l, hl, hll⟩ := toks_last s 0; rw [hl]; simp
  have hen := hide (toks_en s)
  have hU := hide (toks_up s hs)
  have hrd : Hid (readT s = match typM (Pu.toks s 0) (Pu.toks s 0).length 0 with
    | .error f => .error f
    | .ok (a, k) => if (tk (Pu.toks s 0) k).kind == 7 then .ok a else .error (flOf (tk (Pu.toks s 0) k))) := by show _ = _; rw [readT, if_neg (by omega)]
  generalize Pu.toks s 0 = T at ho hT hT4 hpos hen hrd hU
  obtain ⟨g, cap, rfl, zg, hcap⟩ := own_open ho hpos
  have HS := hide (SS.made ho hpos hT (unhide hen) 142)
  have hs1 : w.heap.size + 2 ≤ w1.heap.size := by have := hb.size; simp at this; omega
  have BX1 := hide (((unhide BX).below hb).alloc (.cells #[.slice (some ⟨g, 0, none⟩) T.length cap, .int .i64 0, .int .i64 0, .int .i64 0, .int .i64 0] 142))
  have BF1 := hide (((unhide BF).below hb).alloc (.cells #[.slice (some ⟨g, 0, none⟩) T.length cap, .int .i64 0, .int .i64 0, .int .i64 0, .int .i64 0] 142))
  have HB1 := hide (((unhide HB).trans (hb.mono (by simp; omega))).alloc (by omega) (.cells #[.slice (some ⟨g, 0, none⟩) T.length cap, .int .i64 0, .int .i64 0, .int .i64 0, .int .i64 0] 142))
  clear ho hb BX BF HB
  go_wp2_with fail
  refine (typ_C T.length _ _ (unhide HS) (by intro k hk; cases hk; omega)).mono ?_
  rintro e w2 ⟨x, rfl, hK2, hS2, hN2⟩
  have HN : Hid (∀ a k', typM T T.length 0 = .ok (a, k') → NR w2 (fun b => w1.heap.size < b) a x) := fun a k' h => (hN2 0 a k' rfl h).move (Nat.le_refl _) (fun _ _ _ => rfl) (fun b p _ => by simp at p; omega)
  have S2 := hide (hS2.alloc (.cells (nodeA x) 62))
  have BX2 := hide (((unhide BX1).ke hK2 (by omega)).alloc (.cells (nodeA x) 62))
  have BF2 := hide (((unhide BF1).ke hK2 (by omega)).alloc (.cells (nodeA x) 62))
  have BY2 := hide (Bx.new w2 (nodeA x) 62)
  have hs2 : w1.heap.size + 1 ≤ w2.heap.size := by have := hK2.size; simp at this; omega
  have HB2 := hide (((unhide HB1).ke' hK2 (by omega) (by simp; omega)).alloc (by omega) (.cells (nodeA x) 62))
  have HN : Hid (∀ a k', typM T T.length 0 = .ok (a, k') → NR (w2.alloc (.cells (nodeA x) 62)) (fun b => w1.heap.size < b ∧ b < w2.heap.size) a x) := fun a k' h => (unhide HN a k' h).move (by simp) (fun b _ z => (Below.heap_alloc _ _ _ z)) (fun b p z => ⟨p, z⟩)
  clear hN2 hS2 hK2 BX1 BF1 HB1 HS
  have hrd : Hid (readT s = match nx (.ok 0) (typM T T.length) with
    | .error f => .error f
    | .ok k => if (tk T k).kind == 7 then (match typM T T.length 0 with | .ok (a, _) => .ok a | .error f => .error f) else .error (flOf (tk T k))) := by
    show _ = _
    rw [unhide hrd]
    cases e : typM T T.length 0 with
    | error f => simp [nx, e]
    | ok p => obtain ⟨a, k⟩ := p; simp [nx, e]
  have Hok : Hid (∀ k, nx (.ok 0) (typM T T.length) = .ok k → ∃ a, typM T T.length 0 = .ok (a, k)) := by
    intro k h
    cases e : typM T T.length 0 with
    | error f => simp [nx, e] at h
    | ok p => obtain ⟨a, k2⟩ := p; simp [nx, e] at h; subst h; exact ⟨a, rfl⟩
  generalize nx (.ok 0) (typM T T.length) = σ at S2 hrd Hok
  unfold NV.v
  go_wp2_with fail
  refine (of_S (unhide S2) 7).mono ?_
  rintro e w3 ⟨rfl, hb3⟩
  have S3 := hide ((unhide S2).below hb3)
  have BX3 := hide ((unhide BX2).below hb3)
  have BF3 := hide ((unhide BF2).below hb3)
  have BY3 := hide ((unhide BY2).below hb3)
  have hs3 : w2.heap.size + 1 ≤ w3.heap.size := by have := hb3.size; simp at this; omega
  have HB3 := hide ((unhide HB2).trans (hb3.mono (by simp; omega)))
  have HN3 : Hid (∀ a k', typM T T.length 0 = .ok (a, k') → NR w3 (fun b => w1.heap.size < b ∧ b < w2.heap.size) a x) := fun a k' h => (unhide HN a k' h).bel hb3
  clear S2 BX2 BF2 BY2 HB2 HN hb3
  cases hof : ofS T σ 7 with
  | true =>
    obtain ⟨k, rfl, hk7⟩ : ∃ k, σ = .ok k ∧ ((tk T k).kind == 7) = true := by
      cases σ with
      | error f => simp [ofS] at hof
      | ok k => exact ⟨k, rfl, by simpa [ofS] using hof⟩
    have R3 : RS w3 w1.heap.size g cap T k noFl := unhide S3
    have z2 := R3.c2
    have z3 := R3.c3
    have z4 := R3.c4
    obtain ⟨a, ha⟩ := unhide Hok k rfl
    have HA := hide (unhide HN3 a k ha)
    have hkT := R3.hk
    have HTy : Hid (TyNd a ∧ cnt a ≤ 401) := by
      obtain ⟨t1, z1, c1⟩ := typ_ty (unhide hU) hT T.length 0 a k ha
      exact ⟨t1, by omega⟩
    have hrd' : Hid (readT s = .ok a) := by show _ = _; rw [unhide hrd]; simp only [hk7, ha]; rfl
    obtain ⟨cX, fX, yX⟩ := unhide BX3
    obtain ⟨cF, fF, yF⟩ := unhide BF3
    obtain ⟨cY, fY, yY⟩ := unhide BY3
    clear R3 S3 ha hrd Hok HN3
    go_wp2_with fail
    go_region
    go_wp2_with fail
    have BXf := hide ((((unhide BX3).st7 rfl x).setO3 (b2 := w.heap.size + 1) (by omega) (.int .i64 (noFl.kind : Int)) (.int .i64 (noFl.frm : Int)) (.int .i64 (noFl.to : Int))).drew)
    have BFf := hide ((((unhide BF3).stO7 (b := w.heap.size) (by omega) x).set3 rfl (.int .i64 (noFl.kind : Int)) (.int .i64 (noFl.frm : Int)) (.int .i64 (noFl.to : Int))).drew)
    have HBf := hide ((((unhide HB3).set7 (b := w.heap.size) (Nat.le_refl _) (.int .i64 x.k) (.string x.s) (.int .i64 x.n) (.slice x.la x.ll x.lc) (.int .i64 x.f) (.int .i64 x.t) (.int .i64 x.a)).set3 (b := w.heap.size + 1) (by omega) (.int .i64 (noFl.kind : Int)) (.int .i64 (noFl.frm : Int)) (.int .i64 (noFl.to : Int))).drew)
    obtain ⟨cX', fX', yX'⟩ := unhide BXf
    obtain ⟨cF', fF', yF'⟩ := unhide BFf
    refine bodyPost_ret (v := .tuple #[NV.v x, flV noFl]) (by simp [results, Tryz.results67, go_sem, cX', cF', NV.v, flV]) rfl ⟨x, noFl, rfl, unhide HBf, ?_⟩
    rw [unhide hrd']
    refine ⟨⟨rfl, (unhide HA).move (by simp [World.setCell]) (fun b p _ => ?_) (fun b p _ => by omega)⟩, unhide HTy⟩
    have n0 : b ≠ w.heap.size := by omega
    have n1 : b ≠ w.heap.size + 1 := by omega
    rw [show ∀ u : World, u.drew.heap = u.heap from fun _ => rfl, Below.heap_setCell _ _ _ _ n1, Below.heap_setCell _ _ _ _ n1, Below.heap_setCell _ _ _ _ n1, Below.heap_setCell _ _ _ _ n0, Below.heap_setCell _ _ _ _ n0, Below.heap_setCell _ _ _ _ n0, Below.heap_setCell _ _ _ _ n0, Below.heap_setCell _ _ _ _ n0, Below.heap_setCell _ _ _ _ n0, Below.heap_setCell _ _ _ _ n0]
  | false =>
    go_wp2_with fail
    refine (wrong_S (α := Nd) (unhide S3)).mono ?_
    rintro e w4 ⟨rfl, hK4, hS4⟩
    have BX4 := hide ((unhide BX3).ke hK4 (by omega))
    have BF4 := hide ((unhide BF3).ke hK4 (by omega))
    have BY4 := hide ((unhide BY3).ke hK4 (by omega))
    have HB4 := hide ((unhide HB3).ke' hK4 (by omega) (by omega))
    obtain ⟨k4, f, R4, hor⟩ := hS4.any
    have hf : Hid (f.kind ≠ 0 ∧ readT s = .error f) := by
      refine ⟨?_, ?_⟩
      · rcases hor with ⟨h, _⟩ | ⟨_, h⟩
        · cases σ with
          | error f' => simp [nx] at h
          | ok k => simp [nx, wrongM] at h
        · exact h
      · rw [unhide hrd]
        cases σ with
        | error f' =>
          rcases hor with ⟨h, _⟩ | ⟨h, _⟩
          · simp [nx] at h
          · simp only [nx, Except.error.injEq] at h
            rw [h]
        | ok k =>
          have hk : ((tk T k).kind == 7) = false := by simpa [ofS] using hof
          rcases hor with ⟨h, _⟩ | ⟨h, _⟩
          · simp [nx, wrongM] at h
          · simp only [nx, wrongM, Except.error.injEq] at h
            simp only [hk, h]
            rfl
    have z2 := R4.c2
    have z3 := R4.c3
    have z4 := R4.c4
    clear R4 hor hS4 hK4 hof S3 BX3 BF3 BY3 HB3
    obtain ⟨cX, fX, yX⟩ := unhide BX4
    obtain ⟨cF, fF, yF⟩ := unhide BF4
    obtain ⟨cY, fY, yY⟩ := unhide BY4
    go_wp2_with fail
    go_region
    go_wp2_with fail
    have BXf := hide ((((unhide BX4).st7 rfl x).setO3 (b2 := w.heap.size + 1) (by omega) (.int .i64 (f.kind : Int)) (.int .i64 (f.frm : Int)) (.int .i64 (f.to : Int))).drew)
    have BFf := hide ((((unhide BF4).stO7 (b := w.heap.size) (by omega) x).set3 rfl (.int .i64 (f.kind : Int)) (.int .i64 (f.frm : Int)) (.int .i64 (f.to : Int))).drew)
    have HBf := hide ((((unhide HB4).set7 (b := w.heap.size) (Nat.le_refl _) (.int .i64 x.k) (.string x.s) (.int .i64 x.n) (.slice x.la x.ll x.lc) (.int .i64 x.f) (.int .i64 x.t) (.int .i64 x.a)).set3 (b := w.heap.size + 1) (by omega) (.int .i64 (f.kind : Int)) (.int .i64 (f.frm : Int)) (.int .i64 (f.to : Int))).drew)
    obtain ⟨cX', fX', yX'⟩ := unhide BXf
    obtain ⟨cF', fF', yF'⟩ := unhide BFf
    refine bodyPost_ret (v := .tuple #[NV.v x, flV f]) (by simp [results, Tryz.results67, go_sem, cX', cF', NV.v, flV]) rfl ⟨x, f, rfl, unhide HBf, ?_⟩
    rw [(unhide hf).2]
    exact ⟨rfl, (unhide hf).1⟩
theorem Typed_C (s : ByteArray) : Calls Tryz.prog 67 #[.string s] w (TypedPost s w) := by
  by_cases h : 400 < s.size
  · exact typed_long s h
  · exact typed_short s (by omega)
end
end Go.Proofs.YtfflpeklkfjdnaaGreatDoor
namespace Go.Proofs.YtfflpeklkfjdnaaGreatDoor
open Go Go.RowKit Un
def TakenPost (kb nb : Nat) (hv iv lv nv : Value) (ns : List ByteArray) (K : Nat → Option Ty) (R : Nat → Ty) (P : Nat → Prop) (s : ByteArray) (w : World) (e : Ending) (w' : World) : Prop :=
  ∃ y f, e = .returned (.tuple #[TV.v y, flV f]) ∧ Fr (· ∈ Mu kb nb hv iv lv nv) w w' ∧ match readT s with
    | .error f' => f = f' ∧ f.kind ≠ 0
    | .ok a => (48 < size (sub R (mean ns a).1) ∧ f = ⟨7, 0, s.size⟩) ∨ (¬ 48 < size (sub R (mean ns a).1) ∧ f = noFl ∧ (mean ns a).2.length ≤ ns.length + 401 ∧ ∃ hv' iv' lv' nv' Q, KN w' kb nb hv' iv' lv' nv' (mean ns a).2 K Q ∧ TR w' Q (mean ns a).2.length (mean ns a).1 y ∧
      (∀ b, b ∈ Mu kb nb hv' iv' lv' nv' → b ∈ Mu kb nb hv iv lv nv ∨ w.heap.size ≤ b) ∧ (∀ b, P b → b < w.heap.size → Q b) ∧ (∀ b, Q b → (P b ∧ b < w.heap.size) ∨ w.heap.size ≤ b))
abbrev zFl : Array Value := #[.int .i64 0, .int .i64 0, .int .i64 0]
abbrev flA (f : Fl) : Array Value := #[.int .i64 (f.kind : Int), .int .i64 (f.frm : Int), .int .i64 (f.to : Int)]
section
variable {w : World} {kb nb : Nat} {hv iv lv nv : Value} {ns : List ByteArray} {K : Nat → Option Ty} {R : Nat → Ty} {rk : Nat → Nat} {P : Nat → Prop}
set_option maxRecDepth 100000 in
set_option maxHeartbeats 2000000 in
theorem taken_C (h : KN w kb nb hv iv lv nv ns K P) (hK : Knw K R rk) (hN : ns.length + 401 ≤ 1000) (s : ByteArray) :
    Calls Tryz.prog 28 #[.pointer (some ⟨nb, 0, none⟩), .pointer (some ⟨kb, 0, none⟩), .string s] w (TakenPost kb nb hv iv lv nv ns K R P s w) := by
  have H := hide h.low
  have HK := hide hK
  have ml : Hid (∀ b, b ∈ Mu kb nb hv iv lv nv → b < w.heap.size) := fun b hb => h.lt hb
  have BT := hide ((Bx.new w zTy 85).alloc (.cells zFl 34))
  have BF := hide (Bx.at (w.alloc (.cells zTy 85)) zFl 34 (w.heap.size + 1) (by simp))
  have HB := hide (((Below.refl w.heap.size w).alloc (Nat.le_refl _) (.cells zTy 85)).alloc (by simp) (.cells zFl 34))
  clear h hK
  go_enter Tryz.func28, Tryz.ntmps28
  go_wp2_with fail
  refine (Typed_C s).mono ?_
  rintro e w1 ⟨x, f, rfl, hb, hmt⟩
  have hs1 : w.heap.size + 2 ≤ w1.heap.size := by have := hb.size; simp at this; omega
  have hmt := hide hmt
  have BT1 := hide ((((unhide BT).below hb).alloc (.cells (nodeA x) 62)).alloc (.cells (flA f) 34))
  have BF1 := hide ((((unhide BF).below hb).alloc (.cells (nodeA x) 62)).alloc (.cells (flA f) 34))
  have BX1 := hide ((Bx.new w1 (nodeA x) 62).alloc (.cells (flA f) 34))
  have BG1 := hide (Bx.at (w1.alloc (.cells (nodeA x) 62)) (flA f) 34 (w1.heap.size + 1) (by simp))
  have bb := ((Below.refl w1.heap.size w1).alloc (Nat.le_refl _) (.cells (nodeA x) 62)).alloc (by simp) (.cells (flA f) 34)
  have HB1 := hide (((unhide HB).trans (hb.mono (by simp; omega))).trans (bb.mono (by omega)))
  have HBB := hide bb
  clear BT BF HB hb bb
  obtain ⟨cT, fT, yT⟩ := unhide BT1
  obtain ⟨cF, fF, yF⟩ := unhide BF1
  obtain ⟨cX, fX, yX⟩ := unhide BX1
  obtain ⟨cG, fG, yG⟩ := unhide BG1
  unfold NV.v flV
  by_cases hf : f.kind = 0
  · have hf' : (((f.kind : Nat) : Int) != 0) = false := by simp [hf]
    have Hf := hide hf
    clear hf
    cases hr : readT s with
    | error f' =>
      have := unhide hmt
      rw [hr] at this
      exact absurd (unhide Hf) this.2
    | ok a =>
      have hmt := unhide hmt
      rw [hr] at hmt
      obtain ⟨⟨rfl, hNR⟩, hTy, hcnt⟩ := hmt
      have HNR := hide ((hNR.move (Q := fun b => w.heap.size + 2 ≤ b ∧ b < w1.heap.size) (Nat.le_refl _) (fun _ _ _ => rfl) (fun b p z => by simp at p; omega)).bel (unhide HBB))
      have HTy := hide hTy
      have hlen := Nat.le_trans (mean_cnt a ns) (Nat.add_le_add_left hcnt _)
      have Hr := hide hr
      clear hNR hTy hcnt hr
      go_wp2_with fail
      refine (meant_C (unhide HTy) _ kb nb hv iv lv nv ns K _ _ x ((unhide H).bel (unhide HB1)) (unhide HNR) (fun b q k => by have := unhide ml b k; omega) (by omega)).mono ?_
      rintro e w3 ⟨y, hv3, iv3, lv3, nv3, Q3, rfl, hK3, hT3, hF3, hM3, hP3, hQ3⟩
      have nM : ∀ b, w.heap.size ≤ b → ¬ b ∈ Mu kb nb hv iv lv nv := fun b hb k => by have := unhide ml b k; omega
      have hs3 : w1.heap.size + 2 ≤ w3.heap.size := by have := hF3.size; simp at this; omega
      have b3 := (Below.refl w3.heap.size w3).alloc (Nat.le_refl _) (.cells y.a 85)
      have BT3 := hide (((unhide BT1).fr hF3 (nM _ (by omega))).alloc (.cells y.a 85))
      have BF3 := hide (((unhide BF1).fr hF3 (nM _ (by omega))).alloc (.cells y.a 85))
      have BG3 := hide (((unhide BG1).fr hF3 (nM _ (by omega))).alloc (.cells y.a 85))
      have BY3 := hide (Bx.new w3 y.a 85)
      have K3 := hide (hK3.low.bel b3)
      have T3 := hide (hT3.low.bel b3)
      have F3 : Hid (Fr (· ∈ Mu kb nb hv iv lv nv) w (w3.alloc (.cells y.a 85))) := ((Fr.of (unhide HB1)).trans' hF3 (fun b k => Or.inl k)).low (b3.mono (by omega))
      have HM3 : Hid (∀ b, b ∈ Mu kb nb hv3 iv3 lv3 nv3 → b ∈ Mu kb nb hv iv lv nv ∨ w1.heap.size + 2 ≤ b) := fun b k => (hM3 b k).imp id (fun k => by simp at k; omega)
      have HQ3 : Hid (∀ b, Q3 b → (P b ∧ b < w.heap.size) ∨ w1.heap.size + 2 ≤ b) := fun b k => (hQ3 b k).imp (fun k => k.1) (fun k => by simp at k; omega)
      have HP3 : Hid (∀ b, (P b ∧ b < w.heap.size) → Q3 b) := fun b p => hP3 b p (by simp; omega)
      have nM3 : ∀ b, (w.heap.size ≤ b ∧ b < w1.heap.size + 2) → ¬ b ∈ Mu kb nb hv3 iv3 lv3 nv3 := fun b hb k => by
        rcases unhide HM3 b k with k | k
        · exact nM b hb.1 k
        · omega
      have nQ3 : ∀ b, (w.heap.size ≤ b ∧ b < w1.heap.size + 2) → ¬ (Q3 b ∧ b < w3.heap.size) := fun b hb k => by rcases unhide HQ3 b k.1 with k | k <;> omega
      clear hK3 hT3 hF3 hM3 hP3 hQ3 b3 BT1 BF1 BG1 BX1 HB1 HBB HNR cT fT yT cF fF yF cX fX yX cG fG yG
      obtain ⟨cY, fY, yY⟩ := unhide BY3
      unfold TV.a at cY fY
      unfold TV.v
      go_wp2_with fail
      refine (large_C (unhide HK) (unhide K3).ks (unhide T3)).mono ?_
      rintro e w4 ⟨rfl, hb4⟩
      have BT4 := hide ((unhide BT3).below hb4)
      have BF4 := hide ((unhide BF3).below hb4)
      have BG4 := hide ((unhide BG3).below hb4)
      have BY4 := hide ((unhide BY3).below hb4)
      have K4 := hide ((unhide K3).bel hb4)
      have T4 := hide ((unhide T3).bel hb4)
      have F4 := hide ((unhide F3).low (hb4.mono (unhide F3).size))
      clear BT3 BF3 BG3 BY3 K3 T3 F3 hb4 cY fY yY
      obtain ⟨cT, fT, yT⟩ := unhide BT4
      obtain ⟨cF, fF, yF⟩ := unhide BF4
      obtain ⟨cG, fG, yG⟩ := unhide BG4
      obtain ⟨cY, fY, yY⟩ := unhide BY4
      unfold TV.a at cY
      by_cases hlg : 48 < size (sub R (mean ns a).1)
      · have hlg' : decide (48 < size (sub R (mean ns a).1)) = true := by simp [hlg]
        have Hlg := hide hlg
        clear hlg
        rw [hlg']
        clear hlg'
        go_wp2_with fail
        have BTf := hide ((((unhide BT4).set3 rfl (.int .i64 y.n) (.string y.s) (.slice y.la y.ll y.lc)).setO3 (b2 := w.heap.size + 1) (by omega) (.int .i64 7) (.int .i64 0) (.int .i64 (s.size : Int))))
        have BFf := hide ((((unhide BF4).setO3 (b2 := w.heap.size) (by omega) (.int .i64 y.n) (.string y.s) (.slice y.la y.ll y.lc)).set3 rfl (.int .i64 7) (.int .i64 0) (.int .i64 (s.size : Int))))
        obtain ⟨cT', fT', yT'⟩ := unhide BTf
        obtain ⟨cF', fF', yF'⟩ := unhide BFf
        refine bodyPost_ret (v := .tuple #[TV.v y, flV ⟨7, 0, s.size⟩]) (by simp [results, Tryz.results28, go_sem, cT', cF', TV.v, flV]) rfl ⟨y, ⟨7, 0, s.size⟩, rfl, ((unhide F4).set3 (Or.inr (by omega)) _ _ _).set3 (Or.inr (by omega)) _ _ _, ?_⟩
        rw [unhide Hr]
        exact Or.inl ⟨unhide Hlg, rfl⟩
      · have hlg' : decide (48 < size (sub R (mean ns a).1)) = false := by simp [hlg]
        have Hlg := hide hlg
        clear hlg
        rw [hlg']
        clear hlg'
        go_wp2_with fail
        go_region
        go_wp2_with fail
        have BTf := hide ((((unhide BT4).set3 rfl (.int .i64 y.n) (.string y.s) (.slice y.la y.ll y.lc)).setO3 (b2 := w.heap.size + 1) (by omega) (.int .i64 (noFl.kind : Int)) (.int .i64 (noFl.frm : Int)) (.int .i64 (noFl.to : Int)))).drew
        have BFf := hide ((((unhide BF4).setO3 (b2 := w.heap.size) (by omega) (.int .i64 y.n) (.string y.s) (.slice y.la y.ll y.lc)).set3 rfl (.int .i64 (noFl.kind : Int)) (.int .i64 (noFl.frm : Int)) (.int .i64 (noFl.to : Int)))).drew
        obtain ⟨cT', fT', yT'⟩ := unhide BTf
        obtain ⟨cF', fF', yF'⟩ := unhide BFf
        refine bodyPost_ret (v := .tuple #[TV.v y, flV noFl]) (by simp [results, Tryz.results28, go_sem, cT', cF', TV.v, flV]) rfl ⟨y, noFl, rfl, (((unhide F4).set3 (Or.inr (by omega)) _ _ _).set3 (Or.inr (by omega)) _ _ _).drew, ?_⟩
        rw [unhide Hr]
        refine Or.inr ⟨unhide Hlg, rfl, hlen, hv3, iv3, lv3, nv3, (fun b => Q3 b ∧ b < w3.heap.size), ?_, ?_, ?_, ?_, ?_⟩
        · exact (((unhide K4).set3 (nM3 _ (by omega)) (nQ3 _ (by omega)) _ _ _).set3 (nM3 _ (by omega)) (nQ3 _ (by omega)) _ _ _).bel (Below.refl _ _).drew
        · exact (((unhide T4).set3 (nQ3 w.heap.size (by omega)) _ _ _).set3 (nQ3 (w.heap.size + 1) (by omega)) _ _ _).bel (Below.refl _ _).drew
        · intro b k
          rcases unhide HM3 b k with k | k
          · exact Or.inl k
          · exact Or.inr (by omega)
        · intro b p z
          exact ⟨unhide HP3 b ⟨p, z⟩, by omega⟩
        · rintro b ⟨q, z⟩
          rcases unhide HQ3 b q with k | k
          · exact Or.inl k
          · exact Or.inr (by omega)
  · have hf' : (((f.kind : Nat) : Int) != 0) = true := by simp; omega
    have Hf := hide hf
    clear hf
    go_wp2_with fail
    go_region
    go_wp2_with fail
    have BTf := hide ((((unhide BT1).set3 rfl (.int .i64 0) (.string ⟨#[]⟩) (.slice none 0 0)).setO3 (b2 := w.heap.size + 1) (by omega) (.int .i64 (f.kind : Int)) (.int .i64 (f.frm : Int)) (.int .i64 (f.to : Int)))).drew
    have BFf := hide ((((unhide BF1).setO3 (b2 := w.heap.size) (by omega) (.int .i64 0) (.string ⟨#[]⟩) (.slice none 0 0)).set3 rfl (.int .i64 (f.kind : Int)) (.int .i64 (f.frm : Int)) (.int .i64 (f.to : Int)))).drew
    obtain ⟨cT', fT', yT'⟩ := unhide BTf
    obtain ⟨cF', fF', yF'⟩ := unhide BFf
    refine bodyPost_ret (v := .tuple #[TV.v TV.no, flV f]) (by simp [results, Tryz.results28, go_sem, cT', cF', TV.v, TV.no, flV]) rfl ⟨TV.no, f, rfl, ((((Fr.of (unhide HB1)).set3 (Or.inr (by omega)) _ _ _).set3 (Or.inr (by omega)) _ _ _).drew), ?_⟩
    have hmt := unhide hmt
    cases hr : readT s with
    | error f' => rw [hr] at hmt; exact hmt
    | ok a => rw [hr] at hmt; exact absurd (by rw [hmt.1.1]; rfl) (unhide Hf)
end
end Go.Proofs.YtfflpeklkfjdnaaGreatDoor

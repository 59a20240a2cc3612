import Derived.BigQuiet
import Derived.Deep.LoopGhost
import Derived.Deep.QuietTactic
import Derived.Deep.RegionHeld3
import Derived.Deep.RegionWith
import Derived.Laws.Externs
import Derived.Lib.AppendStr
import Derived.Lib.Builder
import Derived.Lib.UnsafeStr
import Derived.Test.YteneoapickhpdaaGreatDoorJGPure
import Derived.Test.YteneoapickhpdaaGreatDoorJGTo
import Derived.Test.YteneoapickhpdaaGreatDoorJGTp
import Derived.Test.YteneoapickhpdaaGreatDoorJGQa
import Derived.Test.YteneoapickhpdaaGreatDoorJGQe
import Derived.Test.YteneoapickhpdaaGreatDoorJGVa
set_option linter.unusedSimpArgs false
set_option linter.unusedVariables false
set_option linter.unusedSectionVars false
namespace Go.Proofs.YteneoapickhpdaaGreatDoor
open Go Go.RowKit Go.ChangeMaps Un
/-- The pen: what it has written so far, and the token that it put last. -/
structure PN (w : World) (B pb : Nat) (bv : Value) (l : List UInt8) (last : ByteArray) (mv : Value) : Prop where
  bk : ∃ ad, w.heap[pb]? = some (.cells #[ad, bv, .string last, mv] 77 (0, 0)) ∧ (ad = .pointer none ∨ ad = .pointer (some ⟨pb, 0, none⟩))
  ow : w.ownsRow B 5 1 bv l.length (Lib.byteCells l)
  nl : l = [] → bv = .slice none 0 0
  hb : B ≤ w.heap.size
/-- The blocks that the pen writes. -/
def SP (pb : Nat) (bv : Value) (b : Nat) : Prop := b = pb ∨ bv.ownBlock = some b
/-- A block that is no row of bytes. -/
def Nby (w : World) (b : Nat) : Prop := ∀ x, w.cell? ⟨b, 0, none⟩ = some x → ∀ c, x ≠ .int .u8 c
theorem PN.cellB {w : World} {B pb : Nat} {bv : Value} {l : List UInt8} {last : ByteArray} {mv : Value} (h : PN w B pb bv l last mv) {q : Nat} (hq : bv.ownBlock = some q) : ∃ c, w.cell? ⟨q, 0, none⟩ = some (.int .u8 c) := by
  cases l with
  | nil => rw [h.nl rfl] at hq; simp [Value.ownBlock] at hq
  | cons x r =>
    obtain ⟨_, h2⟩ := h.ow
    rcases h2 with ⟨h3, _⟩ | ⟨g, cap, cur, hv, _, hh, _, _, _, ht⟩
    · rw [h3] at hq; simp [Value.ownBlock] at hq
    · rw [hv] at hq
      simp [Value.ownBlock] at hq
      subst hq
      refine ⟨x.toNat, ?_⟩
      simp only [World.cell?, hh]
      have h0 : (cur.toList.take ((x :: r).length * 1))[0]? = some (.int .u8 x.toNat) := by rw [ht]; simp [Lib.byteCells]
      rw [List.getElem?_take_of_lt (by simp)] at h0
      simpa using h0
theorem PN.ne {w : World} {B pb : Nat} {bv : Value} {l : List UInt8} {last : ByteArray} {mv : Value} (h : PN w B pb bv l last mv) {b : Nat} (hb : Nby w b) : bv.ownBlock ≠ some b := fun e => by
  obtain ⟨c, hc⟩ := h.cellB e
  exact hb _ hc c rfl
theorem PN.lt {w : World} {B pb : Nat} {bv : Value} {l : List UInt8} {last : ByteArray} {mv : Value} (h : PN w B pb bv l last mv) : pb < w.heap.size := by
  obtain ⟨ad, hb, _⟩ := h.bk
  exact (Array.getElem?_eq_some_iff.1 hb).1
theorem PN.pbN {w : World} {B pb : Nat} {bv : Value} {l : List UInt8} {last : ByteArray} {mv : Value} (h : PN w B pb bv l last mv) : Nby w pb := fun x hx c e => by
  obtain ⟨ad, hb, ha⟩ := h.bk
  simp [World.cell?, hb] at hx
  subst hx
  rcases ha with rfl | rfl <;> cases e
theorem PN.same {w w' : World} {B pb : Nat} {bv : Value} {l : List UInt8} {last : ByteArray} {mv : Value} (h : PN w B pb bv l last mv) (hs : w.heap.size ≤ w'.heap.size) (hb : ∀ b, b < w.heap.size → SP pb bv b → w'.heap[b]? = w.heap[b]?) : PN w' B pb bv l last mv := by
  obtain ⟨ad, h1, h2⟩ := h.bk
  refine ⟨⟨ad, (hb pb h.lt (Or.inl rfl)).trans h1, h2⟩, ?_, h.nl, Nat.le_trans h.hb hs⟩
  obtain ⟨g1, g2⟩ := h.ow
  refine ⟨g1, ?_⟩
  rcases g2 with g2 | ⟨g, cap, cur, hv, hg, hh, r⟩
  · exact Or.inl g2
  · refine Or.inr ⟨g, cap, cur, hv, hg, ?_, r⟩
    rw [hb g (Array.getElem?_eq_some_iff.1 hh).1 (Or.inr (by rw [hv]; rfl)), hh]
theorem PN.bel {w w' : World} {B pb : Nat} {bv : Value} {l : List UInt8} {last : ByteArray} {mv : Value} (h : PN w B pb bv l last mv) (hb : Below w.heap.size w w') : PN w' B pb bv l last mv := h.same hb.size fun b z _ => hb.block b z
theorem Nby.same {w w' : World} {b : Nat} (h : Nby w b) (hb : w'.heap[b]? = w.heap[b]?) : Nby w' b := fun x hx => h x (by rw [← World.cell?_of_block (a := ⟨b, 0, none⟩) (w := w) hb]; exact hx)
section
variable {w : World} {B pb : Nat} {bv : Value} {l : List UInt8} {last : ByteArray} {mv : Value}
theorem setCell_heap {w : World} {b : Nat} {C : Array Value} {t : TypeId} {fz : Nat × Nat} (h : w.heap[b]? = some (.cells C t fz)) (j : Nat) (v : Value) : (w.setCell ⟨b, j, none⟩ v).heap[b]? = some (.cells (C.setIfInBounds j v) t fz) := by
  have hlt := (Array.getElem?_eq_some_iff.1 h).1
  simp [World.setCell, Array.getElem?_modify, h]
theorem One.cell (w : World) (b j : Nat) (v : Value) : One b w (w.setCell ⟨b, j, none⟩ v) := ⟨rfl, rfl, rfl, by simp [World.setCell], fun k hk => Below.heap_setCell _ _ _ _ hk⟩
theorem own_one {w w' : World} {c base : Nat} {e : TypeId} {size : Nat} {v : Value} {n : Nat} {xs : List Value} (h : w.ownsRow base e size v n xs) (o : One c w w') (hne : v.ownBlock ≠ some c) : w'.ownsRow base e size v n xs := by
  obtain ⟨g1, g2⟩ := h
  refine ⟨g1, ?_⟩
  rcases g2 with g2 | ⟨g, cap, cur, hv, hg, hh, r⟩
  · exact Or.inl g2
  · refine Or.inr ⟨g, cap, cur, hv, hg, ?_, r⟩
    rw [o.block g (fun e => hne (by rw [hv, ← e]; rfl)), hh]
theorem after_app {W w2 : World} {pb : Nat} {o : Obj} {row : Option Nat} (hg : W.grownBy w2 row) (hb : W.heap[pb]? = some o) (hn : row ≠ some pb) : w2.heap[pb]? = some o := (hg.block pb (Array.getElem?_eq_some_iff.1 hb).1 (fun e => hn e.symm)).trans hb
theorem own_sliceP {w : World} {base : Nat} {e : TypeId} {size : Nat} {v : Value} {n : Nat} {xs : List Value} (h : w.ownsRow base e size v n xs) : ∃ ao n' cap, v = .slice ao n' cap := by
  rcases h.2 with ⟨hv, _⟩ | ⟨g, cap, cur, hv, _⟩
  · exact ⟨_, _, _, hv⟩
  · exact ⟨_, _, _, hv⟩
theorem builderInfo : (Tryz.prog.info? 74).map (fun i => i.size) = some 2 := by kernel_rfl
theorem liesPen : liesAt Tryz.prog Tryz.prog.depth 77 (4 / Tryz.prog.cellsOf 77) 0 74 1 = true := by kernel_rfl
theorem noEsc (p : Value) (w : World) : (callFunc 159 #[p]).run Tryz.prog w = .ok (.value p) w := by kernel_rfl
theorem byteInfo : (Tryz.prog.info? 5).map (fun i => (i.zero, i.size, i.bytes)) = some (some (.int .u8 0), 1, 1) := by kernel_rfl
theorem bytesUnder' : Tryz.prog.underlying 72 = some (.slice 5) := by kernel_rfl
set_option maxRecDepth 100000 in
set_option maxHeartbeats 1000000 in
theorem copyCheck_C (ad : Value) (had : ad = .pointer none ∨ ad = .pointer (some ⟨pb, 0, none⟩)) (x1 x2 x3 : Value) (h : w.heap[pb]? = some (.cells #[ad, x1, x2, x3] 77 (0, 0))) :
    Calls Tryz.prog 137 #[.pointer (some ⟨pb, 0, none⟩)] w fun e w' => e = .returned (.tuple #[]) ∧ w'.heap[pb]? = some (.cells #[.pointer (some ⟨pb, 0, none⟩), x1, x2, x3] 77 (0, 0)) ∧ One pb w w' := by
  obtain ⟨j, hj, hjs⟩ := Option.map_eq_some_iff.1 builderInfo
  have c0 : w.cell? ⟨pb, 0, none⟩ = some ad := by simp [World.cell?, h]
  have f0 : w.frozen? ⟨pb, 0, none⟩ = false := by simp [World.frozen?, h]
  have hsh : w.shape? pb = some (77, 4) := by simp [World.shape?, h]
  rcases had with rfl | rfl
  · have hn := noEsc
    have ht := Lib.run_to_unsafe (P := Tryz.prog) w ⟨pb, 0, none⟩ Tryz.underlying71 Tryz.underlying262 hj (by omega) hsh (by show 0 < 4; decide)
    have hf := Lib.run_from_unsafe (P := Tryz.prog) w ⟨pb, 0, none⟩ Tryz.underlying262 Tryz.underlying71 hj hsh liesPen
    have hne : ∀ W : World, (binOp .neq 71 (.pointer (some ⟨pb, 0, none⟩)) (.pointer (some ⟨pb, 0, none⟩))).run Tryz.prog W = .ok (.bool false) W := fun W => Lib.run_neq_ptr_same W _ Tryz.underlying71 hj
    go_enter Tryz.func137, Tryz.ntmps137
    go_wp2_with fail
    go_end0
    exact ⟨rfl, (setCell_heap h 0 _).trans (by simp), One.cell _ _ _ _⟩
  · have hne : ∀ W : World, (binOp .neq 71 (.pointer (some ⟨pb, 0, none⟩)) (.pointer (some ⟨pb, 0, none⟩))).run Tryz.prog W = .ok (.bool false) W := fun W => Lib.run_neq_ptr_same W _ Tryz.underlying71 hj
    go_enter Tryz.func137, Tryz.ntmps137
    go_wp2_with fail
    go_end0
    exact ⟨rfl, h, ⟨rfl, rfl, rfl, rfl, fun _ _ => rfl⟩⟩
set_option maxRecDepth 100000 in
set_option maxHeartbeats 2000000 in
theorem writeByte_C (h : PN w B pb bv l last mv) (c : UInt8) (hl : l.length ≤ 1000000) : Calls Tryz.prog 84 #[.pointer (some ⟨pb, 0, none⟩), .int .u8 (c.toNat : Int)] w fun e w' => e = .returned .nilIface ∧ ∃ bv', PN w' B pb bv' (l ++ [c]) last mv ∧ Fr (SP pb bv) w w' := by
  obtain ⟨i0, hi0, hz0, hz1, hz2⟩ := info_parts byteInfo
  have HN := hide h
  have hpn := h.ne h.pbN
  have hlt := h.lt
  have hBw := h.hb
  obtain ⟨ad, hbk, had⟩ := h.bk
  have how := hide h.ow
  have hnl := hide h.nl
  clear h
  go_enter Tryz.func84, Tryz.ntmps84
  go_wp2_with (first | (go_at_call 137; refine (copyCheck_C ad had _ _ _ hbk).mono ?_; rintro e w1 ⟨rfl, hb1, o1⟩; have c0 : w1.cell? ⟨pb, 0, none⟩ = some (.pointer (some ⟨pb, 0, none⟩)) := (by simp [World.cell?, hb1]); have c1 : w1.cell? ⟨pb, 1, none⟩ = some bv := (by simp [World.cell?, hb1]); have O1 := hide o1; have HB1 := hide hb1; have Hz1 := hide o1.size; have hown1 := hide (own_one (unhide how) o1 hpn); clear o1 hb1 hbk) | (at_builtin; go_must (refine wpList_append_own_at _ rfl (.tmp 11) (.tmp 13) 72 rfl B 5 i0 _ 1 1 bytesUnder' hi0 hz0 hz1 hz2 rfl (by decide) bv l.length _ rfl ((unhide hown1).alloc _) ⟨w1.heap.size, 0, none⟩ 1 1 [.int .u8 (c.toNat : Int)] rfl rfl (cells_at _ _ _ _ (by simp)) (by intro u hu; simp at hu; subst hu; rfl) (by unfold maxLen; omega) (by omega) (by have := unhide Hz1; simp; omega) ?_; intro v2 w2 hown2 hg2 hnil2 hloc2; have hb2 := after_app hg2 ((Below.heap_alloc _ _ _ (by have := unhide Hz1; omega)).trans (unhide HB1)) hpn; have d0 : w2.cell? ⟨pb, 0, none⟩ = some (.pointer (some ⟨pb, 0, none⟩)) := (by simp [World.cell?, hb2]); have d1 : w2.cell? ⟨pb, 1, none⟩ = some bv := (by simp [World.cell?, hb2]); have f1 : w2.frozen? ⟨pb, 1, none⟩ = false := (by simp [World.frozen?, hb2]); obtain ⟨ao, n', cap, hv2⟩ := own_sliceP hown2; subst hv2; have HB2 := hide hb2; clear hb2; have Hown2 := hide hown2; have Hg2 := hide hg2; clear hown2 hg2 hnil2 hloc2)))
  go_ret
  have hnp : (Value.slice ao n' cap).ownBlock ≠ some pb := fun e => by
    rcases (unhide Hown2).2 with ⟨hv, _⟩ | ⟨g, cap', cur, hv, _, hh, _⟩
    · rw [hv] at e; simp [Value.ownBlock] at e
    · rw [hv] at e
      simp [Value.ownBlock] at e
      subst e
      rw [unhide HB2] at hh
      simp at hh
  refine ⟨rfl, .slice ao n' cap, ⟨⟨_, (setCell_heap (unhide HB2) 1 _).trans (by simp), Or.inr rfl⟩, ?_, ?_, ?_⟩, ?_⟩
  · have hO := unhide Hown2
    obtain ⟨g1, g2⟩ := hO
    have e1 : Lib.byteCells (l ++ [c]) = Lib.byteCells l ++ [.int .u8 (c.toNat : Int)] := by simp [Lib.byteCells]
    have e2 : (l ++ [c]).length = l.length + 1 := by simp
    rw [e1, e2]
    refine ⟨g1, ?_⟩
    rcases g2 with g2 | ⟨g, cap', cur, hv, hg, hh, r⟩
    · exact Or.inl g2
    · refine Or.inr ⟨g, cap', cur, hv, hg, ?_, r⟩
      rw [Below.heap_setCell _ _ _ _ (by show g ≠ pb; intro e; exact hnp (by rw [hv, e]; rfl)), hh]
  · intro q; simp at q
  · have := (unhide Hg2).size; have := unhide Hz1; simp [World.setCell] at *; omega
  · have hO := unhide O1
    have hG := unhide Hg2
    refine ⟨(hG.os).trans hO.os, hG.tape.trans hO.tape, hG.output.trans hO.output, by simp [World.setCell]; have := hG.size; have := unhide Hz1; simp at *; omega, fun k hk hn => ?_⟩
    rw [Below.heap_setCell _ _ _ _ (by show k ≠ pb; intro e; exact hn (Or.inl e)), hG.block k (by have := unhide Hz1; simp; omega) (fun e => hn (Or.inr e.symm)), Below.heap_alloc _ _ _ (by have := unhide Hz1; omega)]
    exact hO.block k (fun e => hn (Or.inl e))
set_option maxRecDepth 100000 in
set_option maxHeartbeats 2000000 in
theorem writeString_C (h : PN w B pb bv l last mv) (s : ByteArray) (hs : s.size ≤ 100000) (hl : l.length ≤ 1000000) : Calls Tryz.prog 133 #[.pointer (some ⟨pb, 0, none⟩), .string s] w fun e w' => e = .returned (.tuple #[.int .i64 (s.size : Int), .nilIface]) ∧ ∃ bv', PN w' B pb bv' (l ++ s.data.toList) last mv ∧ Fr (SP pb bv) w w' := by
  obtain ⟨i0, hi0, hz0, hz1, hz2⟩ := info_parts byteInfo
  have HN := hide h
  have hpn := h.ne h.pbN
  have hlt := h.lt
  have hBw := h.hb
  obtain ⟨ad, hbk, had⟩ := h.bk
  have how := hide h.ow
  have hnl := hide h.nl
  clear h
  go_enter Tryz.func133, Tryz.ntmps133
  go_wp2_with (first | (go_at_call 137; refine (copyCheck_C ad had _ _ _ hbk).mono ?_; rintro e w1 ⟨rfl, hb1, o1⟩; have c0 : w1.cell? ⟨pb, 0, none⟩ = some (.pointer (some ⟨pb, 0, none⟩)) := (by simp [World.cell?, hb1]); have c1 : w1.cell? ⟨pb, 1, none⟩ = some bv := (by simp [World.cell?, hb1]); have O1 := hide o1; have HB1 := hide hb1; have Hz1 := hide o1.size; have hown1 := hide (own_one (unhide how) o1 hpn); clear o1 hb1 hbk) | (at_builtin; go_must (refine Lib.wpList_append_own_string _ rfl (.tmp 12) (.tmp 13) 72 9 rfl B 5 i0 bytesUnder' Tryz.underlying9 hi0 hz0 hz1 hz2 bv l.length _ rfl (unhide hown1) s rfl (by unfold maxLen; omega) (by omega) (by have := unhide Hz1; omega) ?_; intro v2 w2 hown2 hg2 hnil2; have hb2 := after_app hg2 (unhide HB1) hpn; have d0 : w2.cell? ⟨pb, 0, none⟩ = some (.pointer (some ⟨pb, 0, none⟩)) := (by simp [World.cell?, hb2]); have d1 : w2.cell? ⟨pb, 1, none⟩ = some bv := (by simp [World.cell?, hb2]); have f1 : w2.frozen? ⟨pb, 1, none⟩ = false := (by simp [World.frozen?, hb2]); obtain ⟨ao, n', cap, hv2⟩ := own_sliceP hown2; subst hv2; have HB2 := hide hb2; clear hb2; have Hown2 := hide hown2; have Hg2 := hide hg2; have Hn2 := hide hnil2; clear hown2 hg2 hnil2)))
  go_ret2
  have hnp : (Value.slice ao n' cap).ownBlock ≠ some pb := fun e => by
    rcases (unhide Hown2).2 with ⟨hv, _⟩ | ⟨g, cap', cur, hv, _, hh, _⟩
    · rw [hv] at e; simp [Value.ownBlock] at e
    · rw [hv] at e
      simp [Value.ownBlock] at e
      subst e
      rw [unhide HB2] at hh
      simp at hh
  refine ⟨rfl, .slice ao n' cap, ⟨⟨_, (setCell_heap (unhide HB2) 1 _).trans (by simp), Or.inr rfl⟩, ?_, ?_, ?_⟩, ?_⟩
  · have hO := unhide Hown2
    obtain ⟨g1, g2⟩ := hO
    have e1 : Lib.byteCells (l ++ s.data.toList) = Lib.byteCells l ++ Lib.strCells s := by simp [Lib.byteCells, Lib.strCells]
    have e2 : (l ++ s.data.toList).length = l.length + s.size := by simp
    rw [e1, e2]
    refine ⟨g1, ?_⟩
    rcases g2 with g2 | ⟨g, cap', cur, hv, hg, hh, r⟩
    · exact Or.inl g2
    · refine Or.inr ⟨g, cap', cur, hv, hg, ?_, r⟩
      rw [Below.heap_setCell _ _ _ _ (by show g ≠ pb; intro e; exact hnp (by rw [hv, e]; rfl)), hh]
  · intro q
    have q' : l = [] ∧ s.data.toList = [] := by simpa using q
    exact (unhide Hn2).2 ⟨unhide hnl q'.1, by have := congrArg List.length q'.2; simpa using this⟩
  · have := (unhide Hg2).size; have := unhide Hz1; simp [World.setCell] at *; omega
  · have hO := unhide O1
    have hG := unhide Hg2
    refine ⟨(hG.os).trans hO.os, hG.tape.trans hO.tape, hG.output.trans hO.output, by simp [World.setCell]; have := hG.size; have := unhide Hz1; omega, fun k hk hn => ?_⟩
    rw [Below.heap_setCell _ _ _ _ (by show k ≠ pb; intro e; exact hn (Or.inl e)), hG.block k (by have := unhide Hz1; omega) (fun e => hn (Or.inr e.symm))]
    exact hO.block k (fun e => hn (Or.inl e))
set_option maxRecDepth 100000 in
set_option maxHeartbeats 2000000 in
theorem string_C (h : PN w B pb bv l last mv) (h0 : l ≠ []) : Calls Tryz.prog 29 #[.pointer (some ⟨pb, 0, none⟩)] w fun e w' => e = .returned (.string (bs l)) ∧ Fr (SP pb bv) w w' := by
  have hl0 : l.length ≠ 0 := by simpa using h0
  obtain ⟨ad, hbk, _⟩ := h.bk
  have hown := h.ow
  obtain ⟨g, cap, cur, rfl, hbg, hg, hnc, hcm, hcs, htake⟩ : ∃ g cap cur, bv = .slice (some ⟨g, 0, none⟩) l.length cap ∧ B ≤ g ∧ w.heap[g]? = some (.cells cur 5 (0, 0)) ∧ l.length ≤ cap ∧ cap ≤ maxLen ∧ cur.size = cap * 1 ∧ cur.toList.take (l.length * 1) = Lib.byteCells l := by
    rcases hown.2 with ⟨_, hz⟩ | ⟨g, cap, cur, hv, r⟩
    · exact absurd hz hl0
    · exact ⟨g, cap, cur, hv, r⟩
  have c1 : w.cell? ⟨pb, 1, none⟩ = some (.slice (some ⟨g, 0, none⟩) l.length cap) := by simp [World.cell?, hbk]
  have hSD : ∀ W : World, (Builtin.unsafeSliceData_ #[72] 133 #[.slice (some ⟨g, 0, none⟩) l.length cap]).run Tryz.prog W = .ok (.pointer (some ⟨g, 0, none⟩)) W := fun W => Lib.run_unsafeSliceData_row W _ _ _ _ _ (by omega)
  have hUS : (Builtin.unsafeString_ #[133, 3] 9 #[.pointer (some ⟨g, 0, none⟩), .int .i64 (l.length : Int)]).run Tryz.prog w.drew = .ok (.string ⟨l.toArray⟩) (w.drew.freeze ⟨g, 0, none⟩ l.length) := by
    refine Lib.run_unsafeString_row w.drew _ _ _ 5 Tryz.underlying133 (by kernel_rfl) g cur.size (by have hg' : w.drew.heap[g]? = some (.cells cur 5 (0, 0)) := hg; simp [World.shape?, hg']) l h0 (by omega) (by unfold maxLen at hcm; omega) ?_
    intro j x hx
    exact hown.cells (g := g) rfl j (.int .u8 x.toNat) (by simp [Lib.byteCells, hx])
  have HF : Hid (Fr (SP pb (.slice (some ⟨g, 0, none⟩) l.length cap)) w (w.drew.freeze ⟨g, 0, none⟩ l.length)) := hide (by
    have hb := Lib.below_freeze (B := g) (Below.refl g w.drew) (p := ⟨g, 0, none⟩) (Nat.le_refl _) l.length
    refine ⟨hb.os, hb.tape, hb.output, hb.size, fun k hk hn => ?_⟩
    have hkg : k ≠ g := fun e => hn (Or.inr (by rw [e]; rfl))
    simp [World.freeze]
    rw [if_neg h0]
    simp only [Array.getElem?_modify, if_neg (Ne.symm hkg)]
    rfl)
  clear hg htake hown hbk h
  go_enter Tryz.func29, Tryz.ntmps29
  go_wp2_with fail
  go_region
  all_goals (
    go_wp2_with fail
    go_ret
    exact ⟨rfl, unhide HF⟩)
end
end Go.Proofs.YteneoapickhpdaaGreatDoor
namespace Go.Proofs.YteneoapickhpdaaGreatDoor
open Go Go.RowKit Go.ChangeMaps Un
/-- Whether a space stands between two tokens. -/
def spB (last t : ByteArray) : Bool := !(t.toList == [41]) && !(t.toList == [44]) && !(t.toList == [59]) && !(last.toList == []) && !(last.toList == [40])
/-- What the pen leaves as it is. -/
structure FN (B pb : Nat) (w w' : World) : Prop where
  os : w'.os = w.os
  tape : w'.tape = w.tape
  output : w'.output = w.output
  size : w.heap.size ≤ w'.heap.size
  block : ∀ k, k < w.heap.size → k ≠ pb → (k < B ∨ Nby w k) → w'.heap[k]? = w.heap[k]?
theorem FN.refl (B pb : Nat) (w : World) : FN B pb w w := ⟨rfl, rfl, rfl, Nat.le_refl _, fun _ _ _ _ => rfl⟩
theorem FN.trans {B pb : Nat} {a b c : World} (h : FN B pb a b) (k : FN B pb b c) : FN B pb a c :=
  ⟨k.os.trans h.os, k.tape.trans h.tape, k.output.trans h.output, Nat.le_trans h.size k.size, fun i hi hp hn => by
    have e := h.block i hi hp hn
    refine (k.block i (Nat.lt_of_lt_of_le hi h.size) hp (hn.imp id fun q => q.same e)).trans e⟩
theorem FN.of {B pb : Nat} {w w' : World} (h : Below w.heap.size w w') : FN B pb w w' := ⟨h.os, h.tape, h.output, h.size, fun i hi _ _ => h.block i hi⟩
theorem Fr.fn {B pb : Nat} {bv : Value} {l : List UInt8} {last : ByteArray} {mv : Value} {w w' : World} (h : PN w B pb bv l last mv) (hf : Fr (SP pb bv) w w') : FN B pb w w' :=
  ⟨hf.os, hf.tape, hf.output, hf.size, fun k hk hp hn => hf.block k hk (fun q => by
    rcases q with q | q
    · exact hp q
    · rcases hn with hn | hn
      · have := (own_block h.ow k q).1; omega
      · exact h.ne hn q)⟩
theorem Nby.fn {B pb : Nat} {w w' : World} {b : Nat} (h : Nby w b) (hb : b < w.heap.size) (hp : b ≠ pb) (hf : FN B pb w w') : Nby w' b := h.same (hf.block b hb hp (Or.inr h))
theorem Bx.fn {B pb : Nat} {w w' : World} {b : Nat} {C : Array Value} (h : Bx w b C) (hp : b ≠ pb) (hn : b < B ∨ Nby w b) (hf : FN B pb w w') : Bx w' b C := h.same hf.size (hf.block b h.z hp hn)
theorem Bx.nby {w : World} {b : Nat} {C : Array Value} (h : Bx w b C) (hx : ∀ x, C[0]? = some x → ∀ c, x ≠ .int .u8 c) : Nby w b := fun x q => hx x (by rw [← h.c 0]; exact q)
/-- What is written so far, a token more. -/
def putL' (l : List UInt8) (last t : ByteArray) : List UInt8 := (l ++ if spB last t then [32] else []) ++ t.data.toList
def PutRel (B pb : Nat) (bv : Value) (l : List UInt8) (last t : ByteArray) (mv : Value) (g : Nat) (w : World) (gk : Nat) (v : Value) (wr : World) : Prop :=
  (v = .int .i64 0 ∧ gk = 1 ∧ wr = w) ∨ (v = .int .i64 1 ∧ gk = 0 ∧ ∃ bv', PN wr B pb bv' (putL' l last t) t mv ∧ FN B pb w wr)
section
variable {w : World} {B pb : Nat} {bv : Value} {l : List UInt8} {last : ByteArray} {mv : Value}
set_option maxRecDepth 100000 in
set_option maxHeartbeats 1000000 in
theorem spaced_C (last t : ByteArray) : Calls Tryz.prog 132 #[.string last, .string t] w fun e w' => e = .returned (.bool (spB last t)) ∧ w' = w := by
  unfold spB
  cases h1 : (t.toList == [41])
  · cases h2 : (t.toList == [44])
    · cases h3 : (t.toList == [59])
      · cases h4 : (last.toList == [])
        · go_enter Tryz.func132, Tryz.ntmps132
          go_wp2_with fail
          go_ret
          exact ⟨by simp, rfl⟩
        · go_enter Tryz.func132, Tryz.ntmps132
          go_wp2_with fail
          go_ret
          exact ⟨by simp, rfl⟩
      · go_enter Tryz.func132, Tryz.ntmps132
        go_wp2_with fail
        go_ret
        exact ⟨rfl, rfl⟩
    · go_enter Tryz.func132, Tryz.ntmps132
      go_wp2_with fail
      go_ret
      exact ⟨rfl, rfl⟩
  · go_enter Tryz.func132, Tryz.ntmps132
    go_wp2_with fail
    go_ret
    exact ⟨rfl, rfl⟩
theorem PN.last_ {w : World} {B pb : Nat} {bv : Value} {l : List UInt8} {last : ByteArray} {mv : Value} (h : PN w B pb bv l last mv) (t : ByteArray) : PN (w.setCell ⟨pb, 2, none⟩ (.string t)) B pb bv l t mv := by
  have hpn := h.ne h.pbN
  obtain ⟨ad, hb, ha⟩ := h.bk
  exact ⟨⟨ad, (setCell_heap hb 2 _).trans (by simp), ha⟩, own_one h.ow (One.cell _ _ _ _) hpn, h.nl, by have := h.hb; simp [World.setCell]; exact this⟩
theorem PN.cells {w : World} {B pb : Nat} {bv : Value} {l : List UInt8} {last : ByteArray} {mv : Value} (h : PN w B pb bv l last mv) : w.cell? ⟨pb, 2, none⟩ = some (.string last) ∧ w.frozen? ⟨pb, 2, none⟩ = false := by
  obtain ⟨ad, hb, ha⟩ := h.bk
  exact ⟨by simp [World.cell?, hb], by simp [World.frozen?, hb]⟩
theorem FN.last_ (B pb : Nat) (w : World) (v : Value) : FN B pb w (w.setCell ⟨pb, 2, none⟩ v) := ⟨rfl, rfl, rfl, by simp [World.setCell], fun k _ hp _ => Below.heap_setCell _ _ _ _ hp⟩
set_option maxRecDepth 100000 in
set_option maxHeartbeats 2000000 in
theorem put_C (h : PN w B pb bv l last mv) (t : ByteArray) (ht : t.size ≤ 100000) (hl : l.length ≤ 900000) (g : Nat) (hg : Bx w g #[.string t]) (hgp : g ≠ pb) :
    Calls Tryz.prog 80 #[.pointer (some ⟨pb, 0, none⟩), .slice (some ⟨g, 0, none⟩) 1 1] w fun e w' => e = .returned (.tuple #[]) ∧ ∃ bv', PN w' B pb bv' (putL' l last t) t mv ∧ FN B pb w w' := by
  have HN := hide h
  obtain ⟨cg, fg, zg⟩ := hg
  obtain ⟨c2, f2⟩ := h.cells
  clear h
  go_enter Tryz.func80, Tryz.ntmps80
  go_wp2_with fail
  go_loopg [8] 1 (fun gk v wr => PutRel B pb bv l last t mv g w gk v wr)
  case atStart => exact Or.inl ⟨rfl, rfl, rfl⟩
  case round =>
    rcases hrel with ⟨rfl, rfl, rfl⟩ | ⟨rfl, rfl, hr⟩
    · by_cases hsp : spB last t = true
      · go_wp2_with (first | (go_at_call 132; refine (spaced_C last t).mono ?_; rw [hsp]; rintro e w' ⟨rfl, rfl⟩) | (go_at_call 84; refine (writeByte_C (unhide HN) 32 (by omega)).mono ?_; rintro e w1 ⟨rfl, bv1, hN1, hF1⟩; have HN1 := hide hN1; have HF1 := hide (Fr.fn (unhide HN) hF1); clear hN1 hF1) | (go_at_call 133; refine (writeString_C (unhide HN1) t ht (by simp; omega)).mono ?_; rintro e w2 ⟨rfl, bv2, hN2, hF2⟩; have HN2 := hide hN2; have HF2 := hide ((unhide HF1).trans (Fr.fn (unhide HN1) hF2)); obtain ⟨c3, f3⟩ := hN2.cells; clear hN2 hF2))
        go_roundg 0
        case measure => omega
        case rel => exact Or.inr ⟨by go_num, rfl, bv2, by unfold putL'; rw [if_pos hsp]; exact (unhide HN2).last_ t, (unhide HF2).trans (FN.last_ _ _ _ _)⟩
      · have hsp' : spB last t = false := by simpa using hsp
        go_wp2_with (first | (go_at_call 132; refine (spaced_C last t).mono ?_; rw [hsp']; rintro e w' ⟨rfl, rfl⟩) | (go_at_call 133; refine (writeString_C (unhide HN) t ht (by omega)).mono ?_; rintro e w2 ⟨rfl, bv2, hN2, hF2⟩; have HN2 := hide hN2; have HF2 := hide (Fr.fn (unhide HN) hF2); obtain ⟨c3, f3⟩ := hN2.cells; clear hN2 hF2))
        go_roundg 0
        case measure => omega
        case rel => exact Or.inr ⟨by go_num, rfl, bv2, by unfold putL'; rw [if_neg hsp, List.append_nil]; exact (unhide HN2).last_ t, (unhide HF2).trans (FN.last_ _ _ _ _)⟩
    · go_wp2_with fail
      go_end0
      exact ⟨rfl, hr⟩
end
end Go.Proofs.YteneoapickhpdaaGreatDoor
namespace Go.Proofs.YteneoapickhpdaaGreatDoor
open Go Go.RowKit Go.ChangeMaps Un
mutual
/-- A part that is a type, written. -/
def wT : Nd → Nat → List UInt8
  | .mk k s _ L _ _ _ => if k = 16 then fun _ => s.toList else joined (conN k s) (wTL L)
def wTL : List Nd → List (Nat → List UInt8)
  | [] => []
  | x :: l => wT x :: wTL l
end
/-- What stands ahead of a type. -/
def sep (last : ByteArray) : List UInt8 := if last.toList = [] ∨ last.toList = [40] then [] else [32]
def Fine (t : ByteArray) : Prop := t.toList ≠ [] ∧ t.toList ≠ [40]
theorem sep_fine {t : ByteArray} (h : Fine t) : sep t = [32] := by unfold sep; rw [if_neg (by intro q; exact q.elim h.1 h.2)]
theorem put_type {l : List UInt8} {last t : ByteArray} (h1 : t.toList ≠ [41]) (h2 : t.toList ≠ [44]) (h3 : t.toList ≠ [59]) : putL' l last t = l ++ (sep last ++ t.toList) := by
  unfold putL' spB sep
  rw [show t.data.toList = t.toList from (ByteArray.toList_eq t).symm]
  by_cases q1 : last.toList = []
  · simp [q1, h1, h2, h3]
  · by_cases q2 : last.toList = [40]
    · simp [q2, h1, h2, h3]
    · simp [q1, q2, h1, h2, h3]
theorem put_tight {l : List UInt8} {last t : ByteArray} (h : t.toList = [41] ∨ t.toList = [44]) : putL' l last t = l ++ t.toList := by
  unfold putL' spB
  rw [show t.data.toList = t.toList from (ByteArray.toList_eq t).symm]
  rcases h with h | h <;> simp [h]
def NQ (w : World) (pb : Nat) (Q : Nat → Prop) : Prop := ∀ b, Q b → b < w.heap.size ∧ b ≠ pb ∧ Nby w b
theorem NQ.fn {B pb : Nat} {w w' : World} {Q : Nat → Prop} (h : NQ w pb Q) (hf : FN B pb w w') : NQ w' pb Q := fun b q => ⟨Nat.lt_of_lt_of_le (h b q).1 hf.size, (h b q).2.1, (h b q).2.2.fn (h b q).1 (h b q).2.1 hf⟩
theorem PT.fnQ {B pb : Nat} {w w' : World} {Q : Nat → Prop} {nd : Nd} {v : Value} (h : PT w Q nd v) (hq : NQ w pb Q) (hf : FN B pb w w') : PT w' Q nd v := h.move hf.size (fun b p z => hf.block b z (hq b p).2.1 (Or.inr (hq b p).2.2)) (fun _ p _ => p)
def AtPost (B pb : Nat) (mv : Value) (txt : List UInt8) (w : World) (e : Ending) (w' : World) : Prop :=
  e = .returned (.tuple #[]) ∧ ∃ bv' last', PN w' B pb bv' txt last' mv ∧ Fine last' ∧ FN B pb w w'
/-- That typeAt keeps its promise. -/
def AtC (nd : Nd) : Prop := ∀ (w : World) (B pb : Nat) (bv : Value) (l : List UInt8) (last : ByteArray) (mv : Value) (Q : Nat → Prop) (v : Value) (k : Nat), PN w B pb bv l last mv → PT w Q nd v → NQ w pb Q → k ≤ 2 → (l ++ (sep last ++ wT nd k)).length ≤ 800000 → B ≤ pb →
  Calls Tryz.prog 42 #[.pointer (some ⟨pb, 0, none⟩), v, .int .i64 (k : Int)] w (AtPost B pb mv (l ++ (sep last ++ wT nd k)) w)
/-- That bareType keeps its promise. -/
def BareC (nd : Nd) : Prop := ∀ (w : World) (B pb : Nat) (bv : Value) (l : List UInt8) (last : ByteArray) (mv : Value) (Q : Nat → Prop) (v : Value), PN w B pb bv l last mv → PT w Q nd v → NQ w pb Q → (l ++ (sep last ++ wT nd 0)).length ≤ 800000 → B ≤ pb →
  Calls Tryz.prog 66 #[.pointer (some ⟨pb, 0, none⟩), v] w (AtPost B pb mv (l ++ (sep last ++ wT nd 0)) w)
/-- What the grammar calls a type. -/
def rk : Nd → Nat
  | .mk k _ _ L _ _ _ => if k = 17 then 0 else if k = 2 ∧ L ≠ [] then 1 else 2
section
variable {w : World} {Q : Nat → Prop}
set_option maxRecDepth 100000 in
set_option maxHeartbeats 1000000 in
theorem rankOf_C {nd : Nd} {v : Value} (h : PT w Q nd v) : Calls Tryz.prog 64 #[v] w fun e w' => e = .returned (.int .i64 (rk nd : Int)) ∧ Below w.heap.size w w' := by
  cases h with
  | var s n f t a x y hq =>
    have h1 := taVA
    have h2 := taVN
    go_enter Tryz.func64, Tryz.ntmps64
    go_wp2_with fail
    go_ret
    exact ⟨by simp [rk], (Below.refl _ _)⟩
  | fn s n a b f t at_ x y va vb ha hb =>
    obtain ⟨ta, xa, rfl⟩ := ha.iface'
    obtain ⟨tb, xb, rfl⟩ := hb.iface'
    have h1 := taAA
    go_enter Tryz.func64, Tryz.ntmps64
    go_wp2_with fail
    go_ret
    exact ⟨by simp [rk], (Below.refl _ _).alloc (Nat.le_refl _) _⟩
  | pr s n a b f t at_ x y va vb ha hb =>
    obtain ⟨ta, xa, rfl⟩ := ha.iface'
    obtain ⟨tb, xb, rfl⟩ := hb.iface'
    have h1 := taPA
    have h2 := taPN
    go_enter Tryz.func64, Tryz.ntmps64
    go_wp2_with fail
    go_ret
    exact ⟨by simp [rk], (Below.refl _ _)⟩
  | up s n L f t at_ x y x' y' sa sc vs hu hrow hr =>
    have h1 := taNA
    have h2 := taNN
    by_cases hL : L = []
    · have h3 : decide ((0 : Int) < (L.length : Int)) = false := by simp [hL]
      go_enter Tryz.func64, Tryz.ntmps64
      go_wp2_with fail
      go_ret
      exact ⟨by simp [rk, hL], (Below.refl _ _).alloc (Nat.le_refl _) _⟩
    · have h3 : (0 : Int) < (L.length : Int) := by have := List.length_pos_iff.2 hL; omega
      go_enter Tryz.func64, Tryz.ntmps64
      go_wp2_with fail
      go_ret
      exact ⟨by simp [rk, hL], (Below.refl _ _).alloc (Nat.le_refl _) _⟩
end
end Go.Proofs.YteneoapickhpdaaGreatDoor
namespace Go.Proofs.YteneoapickhpdaaGreatDoor
open Go Go.RowKit Go.ChangeMaps Un
theorem par_rk (s : ByteArray) (n : Nat) (L : List Nd) (c f t a k : Nat) (hc : c = 16 ∨ c = 17 ∨ c = 6 ∨ (c = 2 ∧ UpN s)) (hk : k ≤ 2) : wT (.mk c s n L f t a) k = Un.par (decide (rk (.mk c s n L f t a) < k)) (wT (.mk c s n L f t a) 0) := by
  have hpf : ∀ x, Un.par false x = x := fun x => rfl
  have hup : UpN s → s ≠ nFn ∧ s ≠ nPr := fun h => ⟨fun e => upN_ne h 62 [] (by decide) (by rw [e]; exact toList_mk [62]), fun e => upN_ne h 44 [] (by decide) (by rw [e]; exact toList_mk [44])⟩
  rcases hc with rfl | rfl | rfl | ⟨rfl, hu⟩
  · have hr : decide (rk (.mk 16 s n L f t a) < k) = false := by simp [rk]; omega
    rw [hr, hpf]
    simp [wT]
  · have hr : decide (rk (.mk 17 s n L f t a) < k) = decide (0 < k) := by simp [rk]
    rw [hr]
    simp only [wT, conN, if_true, show ¬ (17 = 16) by decide, if_false, joined]
    rfl
  · have hr : decide (rk (.mk 6 s n L f t a) < k) = false := by simp [rk]; omega
    rw [hr, hpf]
    simp only [wT, conN, show ¬ (6 = 16) by decide, show ¬ (6 = 17) by decide, if_false, if_true, joined]
    have hne : ¬ nPr = nFn := by intro e; have := congrArg ByteArray.toList e; rw [show nPr.toList = [44] from toList_mk [44], show nFn.toList = [62] from toList_mk [62]] at this; simp at this
    rw [if_neg hne, if_neg hne]
  · obtain ⟨h1, h2⟩ := hup hu
    have hle : (wTL L).isEmpty = L.isEmpty := by cases L <;> simp [wTL]
    simp only [wT, conN, show ¬ (2 = 16) by decide, show ¬ (2 = 17) by decide, show ¬ (2 = 6) by decide, if_false, joined, if_neg h1, if_neg h2, hle]
    have hr : decide (rk (.mk 2 s n L f t a) < k) = (decide (1 < k) && !L.isEmpty) := by
      cases L with
      | nil => simp [rk]; omega
      | cons x l => simp [rk]
    rw [hr]
    rfl
/-- What a part that is a type may be. -/
def KN' : Nd → Prop
  | .mk c s _ _ _ _ _ => c = 16 ∨ c = 17 ∨ c = 6 ∨ (c = 2 ∧ UpN s)
theorem PT.kn {w : World} {Q : Nat → Prop} {nd : Nd} {v : Value} (h : PT w Q nd v) : KN' nd := by
  cases h with
  | var => exact Or.inl rfl
  | fn => exact Or.inr (Or.inl rfl)
  | pr => exact Or.inr (Or.inr (Or.inl rfl))
  | up => exact Or.inr (Or.inr (Or.inr ⟨rfl, by assumption⟩))
section
variable {w : World} {B pb : Nat} {bv : Value} {l : List UInt8} {last : ByteArray} {mv : Value} {Q : Nat → Prop} {nd : Nd} {v : Value}
set_option maxRecDepth 100000 in
set_option maxHeartbeats 1000000 in
theorem clos_C (HB : BareC nd) (h : PN w B pb bv l last mv) (hp : PT w Q nd v) (hq : NQ w pb Q) (hl : (l ++ (sep last ++ wT nd 0)).length ≤ 800000) (hB : B ≤ pb) (b1 b2 : Nat) (h1 : Bx w b1 #[.pointer (some ⟨pb, 0, none⟩)]) (h2 : Bx w b2 #[v]) :
    Calls Tryz.prog 65 #[.pointer (some ⟨b1, 0, none⟩), .pointer (some ⟨b2, 0, none⟩)] w (AtPost B pb mv (l ++ (sep last ++ wT nd 0)) w) := by
  obtain ⟨tv, xv, rfl⟩ := hp.iface'
  obtain ⟨c1, f1, z1⟩ := h1
  obtain ⟨c2, f2, z2⟩ := h2
  have HC := HB w B pb bv l last mv Q _ h hp hq hl hB
  go_enter Tryz.func65, Tryz.ntmps65
  go_wp2_with fail
  refine HC.mono ?_
  intro e w1 hp1
  have hp2 := hp1
  obtain ⟨rfl, _⟩ := hp1
  go_wp2_with fail
  go_end0
  exact hp2
theorem drew_bel {W w1 : World} (h : Below W.drew.heap.size W.drew w1) : Below W.heap.size W w1 := ((Below.refl W.heap.size W).drew).trans h
abbrev tOpen : ByteArray := ⟨#[40]⟩
abbrev tClose : ByteArray := ⟨#[41]⟩
theorem sep_open : sep tOpen = [] := by unfold sep; rw [if_pos (Or.inr (toList_mk [40]))]
theorem FN.pn_ne {w w' : World} (hf : FN B pb w w') {b : Nat} {C : Array Value} (h : Bx w b C) (hp : b ≠ pb) (hx : ∀ x, C[0]? = some x → ∀ c, x ≠ .int .u8 c) : Bx w' b C := h.fn hp (Or.inr (h.nby hx)) hf
set_option maxRecDepth 100000 in
set_option maxHeartbeats 2000000 in
theorem group_C (HB : BareC nd) (k : Nat) (hk : k ≤ 2) (h : PN w B pb bv l last mv) (hp : PT w Q nd v) (hq : NQ w pb Q) (hl : (l ++ (sep last ++ wT nd k)).length ≤ 800000) (hB : B ≤ pb) (b1 b2 : Nat) (h1 : Bx w b1 #[.pointer (some ⟨pb, 0, none⟩)]) (h2 : Bx w b2 #[v]) (n1 : b1 ≠ pb) (n2 : b2 ≠ pb) :
    Calls Tryz.prog 63 #[.pointer (some ⟨pb, 0, none⟩), .bool (decide (rk nd < k)), .func (.func 65) #[] #[.pointer (some ⟨b1, 0, none⟩), .pointer (some ⟨b2, 0, none⟩)]] w (AtPost B pb mv (l ++ (sep last ++ wT nd k)) w) := by
  have hw : wT nd k = Un.par (decide (rk nd < k)) (wT nd 0) := by
    obtain ⟨c, s, n, L, f, t, a⟩ := nd
    exact par_rk s n L c f t a k hp.kn hk
  rw [hw] at hl ⊢
  clear hw
  obtain ⟨tv, xv, rfl⟩ := hp.iface'
  cases hd : decide (rk nd < k) with
  | false =>
    rw [hd] at hl
    have hl' : (l ++ (sep last ++ wT nd 0)).length ≤ 800000 := hl
    have HC := clos_C HB h hp hq hl' hB b1 b2 h1 h2
    go_enter Tryz.func63, Tryz.ntmps63
    go_wp2_with fail
    refine HC.mono ?_
    intro e w1 hp1
    have hp2 := hp1
    obtain ⟨rfl, _⟩ := hp1
    go_wp2_with fail
    go_end0
    exact hp2
  | true =>
    rw [hd] at hl
    have hpar : Un.par true (wT nd 0) = 40 :: (wT nd 0 ++ [41]) := rfl
    rw [hpar] at hl ⊢
    simp only [List.length_cons, List.length_append, List.length_nil] at hl
    have hzp := h.lt
    have hb0 : Below w.heap.size w (w.alloc (.cells #[.string tOpen] 9)) := (Below.refl _ _).alloc (Nat.le_refl _) _
    have HP := put_C (h.bel hb0) tOpen (by decide) (by omega) w.heap.size (Bx.new w #[.string tOpen] 9) (by omega)
    have hpt : putL' l last tOpen = l ++ (sep last ++ [40]) := by
      have := put_type (l := l) (last := last) (t := tOpen) (by rw [show tOpen.toList = [40] from toList_mk [40]]; decide) (by rw [show tOpen.toList = [40] from toList_mk [40]]; decide) (by rw [show tOpen.toList = [40] from toList_mk [40]]; decide)
      rw [this, show tOpen.toList = [40] from toList_mk [40]]
    rw [hpt] at HP
    go_enter Tryz.func63, Tryz.ntmps63
    go_wp2_with fail
    refine HP.mono ?_
    rintro e w1 ⟨rfl, bv1, N1, F1⟩
    have FA := (FN.of (B := B) (pb := pb) hb0).trans F1
    have X1 := FA.pn_ne h1 n1 (by intro x hx c; simp at hx; subst hx; intro q; cases q)
    have X2 := FA.pn_ne h2 n2 (by intro x hx c; simp at hx; subst hx; intro q; cases q)
    have HC := clos_C HB N1 (hp.fnQ hq FA) (hq.fn FA) (by simp only [List.length_append, List.length_cons, List.length_nil, sep_open]; omega) hB b1 b2 X1 X2
    have hs1 : sep tOpen = [] := by unfold sep; rw [if_pos (Or.inr (toList_mk [40]))]
    rw [hs1] at HC
    go_wp2_with fail
    refine HC.mono ?_
    rintro e w2 ⟨rfl, bv2, last2, N2, fi2, F2⟩
    have hzp2 := N2.lt
    have hb2 : Below w2.heap.size w2 (w2.alloc (.cells #[.string tClose] 9)) := (Below.refl _ _).alloc (Nat.le_refl _) _
    have HP2 := put_C (N2.bel hb2) tClose (by decide) (by simp only [List.length_append, List.length_cons, List.length_nil, sep_open]; omega) w2.heap.size (Bx.new w2 #[.string tClose] 9) (by omega)
    rw [put_tight (Or.inl (toList_mk [41])), show tClose.toList = [41] from toList_mk [41]] at HP2
    go_wp2_with fail
    refine HP2.mono ?_
    rintro e w3 ⟨rfl, bv3, N3, F3⟩
    go_wp2_with fail
    go_end0
    refine ⟨rfl, bv3, tClose, ?_, ⟨by rw [show tClose.toList = [41] from toList_mk [41]]; decide, by rw [show tClose.toList = [41] from toList_mk [41]]; decide⟩, (FA.trans F2).trans ((FN.of hb2).trans F3)⟩
    have e9 : l ++ (sep last ++ [40]) ++ ([] ++ wT nd 0) ++ [41] = l ++ (sep last ++ 40 :: (wT nd 0 ++ [41])) := by simp
    rw [← e9]
    exact N3
end
end Go.Proofs.YteneoapickhpdaaGreatDoor
namespace Go.Proofs.YteneoapickhpdaaGreatDoor
open Go Go.RowKit Go.ChangeMaps Un
section
variable {nd : Nd}
set_option maxRecDepth 100000 in
set_option maxHeartbeats 10000000 in
theorem typeAt_C (HB : BareC nd) : AtC nd := by
  intro w B pb bv l last mv Q v k h hp hq hk hl hB
  obtain ⟨tv, xv, hv⟩ := hp.iface'
  have hzp := h.lt
  have n1 : w.heap.size ≠ pb := by omega
  have n2 : w.heap.size + 1 ≠ pb := by omega
  obtain ⟨R, hR⟩ : ∃ R, R = AtPost B pb mv (l ++ (sep last ++ wT nd k)) w := ⟨_, rfl⟩
  obtain ⟨r, hr⟩ : ∃ r, r = rk nd := ⟨_, rfl⟩
  have hb0 : Below w.heap.size w ((w.alloc (.cells #[.pointer (some ⟨pb, 0, none⟩)] 66)).alloc (.cells #[v] 82)) := ((Below.refl _ _).alloc (Nat.le_refl _) _).alloc (by simp) _
  have X1 := ((Bx.new w #[.pointer (some ⟨pb, 0, none⟩)] 66).alloc (.cells #[v] 82))
  have X2 : Bx ((w.alloc (.cells #[.pointer (some ⟨pb, 0, none⟩)] 66)).alloc (.cells #[v] 82)) (w.heap.size + 1) #[v] := by have := Bx.new (w.alloc (.cells #[.pointer (some ⟨pb, 0, none⟩)] 66)) #[v] 82; simpa using this
  have HN := h.bel hb0
  have HP := hp.bel hb0
  have F0 := FN.of (B := B) (pb := pb) hb0
  have HQ := hq.fn F0
  have hmf : ∀ (fn : Fn) (first cap : Array Value) (w : World), (Instr.makeFunc fn first cap).run Tryz.prog w = .ok (.func fn first cap) w := fun _ _ _ _ => rfl
  subst hv
  rw [← hR]
  clear h hp hq hb0
  go_enter Tryz.func42, Tryz.ntmps42
  go_wp2_with fail
  generalize ((w.alloc (.cells #[.pointer (some ⟨pb, 0, none⟩)] 66)).alloc (.cells #[.iface tv (.agg xv)] 82)) = W0 at X1 X2 HN HP F0 HQ ⊢
  generalize w.heap.size = b1 at n1 n2 X1 X2 ⊢
  have c1 := X1.c
  have f1 := X1.f
  have z1 := X1.z
  have c2 := X2.c
  have f2 := X2.f
  have z2 := X2.z
  have HRK : Hid (∀ W, Below W0.heap.size W0 W → Calls Tryz.prog 64 #[.iface tv (.agg xv)] W fun e w' => e = .returned (.int .i64 (r : Int)) ∧ Below W.heap.size W w') := hide (fun W hW => by rw [hr]; exact rankOf_C (HP.bel hW))
  have HG : Hid (∀ W, Below W0.heap.size W0 W → Calls Tryz.prog 63 #[.pointer (some ⟨pb, 0, none⟩), .bool (decide (r < k)), .func (.func 65) #[] #[.pointer (some ⟨b1, 0, none⟩), .pointer (some ⟨b1 + 1, 0, none⟩)]] W fun e w' => e = .returned (.tuple #[]) ∧ R e w' ∧ w'.cell? ⟨b1, 0, none⟩ = some (.pointer (some ⟨pb, 0, none⟩)) ∧ w'.cell? ⟨b1 + 1, 0, none⟩ = some (.iface tv (.agg xv))) := hide (fun W hW => by
    have FW := FN.of (B := B) (pb := pb) hW
    rw [hr]
    refine (group_C HB k hk (HN.bel hW) (HP.bel hW) (HQ.fn FW) hl hB b1 (b1 + 1) (X1.below hW) (X2.below hW) n1 n2).mono ?_
    rintro e w2 ⟨rfl, bv2, last2, hN2, fi2, hF2⟩
    have Y1 := hF2.pn_ne (X1.below hW) n1 (by intro x hx c; simp at hx; subst hx; intro q; cases q)
    have Y2 := hF2.pn_ne (X2.below hW) n2 (by intro x hx c; simp at hx; subst hx; intro q; cases q)
    refine ⟨rfl, ?_, Y1.c 0, Y2.c 0⟩
    rw [hR]
    exact ⟨rfl, bv2, last2, hN2, fi2, F0.trans (FW.trans hF2)⟩)
  clear HB HN HP HQ F0 hR hr hl X1 X2 n1 n2 hzp hk hB
  have k1 : W0.cell? ⟨b1, 0, none⟩ = some (.pointer (some ⟨pb, 0, none⟩)) := c1 0
  have k2 : W0.cell? ⟨b1 + 1, 0, none⟩ = some (.iface tv (.agg xv)) := c2 0
  clear c1 c2 f1 f2
  go_region_held3 (fun w' => w'.cell? ⟨b1, 0, none⟩ = some (.pointer (some ⟨pb, 0, none⟩)) ∧ w'.cell? ⟨b1 + 1, 0, none⟩ = some (.iface tv (.agg xv))) (first | go_keep | (simp [*])) (first | (go_at_call 64; refine (unhide HRK _ (Below.refl _ _).drew).mono ?_; rintro e w1 ⟨rfl, hb1⟩; have HB1 := hide (drew_bel hb1); have k3 : w1.cell? ⟨b1, 0, none⟩ = some (.pointer (some ⟨pb, 0, none⟩)) := (World.cell?_of_block (a := ⟨b1, 0, none⟩) ((unhide HB1).block b1 z1)).trans k1; have k4 : w1.cell? ⟨b1 + 1, 0, none⟩ = some (.iface tv (.agg xv)) := (World.cell?_of_block (a := ⟨b1 + 1, 0, none⟩) ((unhide HB1).block (b1 + 1) z2)).trans k2; clear hb1) | (go_at_call 63; with_reducible refine (unhide HG _ (unhide HB1)).mono ?_; rintro e w2 ⟨rfl, hR2, k5, k6⟩; have HR2 := hide hR2; clear hR2))
  all_goals (
    go_wp2_with fail
    go_end0
    exact unhide HR2)
end
end Go.Proofs.YteneoapickhpdaaGreatDoor
namespace Go.Proofs.YteneoapickhpdaaGreatDoor
open Go Go.RowKit Go.ChangeMaps Un
def nbF : Nat → List Nat → List (Int × Value)
  | _, [] => []
  | i, a :: l => ((a : Int), .int .i64 (i : Int)) :: nbF (i + 1) l
theorem nbF_len : ∀ l i, (nbF i l).length = l.length
  | [], i => rfl
  | a :: l, i => by simp [nbF, nbF_len l]
theorem nbF_snoc (s : Nat) : ∀ l i, nbF i (l ++ [s]) = nbF i l ++ [((s : Int), .int .i64 ((i + l.length : Nat) : Int))]
  | [], i => by simp [nbF]
  | a :: l, i => by
    simp only [List.cons_append, nbF, nbF_snoc s l (i + 1)]
    simp
    omega
theorem gotN_in (s : Nat) : ∀ l i, s ∈ l → got (s : Int) (nbF i l) = some (.int .i64 ((i + l.idxOf s : Nat) : Int))
  | [], i, h => by simp at h
  | a :: l, i, h => by
    unfold nbF got
    by_cases e : a = s
    · subst e; simp
    · have h1 : ¬ ((a : Int) = (s : Int)) := by omega
      have h2 : (a == s) = false := by simpa using e
      rw [if_neg h1, gotN_in s l (i + 1) ((List.mem_cons.1 h).resolve_left (fun q => e q.symm)), List.idxOf_cons, h2]
      simp
      omega
theorem gotN_out (s : Nat) : ∀ l i, ¬ s ∈ l → got (s : Int) (nbF i l) = none
  | [], i, _ => rfl
  | a :: l, i, h => by
    unfold nbF got
    have h1 : ¬ ((a : Int) = (s : Int)) := fun q => h (by simp; left; omega)
    rw [if_neg h1]
    exact gotN_out s l (i + 1) (fun q => h (List.mem_cons_of_mem _ q))
abbrev encI : Int → Value := fun n => .int .i64 n
/-- What numbers the variables, in memory. -/
structure NB (w : World) (nb mb : Nat) (L : List Nat) : Prop where
  bk : Bx w nb #[.map (some mb)]
  mp : MS encI w mb (nbF 0 L)
  ne : nb ≠ mb
theorem MS.len {κ : Type} {enc : κ → Value} {w : World} {b : Nat} {L : List (κ × Value)} (h : MS enc w b L) : ∃ es clock, w.heap[b]? = some (.map es clock) ∧ es.size = L.length := by
  obtain ⟨es, c, h1, h2⟩ := h
  refine ⟨es, c, h1, ?_⟩
  have := congrArg List.length h2
  simpa using this
abbrev nbV (nb : Nat) : Value := .func (.func 61) #[] #[.pointer (some ⟨nb, 0, none⟩)]
theorem NB.fr {S : Nat → Prop} {w w' : World} {nb mb : Nat} {L : List Nat} (h : NB w nb mb L) (hf : Fr S w w') (h1 : ¬ S nb) (h2 : ¬ S mb) : NB w' nb mb L := ⟨h.bk.fr hf h1, h.mp.same (hf.block mb h.mp.lt h2), h.ne⟩
theorem NB.bel {w w' : World} {nb mb : Nat} {L : List Nat} (h : NB w nb mb L) (hb : Below w.heap.size w w') : NB w' nb mb L := h.fr (S := fun _ => False) (Fr.of hb) id id
/-- The text of a variable's number. -/
def vT (i : Nat) : List UInt8 := 118 :: dec i
section
variable {w : World} {nb mb : Nat} {L : List Nat}
theorem run_lenM {b : Nat} {κ : Type} {enc : κ → Value} {M : List (κ × Value)} (h : MS enc w b M) {t k e : TypeId} (ht : Tryz.prog.underlying t = some (.map k e)) (ty : TypeId) : (Builtin.len_ #[t] ty #[.map (some b)]).run Tryz.prog w = .ok (.int .i64 (M.length : Int)) w := by
  obtain ⟨es, c, h1, h2⟩ := h.len
  simp [Builtin.len_, run_underlying ht, MapKept.run_getObj_map h1, h2, goInt]
theorem zeroInt (w : World) : (zeroValue 3).run Tryz.prog w = .ok (.int .i64 0) w := by kernel_rfl
def NumPost (nb mb : Nat) (L : List Nat) (n : Nat) (w : World) (e : Ending) (w' : World) : Prop :=
  e = .returned (.string (bs (vT ((Un.seen L n).idxOf n)))) ∧ NB w' nb mb (Un.seen L n) ∧ Fr (fun b => b = mb) w w'
set_option maxRecDepth 100000 in
set_option maxHeartbeats 1000000 in
theorem number_C' (h : NB w nb mb L) (n : Nat) (hn : (Un.seen L n).length ≤ 48) : Calls Tryz.prog 61 #[.int .i64 (n : Int), .pointer (some ⟨nb, 0, none⟩)] w (NumPost nb mb L n w) := by
  have hl := h.mp.look (KL.num Tryz.underlying79) Tryz.underlying163 (zeroInt w) (n : Int) trivial (fun _ _ => trivial) true
  obtain ⟨c, f, z⟩ := h.bk
  have hnot : ∀ (x : Bool) (w : World), (Op.unary .not (.bool x)).run Tryz.prog w = .ok (.bool (!x)) w := fun _ _ => rfl
  have hcat : ∀ i, (⟨#[118]⟩ : ByteArray) ++ bs (dec i) = bs (vT i) := fun i => by rw [show (⟨#[118]⟩ : ByteArray) = bs [118] from rfl, bs_app]; rfl
  by_cases hm : n ∈ L
  · rw [gotN_in n L 0 hm] at hl
    simp at hl
    have es : Un.seen L n = L := by rw [Un.seen, if_pos hm]
    rw [es] at hn
    have hlt : L.idxOf n < 48 := Nat.lt_of_lt_of_le (List.idxOf_lt_length_iff.2 hm) hn
    have HC := fun W : World => Itoa_C (w := W) (L.idxOf n) hlt
    have hc := hcat (L.idxOf n)
    have hdl : (bs (dec (L.idxOf n))).size ≤ 100 := by rw [bs_size]; have := dec_len (L.idxOf n); omega
    go_enter Tryz.func61, Tryz.ntmps61
    go_wp2_with (go_at_call 62; refine (HC _).mono ?_; rintro e w' ⟨rfl, rfl⟩)
    go_ret
    unfold NumPost
    rw [es]
    exact ⟨rfl, h, Fr.refl _ _⟩
  · have hg := gotN_out n L 0 hm
    rw [hg] at hl
    simp at hl
    have es : Un.seen L n = L ++ [n] := by rw [Un.seen, if_neg hm]
    have hix : (L ++ [n]).idxOf n = L.length := by
      rw [List.idxOf_append, if_neg hm]
      simp
    have hlen := run_lenM h.mp Tryz.underlying163
    rw [nbF_len] at hlen
    rw [es] at hn
    simp at hn
    have HC := fun W : World => Itoa_C (w := W) L.length (by omega)
    have hc := hcat L.length
    have hdl : (bs (dec L.length)).size ≤ 100 := by rw [bs_size]; have := dec_len L.length; omega
    have HM := hide h.mp
    have HK := hide h.bk
    have hne := h.ne
    clear h
    go_enter Tryz.func61, Tryz.ntmps61
    go_wp2_with (first | (go_at_call 62; refine (HC _).mono ?_; rintro e w' ⟨rfl, rfl⟩) | (refine wpList_put _ rfl _ _ _ _ (Or.inr rfl) (KL.num Tryz.underlying79) Tryz.underlying163 _ _ rfl (unhide HM) (n : Int) (.int .i64 (L.length : Int)) rfl rfl trivial (fun _ _ => trivial) ?_; intro w' H' O'; have HM2 := hide H'; have O2 := hide O'; clear H' O'))
    go_ret
    unfold NumPost
    rw [es, hix]
    have O := unhide O2
    refine ⟨rfl, ⟨(unhide HK).one O hne, ?_, hne⟩, ⟨O.os, O.tape, O.output, by rw [O.size]; exact Nat.le_refl _, fun k hk hn => O.block k hn⟩⟩
    have := unhide HM2
    rw [putL_new _ _ _ hg] at this
    rw [nbF_snoc]
    simpa using this
end
end Go.Proofs.YteneoapickhpdaaGreatDoor
namespace Go.Proofs.YteneoapickhpdaaGreatDoor
open Go Go.RowKit Go.ChangeMaps Un
theorem fine_up {c : ByteArray} (h : UpN c) : Fine c := ⟨fun e => (by obtain ⟨x, r, h1, _⟩ := h; rw [h1] at e; cases e), upN_ne h 40 [] (by decide)⟩
abbrev tArrow : ByteArray := ⟨#[45, 62]⟩
abbrev tComma : ByteArray := ⟨#[44]⟩
theorem wTL_map : ∀ L : List Nd, wTL L = L.map wT
  | [] => rfl
  | x :: l => by simp [wTL, wTL_map l]
theorem sep_len (t : ByteArray) : (sep t).length ≤ 1 := by unfold sep; split <;> simp
def NamedRel (B pb : Nat) (mv : Value) (l : List UInt8) (L : List Nd) (w : World) (gk : Nat) (v : Value) (wr : World) : Prop :=
  ∃ (j : Nat) (bv' : Value) (last' : ByteArray), Hid (gk = L.length - j) ∧ j ≤ L.length ∧ v = .int .i64 (j : Int) ∧ PN wr B pb bv' (l ++ ((L.take j).map wT).flatMap fun p => 32 :: p 2) last' mv ∧ Fine last' ∧ FN B pb w wr
theorem flat_take (L : List Nd) (j : Nat) (h : j < L.length) : (((L.take (j + 1)).map wT).flatMap fun p => 32 :: p 2) = (((L.take j).map wT).flatMap fun p => 32 :: p 2) ++ 32 :: wT L[j] 2 := by
  rw [List.take_add_one, List.getElem?_eq_getElem h]
  simp only [List.map_append, List.flatMap_append, Option.toList_some, List.map_cons, List.map_nil, List.flatMap_cons, List.flatMap_nil, List.append_nil]
theorem flat_le (L : List Nd) (j : Nat) : (((L.take j).map wT).flatMap fun p => 32 :: p 2).length ≤ ((L.map wT).flatMap fun p => 32 :: p 2).length := by
  have e : ((L.map wT).flatMap fun p => 32 :: p 2) = (((L.take j).map wT).flatMap fun p => 32 :: p 2) ++ (((L.drop j).map wT).flatMap fun p => 32 :: p 2) := by
    rw [← List.flatMap_append, ← List.map_append, List.take_append_drop]
  rw [e, List.length_append]
  omega
section
variable {w : World} {B pb : Nat} {bv : Value} {l : List UInt8} {last : ByteArray} {mv : Value} {Q : Nat → Prop}
set_option maxRecDepth 100000 in
set_option maxHeartbeats 2000000 in
theorem named_C (s : ByteArray) (hu : UpN s) (hss : s.size ≤ 1000) (x y : Int) (L : List Nd) (sa : Option Addr) (sc : Nat) (vs : Nat → Value) (hL : L.length ≤ 1001) (h : PN w B pb bv l last mv) (hq : NQ w pb Q) (hB : B ≤ pb)
    (hrow : L = [] ∨ ∃ g, sa = some ⟨g, 0, none⟩ ∧ Q g ∧ g < w.heap.size ∧ ∀ i, i < L.length → w.cell? ⟨g, i, none⟩ = some (vs i)) (hr : ∀ i (h : i < L.length), PT w Q L[i] (vs i)) (IH : ∀ i (h : i < L.length), AtC L[i])
    (hl : (l ++ (sep last ++ (s.toList ++ (L.map wT).flatMap fun p => 32 :: p 2))).length ≤ 800000) :
    Calls Tryz.prog 82 #[.pointer (some ⟨pb, 0, none⟩), .agg #[.int .i64 x, .int .i64 y, .string s], .slice sa L.length sc] w (AtPost B pb mv (l ++ (sep last ++ (s.toList ++ (L.map wT).flatMap fun p => 32 :: p 2))) w) := by
  have hzp := h.lt
  have hsl := sep_len last
  simp only [List.length_append] at hl
  have hb0 : Below w.heap.size w ((w.alloc (.cells #[.int .i64 x, .int .i64 y, .string s] 120)).alloc (.cells #[.string s] 9)) := ((Below.refl _ _).alloc (Nat.le_refl _) _).alloc (by simp) _
  have BX : Bx ((w.alloc (.cells #[.int .i64 x, .int .i64 y, .string s] 120)).alloc (.cells #[.string s] 9)) (w.heap.size + 1) #[.string s] := by have := Bx.new (w.alloc (.cells #[.int .i64 x, .int .i64 y, .string s] 120)) #[.string s] 9; simpa using this
  have HP := hide (put_C (h.bel hb0) s (by omega) (by omega) (w.heap.size + 1) BX (by omega))
  rw [put_type (upN_ne hu 41 [] (by decide)) (upN_ne hu 44 [] (by decide)) (upN_ne hu 59 [] (by decide))] at HP
  have F0 := FN.of (B := B) (pb := pb) hb0
  have stl : s.toList.length = s.size := by rw [ByteArray.toList_eq]; simp
  have HR := hide hr
  have HI := hide IH
  have HW := hide hrow
  clear BX hr IH hrow
  go_enter Tryz.func82, Tryz.ntmps82
  go_wp2_with fail
  refine (unhide HP).mono ?_
  rintro e w1 ⟨rfl, bv1, N1, F1⟩
  have FA := F0.trans F1
  go_wp2_with fail
  go_loopg [15] L.length (fun gk v wr => NamedRel B pb mv (l ++ (sep last ++ s.toList)) L w gk v wr)
  case atStart => exact ⟨0, bv1, s, hide (by simp), Nat.zero_le _, rfl, by simpa using N1, fine_up hu, FA⟩
  case round =>
    clear N1
    obtain ⟨j, bv2, last2, hgk, hj, rfl, N2, fi2, F2⟩ := hrel
    by_cases hjl : j < L.length
    · have hd : (j : Int) < (L.length : Int) := by omega
      obtain ⟨g, rfl, hg, hgz, hcell⟩ : ∃ g, sa = some ⟨g, 0, none⟩ ∧ Q g ∧ g < w.heap.size ∧ ∀ i, i < L.length → w.cell? ⟨g, i, none⟩ = some (vs i) := by
        rcases unhide HW with h0 | h0
        · subst h0; simp at hjl
        · exact h0
      have cg : wr.cell? ⟨g, j, none⟩ = some (vs j) := (World.cell?_of_block (a := ⟨g, j, none⟩) (F2.block g hgz (hq g hg).2.1 (Or.inr (hq g hg).2.2))).trans (hcell j hjl)
      have PJ := (unhide HR j hjl).fnQ hq F2
      obtain ⟨tv, xv, hv⟩ := PJ.iface'
      have ft := flat_take L j hjl
      have fl := flat_le L (j + 1)
      rw [ft] at fl
      simp only [List.length_append, List.length_cons] at fl
      have HC := unhide HI j hjl wr B pb bv2 _ last2 mv Q (vs j) 2 N2 PJ (hq.fn F2) (Nat.le_refl _) (by rw [sep_fine fi2]; simp only [List.length_append, List.length_cons, List.length_nil]; omega) hB
      rw [hv] at cg HC
      rw [sep_fine fi2] at HC
      go_wp2_with (go_at_call 42; refine HC.mono ?_; rintro e w3 ⟨rfl, bv3, last3, hN3, fi3, hF3⟩; have HN3 := hide hN3; have HF3 := hide (F2.trans hF3); clear hN3 hF3)
      go_roundg (L.length - (j + 1))
      case measure => rw [unhide hgk]; omega
      case rel =>
        refine ⟨j + 1, bv3, last3, hide rfl, by omega, by go_num, ?_, fi3, unhide HF3⟩
        rw [ft]
        have e9 : l ++ (sep last ++ s.toList) ++ ((((L.take j).map wT).flatMap fun p => 32 :: p 2) ++ 32 :: wT L[j] 2) = l ++ (sep last ++ s.toList) ++ (((L.take j).map wT).flatMap fun p => 32 :: p 2) ++ ([32] ++ wT L[j] 2) := by simp
        rw [e9]
        exact unhide HN3
    · have hd : decide ((j : Int) < (L.length : Int)) = false := by simp; omega
      have ej : j = L.length := by omega
      subst ej
      rw [List.take_length] at N2
      go_wp2_with fail
      go_end0
      refine ⟨rfl, bv2, last2, ?_, fi2, F2⟩
      have e9 : l ++ (sep last ++ (s.toList ++ (L.map wT).flatMap fun p => 32 :: p 2)) = l ++ (sep last ++ s.toList) ++ (L.map wT).flatMap fun p => 32 :: p 2 := by simp
      rw [e9]
      exact N2
end
end Go.Proofs.YteneoapickhpdaaGreatDoor
namespace Go.Proofs.YteneoapickhpdaaGreatDoor
open Go Go.RowKit Go.ChangeMaps Un
theorem quo_cat {s : ByteArray} (h : Quo s) : (⟨#[39]⟩ : ByteArray) ++ s.extract 1 s.size = s := by
  obtain ⟨r, hr⟩ := h
  apply toList_inj
  rw [hr]
  have h2 := tl_list hr
  unfold tl at h2
  rw [ByteArray.toList_eq] at h2 ⊢
  rw [ByteArray.data_append]
  simp only [Array.toList_append, h2]
  rfl
theorem fine_quo {s : ByteArray} (h : Quo s) : Fine s := by
  obtain ⟨r, hr⟩ := h
  unfold Fine
  rw [hr]
  exact ⟨by simp, by simp⟩
theorem wT_var (s : ByteArray) (n f t a k : Nat) : wT (.mk 16 s n [] f t a) k = s.toList := by simp [wT]
theorem wT_fn (s : ByteArray) (n : Nat) (x y : Nd) (f t a : Nat) : wT (.mk 17 s n [x, y] f t a) 0 = wT x 1 ++ ([32, 45, 62, 32] ++ wT y 0) := by
  simp only [wT, conN, show ¬ (17 = 16) by decide, if_false, if_true, joined, wTL]
  rfl
theorem wT_pr (s : ByteArray) (n : Nat) (x y : Nd) (f t a : Nat) : wT (.mk 6 s n [x, y] f t a) 0 = 40 :: (wT x 0 ++ ([44, 32] ++ (wT y 0 ++ [41]))) := by
  have hne : ¬ nPr = nFn := by intro e; have := congrArg ByteArray.toList e; rw [show nPr.toList = [44] from toList_mk [44], show nFn.toList = [62] from toList_mk [62]] at this; simp at this
  simp only [wT, conN, show ¬ (6 = 16) by decide, show ¬ (6 = 17) by decide, if_false, if_true, joined, if_neg hne, wTL]
  rfl
theorem wT_up (s : ByteArray) (hu : UpN s) (n : Nat) (L : List Nd) (f t a : Nat) : wT (.mk 2 s n L f t a) 0 = s.toList ++ (L.map wT).flatMap fun p => 32 :: p 2 := by
  have h1 : s ≠ nFn := fun e => upN_ne hu 62 [] (by decide) (by rw [e]; exact toList_mk [62])
  have h2 : s ≠ nPr := fun e => upN_ne hu 44 [] (by decide) (by rw [e]; exact toList_mk [44])
  simp only [wT, conN, show ¬ (2 = 16) by decide, show ¬ (2 = 17) by decide, show ¬ (2 = 6) by decide, if_false, joined, if_neg h1, if_neg h2, wTL_map]
  rfl
theorem fine_mk {t : ByteArray} {r : List UInt8} (h : t.toList = r) (h1 : r ≠ []) (h2 : r ≠ [40]) : Fine t := by unfold Fine; rw [h]; exact ⟨h1, h2⟩
section
variable {w : World}
set_option maxRecDepth 100000 in
set_option maxHeartbeats 1000000 in
theorem bare_var (s : ByteArray) (n f t a : Nat) (hss : s.size ≤ 1000) : BareC (.mk 16 s n [] f t a) := by
  intro w B pb bv l last mv Q v h hp hq hl hB
  cases hp with
  | var s n f t a x y hqu =>
  rw [wT_var] at hl ⊢
  simp only [List.length_append] at hl
  have h1 := taVV
  have hzp := h.lt
  have stl : s.toList.length = s.size := by rw [ByteArray.toList_eq]; simp
  have hb0 : Below w.heap.size w ((w.alloc (.cells #[.int .i64 x, .int .i64 y, .string (s.extract 1 s.size)] 138)).alloc (.cells #[.string s] 9)) := ((Below.refl _ _).alloc (Nat.le_refl _) _).alloc (by simp) _
  have BX : Bx ((w.alloc (.cells #[.int .i64 x, .int .i64 y, .string (s.extract 1 s.size)] 138)).alloc (.cells #[.string s] 9)) (w.heap.size + 1) #[.string s] := by have := Bx.new (w.alloc (.cells #[.int .i64 x, .int .i64 y, .string (s.extract 1 s.size)] 138)) #[.string s] 9; simpa using this
  have HP := hide (put_C (h.bel hb0) s (by omega) (by omega) (w.heap.size + 1) BX (by omega))
  obtain ⟨r, hr⟩ := hqu
  rw [put_type (by rw [hr]; simp) (by rw [hr]; simp) (by rw [hr]; simp)] at HP
  have F0 := FN.of (B := B) (pb := pb) hb0
  have hcat := quo_cat ⟨r, hr⟩
  have Hr := hide hr
  clear BX hr
  go_enter Tryz.func66, Tryz.ntmps66
  go_wp2_with fail
  refine (unhide HP).mono ?_
  rintro e w1 ⟨rfl, bv1, N1, F1⟩
  go_wp2_with fail
  go_end0
  exact ⟨rfl, bv1, s, N1, fine_quo ⟨r, unhide Hr⟩, F0.trans F1⟩
set_option maxRecDepth 100000 in
set_option maxHeartbeats 1000000 in
theorem bare_up (s : ByteArray) (n : Nat) (L : List Nd) (f t a : Nat) (hss : s.size ≤ 1000) (hL : L.length ≤ 1001) (IH : ∀ i (h : i < L.length), AtC L[i]) : BareC (.mk 2 s n L f t a) := by
  intro w B pb bv l last mv Q v h hp hq hl hB
  cases hp with
  | up s n L f t at_ x y x' y' sa sc vs hu hrow hr =>
  rw [wT_up s hu] at hl ⊢
  have h1 := taNV
  have h2 := taNN
  have stl : s.toList.length = s.size := by rw [ByteArray.toList_eq]; simp
  have hb0 : Below w.heap.size w (w.alloc (.cells #[.int .i64 x, .int .i64 y, .int .i64 x', .int .i64 y', .string s, .slice sa L.length sc] 145)) := (Below.refl _ _).alloc (Nat.le_refl _) _
  have F0 := FN.of (B := B) (pb := pb) hb0
  have HC := hide (named_C (Q := Q) s hu hss x' y' L sa sc vs hL (h.bel hb0) (hq.fn F0) hB
    (hrow.imp id fun q => by
      obtain ⟨g, q1, q2, q3, q4⟩ := q
      exact ⟨g, q1, q2, by simp; omega, fun i hi => (World.cell?_of_block (a := ⟨g, i, none⟩) (hb0.block g q3)).trans (q4 i hi)⟩)
    (fun i hi => (hr i hi).bel hb0) IH hl)
  clear hrow hr
  go_enter Tryz.func66, Tryz.ntmps66
  go_wp2_with fail
  refine (unhide HC).mono ?_
  rintro e w1 ⟨rfl, bv1, last1, N1, fi1, F1⟩
  go_wp2_with fail
  go_end0
  exact ⟨rfl, bv1, last1, N1, fi1, F0.trans F1⟩
set_option maxRecDepth 100000 in
set_option maxHeartbeats 2000000 in
theorem bare_fn (s : ByteArray) (n : Nat) (a b : Nd) (f t at_ : Nat) (Ha : AtC a) (Hb : AtC b) : BareC (.mk 17 s n [a, b] f t at_) := by
  intro w B pb bv l last mv Q v h hp hq hl hB
  cases hp with
  | fn s n a b f t at_ x y va vb ha hb =>
  rw [wT_fn] at hl ⊢
  obtain ⟨ta, xa, rfl⟩ := ha.iface'
  obtain ⟨tb, xb, rfl⟩ := hb.iface'
  have h1 := taAV
  have h2 := taAN
  have h3 := taAP
  have h4 := taAA
  have hzp := h.lt
  have hsl := sep_len last
  simp only [List.length_append, List.length_cons, List.length_nil] at hl
  have hb0 : Below w.heap.size w (w.alloc (.cells #[.int .i64 x, .int .i64 y, .iface ta (.agg xa), .iface tb (.agg xb)] 140)) := (Below.refl _ _).alloc (Nat.le_refl _) _
  have F0 := FN.of (B := B) (pb := pb) hb0
  have XB := Bx.new w #[.int .i64 x, .int .i64 y, .iface ta (.agg xa), .iface tb (.agg xb)] 140
  have HC := hide (Ha _ B pb bv l last mv Q _ 1 (h.bel hb0) (ha.bel hb0) (hq.fn F0) (by omega) (by simp only [List.length_append]; omega) hB)
  go_enter Tryz.func66, Tryz.ntmps66
  go_wp2_with fail
  refine (unhide HC).mono ?_
  rintro e w1 ⟨rfl, bv1, last1, N1, fi1, F1⟩
  have X1 := F1.pn_ne XB (by omega) (by intro x hx c; simp at hx; subst hx; intro q; cases q)
  obtain ⟨c1, f1, z1⟩ := X1
  have hzp1 := N1.lt
  have hb1 : Below w1.heap.size w1 (w1.alloc (.cells #[.string tArrow] 9)) := (Below.refl _ _).alloc (Nat.le_refl _) _
  have HP := hide (put_C (N1.bel hb1) tArrow (by decide) (by simp only [List.length_append]; omega) w1.heap.size (Bx.new w1 #[.string tArrow] 9) (by omega))
  rw [put_type (by rw [show tArrow.toList = [45, 62] from toList_mk [45, 62]]; decide) (by rw [show tArrow.toList = [45, 62] from toList_mk [45, 62]]; decide) (by rw [show tArrow.toList = [45, 62] from toList_mk [45, 62]]; decide), show tArrow.toList = [45, 62] from toList_mk [45, 62], sep_fine fi1] at HP
  clear HC
  go_wp2_with fail
  refine (unhide HP).mono ?_
  rintro e w2 ⟨rfl, bv2, N2, F2⟩
  have F12 := (FN.of (B := B) (pb := pb) hb1).trans F2
  have FA := (F0.trans F1).trans F12
  have X2 := (F1.trans F12).pn_ne XB (by omega) (by intro x hx c; simp at hx; subst hx; intro q; cases q)
  obtain ⟨c2, f2, z2⟩ := X2
  have HD := hide (Hb w2 B pb bv2 _ tArrow mv Q _ 0 N2 (hb.fnQ hq FA) (hq.fn FA) (by omega) (by rw [sep_fine (fine_mk (toList_mk [45, 62]) (by decide) (by decide))]; simp only [List.length_append, List.length_cons, List.length_nil]; omega) hB)
  rw [sep_fine (fine_mk (toList_mk [45, 62]) (by decide) (by decide))] at HD
  clear HP c1 f1
  go_wp2_with fail
  refine (unhide HD).mono ?_
  rintro e w3 ⟨rfl, bv3, last3, N3, fi3, F3⟩
  go_wp2_with fail
  go_end0
  refine ⟨rfl, bv3, last3, ?_, fi3, FA.trans F3⟩
  have e9 : l ++ (sep last ++ wT a 1) ++ ([32] ++ [45, 62]) ++ ([32] ++ wT b 0) = l ++ (sep last ++ (wT a 1 ++ ([32, 45, 62, 32] ++ wT b 0))) := by simp
  rw [e9] at N3
  simp only [List.append_assoc, List.cons_append, List.nil_append] at N3 ⊢
  exact N3
set_option maxRecDepth 100000 in
set_option maxHeartbeats 2000000 in
theorem bare_pr (s : ByteArray) (n : Nat) (a b : Nd) (f t at_ : Nat) (Ha : AtC a) (Hb : AtC b) : BareC (.mk 6 s n [a, b] f t at_) := by
  intro w B pb bv l last mv Q v h hp hq hl hB
  cases hp with
  | pr s n a b f t at_ x y va vb ha hb =>
  rw [wT_pr] at hl ⊢
  obtain ⟨ta, xa, rfl⟩ := ha.iface'
  obtain ⟨tb, xb, rfl⟩ := hb.iface'
  have h1 := taPV
  have h2 := taPN
  have h3 := taPP
  have hzp := h.lt
  have hsl := sep_len last
  simp only [List.length_append, List.length_cons, List.length_nil] at hl
  have hb0 : Below w.heap.size w ((w.alloc (.cells #[.int .i64 x, .int .i64 y, .iface ta (.agg xa), .iface tb (.agg xb)] 142)).alloc (.cells #[.string tOpen] 9)) := ((Below.refl _ _).alloc (Nat.le_refl _) _).alloc (by simp) _
  have F0 := FN.of (B := B) (pb := pb) hb0
  have XB := (Bx.new w #[.int .i64 x, .int .i64 y, .iface ta (.agg xa), .iface tb (.agg xb)] 142).alloc (.cells #[.string tOpen] 9)
  have BX : Bx ((w.alloc (.cells #[.int .i64 x, .int .i64 y, .iface ta (.agg xa), .iface tb (.agg xb)] 142)).alloc (.cells #[.string tOpen] 9)) (w.heap.size + 1) #[.string tOpen] := by have := Bx.new (w.alloc (.cells #[.int .i64 x, .int .i64 y, .iface ta (.agg xa), .iface tb (.agg xb)] 142)) #[.string tOpen] 9; simpa using this
  have HP := hide (put_C (h.bel hb0) tOpen (by decide) (by omega) (w.heap.size + 1) BX (by omega))
  rw [put_type (by rw [show tOpen.toList = [40] from toList_mk [40]]; decide) (by rw [show tOpen.toList = [40] from toList_mk [40]]; decide) (by rw [show tOpen.toList = [40] from toList_mk [40]]; decide), show tOpen.toList = [40] from toList_mk [40]] at HP
  have nx : ∀ x0, (#[Value.int .i64 x, .int .i64 y, .iface ta (.agg xa), .iface tb (.agg xb)])[0]? = some x0 → ∀ c, x0 ≠ .int .u8 c := by intro x hx c; simp at hx; subst hx; intro q; cases q
  clear BX
  go_enter Tryz.func66, Tryz.ntmps66
  go_wp2_with fail
  refine (unhide HP).mono ?_
  rintro e w1 ⟨rfl, bv1, N1, F1⟩
  have G1 := F0.trans F1
  obtain ⟨c1, f1, z1⟩ := F1.pn_ne XB (by omega) nx
  have hs1 : sep tOpen = [] := by unfold sep; rw [if_pos (Or.inr (toList_mk [40]))]
  have HC := hide (Ha w1 B pb bv1 _ tOpen mv Q _ 0 N1 (ha.fnQ hq G1) (hq.fn G1) (by omega) (by rw [hs1]; simp only [List.length_append, List.length_cons, List.length_nil]; omega) hB)
  rw [hs1] at HC
  clear HP
  go_wp2_with fail
  refine (unhide HC).mono ?_
  rintro e w2 ⟨rfl, bv2, last2, N2, fi2, F2⟩
  have G2 := G1.trans F2
  have hzp2 := N2.lt
  have hb2 : Below w2.heap.size w2 (w2.alloc (.cells #[.string tComma] 9)) := (Below.refl _ _).alloc (Nat.le_refl _) _
  have HP2 := hide (put_C (N2.bel hb2) tComma (by decide) (by simp only [List.length_append, List.length_cons, List.length_nil]; omega) w2.heap.size (Bx.new w2 #[.string tComma] 9) (by omega))
  rw [put_tight (Or.inr (toList_mk [44])), show tComma.toList = [44] from toList_mk [44]] at HP2
  obtain ⟨c2, f2, z2⟩ := (F1.trans F2).pn_ne XB (by omega) nx
  clear HC c1 f1
  go_wp2_with fail
  refine (unhide HP2).mono ?_
  rintro e w3 ⟨rfl, bv3, N3, F3⟩
  have F23 := (FN.of (B := B) (pb := pb) hb2).trans F3
  have G3 := G2.trans F23
  obtain ⟨c3, f3, z3⟩ := ((F1.trans F2).trans F23).pn_ne XB (by omega) nx
  have HD := hide (Hb w3 B pb bv3 _ tComma mv Q _ 0 N3 (hb.fnQ hq G3) (hq.fn G3) (by omega) (by rw [sep_fine (fine_mk (toList_mk [44]) (by decide) (by decide))]; simp only [List.length_append, List.length_cons, List.length_nil]; omega) hB)
  rw [sep_fine (fine_mk (toList_mk [44]) (by decide) (by decide))] at HD
  clear HP2 c2 f2
  go_wp2_with fail
  refine (unhide HD).mono ?_
  rintro e w4 ⟨rfl, bv4, last4, N4, fi4, F4⟩
  have G4 := G3.trans F4
  have hzp4 := N4.lt
  have hb4 : Below w4.heap.size w4 (w4.alloc (.cells #[.string tClose] 9)) := (Below.refl _ _).alloc (Nat.le_refl _) _
  have HP4 := hide (put_C (N4.bel hb4) tClose (by decide) (by simp only [List.length_append, List.length_cons, List.length_nil]; omega) w4.heap.size (Bx.new w4 #[.string tClose] 9) (by omega))
  rw [put_tight (Or.inl (toList_mk [41])), show tClose.toList = [41] from toList_mk [41]] at HP4
  clear HD c3 f3
  go_wp2_with fail
  refine (unhide HP4).mono ?_
  rintro e w5 ⟨rfl, bv5, N5, F5⟩
  go_wp2_with fail
  go_end0
  refine ⟨rfl, bv5, tClose, ?_, fine_mk (toList_mk [41]) (by decide) (by decide), G4.trans ((FN.of hb4).trans F5)⟩
  have e9 : l ++ (sep last ++ [40]) ++ ([] ++ wT a 0) ++ [44] ++ ([32] ++ wT b 0) ++ [41] = l ++ (sep last ++ 40 :: (wT a 0 ++ ([44, 32] ++ (wT b 0 ++ [41])))) := by simp
  rw [e9] at N5
  simp only [List.append_assoc, List.cons_append, List.nil_append] at N5 ⊢
  exact N5
end
end Go.Proofs.YteneoapickhpdaaGreatDoor
namespace Go.Proofs.YteneoapickhpdaaGreatDoor
open Go Go.RowKit Go.ChangeMaps Un
def isF (c : ByteArray) : Bool := c.toList == [62]
def isP (c : ByteArray) : Bool := c.toList == [44]
def kd (c : ByteArray) : Nat := if isF c = true then 17 else if isP c = true then 6 else 2
mutual
/-- A type as a source could have it, its variables numbered. -/
def sp (a : List Nat) : Ty → Nd
  | .var n => .mk 16 (bs (39 :: vT ((Un.seen a n).idxOf n))) 0 [] 0 0 0
  | .con c l => .mk (kd c) c 0 (spL a l) 0 0 0
def spL (a : List Nat) : List Ty → List Nd
  | [] => []
  | t :: l => sp a t :: spL (vars a t) l
end
theorem isF_iff (c : ByteArray) : isF c = true ↔ c = nFn := by
  unfold isF
  rw [beq_iff_eq]
  exact ⟨fun h => toList_inj (h.trans (toList_mk [62]).symm), fun h => by rw [h]; exact toList_mk [62]⟩
theorem isP_iff (c : ByteArray) : isP c = true ↔ c = nPr := by
  unfold isP
  rw [beq_iff_eq]
  exact ⟨fun h => toList_inj (h.trans (toList_mk [44]).symm), fun h => by rw [h]; exact toList_mk [44]⟩
theorem conN_kd (c : ByteArray) : conN (kd c) c = c := by
  unfold conN kd
  by_cases h1 : isF c = true
  · simp [h1]; exact ((isF_iff c).1 h1).symm
  · by_cases h2 : isP c = true
    · simp [h1, h2]; exact ((isP_iff c).1 h2).symm
    · simp [h1, h2]
theorem kd_16 (c : ByteArray) : kd c ≠ 16 := by unfold kd; split; decide; split <;> decide
mutual
theorem wT_sp : ∀ (T : Ty) (a : List Nat), wT (sp a T) = wr dec (vars a T) T
  | .var n, a => by
    funext k
    simp only [sp, wT, if_true, wr, vars]
    rw [show (bs (39 :: vT ((Un.seen a n).idxOf n))).toList = 39 :: vT ((Un.seen a n).idxOf n) from toList_mk _]
    rfl
  | .con c l, a => by
    simp only [sp, wT, if_neg (kd_16 c), conN_kd, wr, vars]
    rw [wTL_sp l a]
theorem wTL_sp : ∀ (l : List Ty) (a : List Nat), wTL (spL a l) = wrA dec (varsL a l) l
  | [], a => rfl
  | t :: l, a => by
    simp only [spL, wTL, wrA, varsL]
    rw [wT_sp t a, wTL_sp l (vars a t), wr_vars_mid (varsL_pre l (vars a t))]
end
theorem spL_len : ∀ (l : List Ty) (a : List Nat), (spL a l).length = l.length
  | [], a => rfl
  | t :: l, a => by simp [spL, spL_len l]
theorem spL_take : ∀ (l : List Ty) (a : List Nat) (i : Nat) (h : i < l.length), spL a (l.take (i + 1)) = spL a (l.take i) ++ [sp (varsL a (l.take i)) l[i]] ∧ varsL a (l.take (i + 1)) = vars (varsL a (l.take i)) l[i]
  | [], a, i, h => by simp at h
  | t :: l, a, 0, h => by simp [spL, varsL]
  | t :: l, a, i + 1, h => by
    have := spL_take l (vars a t) i (by simpa using h)
    simp only [List.take_succ_cons, spL, varsL, this, List.getElem_cons_succ]
    simp
theorem varsL_appQ : ∀ (a b : List Ty) (x : List Nat), varsL x (a ++ b) = varsL (varsL x a) b
  | [], b, x => rfl
  | t :: a, b, x => by simp [varsL, varsL_appQ a b]
theorem varsL_take_le (l : List Ty) (a : List Nat) (i : Nat) : (varsL a (l.take i)).length ≤ (varsL a l).length := by
  have : varsL a l = varsL (varsL a (l.take i)) (l.drop i) := by
    rw [← varsL_appQ, List.take_append_drop]
  rw [this]
  exact (varsL_pre _ _).length_le
theorem PT.by {w : World} {P : Nat → Prop} {nd : Nd} {v : Value} (h : PT w P nd v) : PT w (fun b => P b ∧ b < w.heap.size ∧ Nby w b) nd v := by
  induction h with
  | var s n f t a x y hq => exact .var s n f t a x y hq
  | fn s n a b f t at_ x y va vb _ _ iha ihb => exact .fn s n a b f t at_ x y va vb iha ihb
  | pr s n a b f t at_ x y va vb _ _ iha ihb => exact .pr s n a b f t at_ x y va vb iha ihb
  | up s n L f t at_ x y x' y' sa sc vs hu hrow hr ih =>
    refine .up s n L f t at_ x y x' y' sa sc vs hu ?_ ih
    rcases hrow with h0 | ⟨g, h1, hP, hz, hc⟩
    · exact Or.inl h0
    · by_cases hL : L = []
      · exact Or.inl hL
      · have hl : 0 < L.length := List.length_pos_iff.2 hL
        refine Or.inr ⟨g, h1, ⟨hP, hz, fun q hq c e => ?_⟩, hz, hc⟩
        obtain ⟨t', x'', hv⟩ := (hr 0 hl).iface'
        rw [hc 0 hl, hv] at hq
        cases hq
        cases e
/-- What can be written. -/
inductive WN : Nd → Prop where
  | var (s : ByteArray) (n f t a : Nat) (h : s.size ≤ 1000) : WN (.mk 16 s n [] f t a)
  | fn (s : ByteArray) (n : Nat) (x y : Nd) (f t a : Nat) (hx : WN x) (hy : WN y) : WN (.mk 17 s n [x, y] f t a)
  | pr (s : ByteArray) (n : Nat) (x y : Nd) (f t a : Nat) (hx : WN x) (hy : WN y) : WN (.mk 6 s n [x, y] f t a)
  | up (s : ByteArray) (n : Nat) (L : List Nd) (f t a : Nat) (h : s.size ≤ 1000) (hl : L.length ≤ 1001) (hL : ∀ i (h : i < L.length), WN L[i]) : WN (.mk 2 s n L f t a)
section
variable {w : World} {nb mb : Nat}
set_option maxRecDepth 100000 in
set_option maxHeartbeats 1000000 in
theorem made_fn (g sc : Nat) (va vb : Value) (ta tb : TypeId) (xa xb : Value) (ha : va = .iface ta xa) (hb : vb = .iface tb xb) (h0 : w.cell? ⟨g, 0, none⟩ = some va) (h1 : w.cell? ⟨g, 1, none⟩ = some vb) : Calls Tryz.prog 67 #[.string ⟨#[45, 62]⟩, .slice (some ⟨g, 0, none⟩) 2 sc] w fun e w' => e = .returned (.iface 140 (.agg #[.int .i64 0, .int .i64 0, va, vb])) ∧ Below w.heap.size w w' := by
  subst ha hb
  go_enter Tryz.func67, Tryz.ntmps67
  go_wp2_with fail
  go_region
  all_goals (
    go_wp2_with fail
    go_ret
    exact ⟨rfl, (Below.refl _ _).drew⟩)
set_option maxRecDepth 100000 in
set_option maxHeartbeats 1000000 in
theorem made_pr (g sc : Nat) (va vb : Value) (ta tb : TypeId) (xa xb : Value) (ha : va = .iface ta xa) (hb : vb = .iface tb xb) (h0 : w.cell? ⟨g, 0, none⟩ = some va) (h1 : w.cell? ⟨g, 1, none⟩ = some vb) : Calls Tryz.prog 67 #[.string ⟨#[44]⟩, .slice (some ⟨g, 0, none⟩) 2 sc] w fun e w' => e = .returned (.iface 142 (.agg #[.int .i64 0, .int .i64 0, va, vb])) ∧ Below w.heap.size w w' := by
  subst ha hb
  go_enter Tryz.func67, Tryz.ntmps67
  go_wp2_with fail
  go_region
  all_goals (
    go_wp2_with fail
    go_ret
    exact ⟨rfl, (Below.refl _ _).drew⟩)
set_option maxRecDepth 100000 in
set_option maxHeartbeats 1000000 in
theorem made_up (c : ByteArray) (hu : UpN c) (sa : Option Addr) (n sc : Nat) : Calls Tryz.prog 67 #[.string c, .slice sa n sc] w fun e w' => e = .returned (.iface 145 (.agg #[.int .i64 0, .int .i64 0, .int .i64 0, .int .i64 0, .string c, .slice sa n sc])) ∧ Below w.heap.size w w' := by
  have h1 : (c.toList == [45, 62]) = false := by rw [← Bool.not_eq_true, beq_iff_eq]; exact upN_ne hu 45 [62] (by decide)
  have h2 : (c.toList == [44]) = false := by rw [← Bool.not_eq_true, beq_iff_eq]; exact upN_ne hu 44 [] (by decide)
  go_enter Tryz.func67, Tryz.ntmps67
  go_wp2_with fail
  go_ret
  exact ⟨rfl, Below.refl _ _⟩
def SpPost (nb mb : Nat) (nd : Nd) (a' : List Nat) (w : World) (e : Ending) (w' : World) : Prop :=
  ∃ u, e = .returned u ∧ PT w' (fun b => w.heap.size ≤ b) nd u ∧ NB w' nb mb a' ∧ Fr (fun b => b = mb) w w'
def SpC (T : Ty) : Prop := ∀ (w : World) (nb mb : Nat) (a : List Nat) (P : Nat → Prop) (v : Value), TyV w P T v → NB w nb mb a → (∀ b, P b → b ≠ mb) → Wf T → (vars a T).length ≤ 48 → sizeL [T] ≤ 1000 →
  Calls Tryz.prog 43 #[v, nbV nb] w (SpPost nb mb (sp a T) (vars a T) w)
theorem taT_VV (a : Int) (w : World) : (Instr.typeAssert (.iface 79 (.int .i64 a)) 55 79 true).run Tryz.prog w = .ok (.tuple #[.int .i64 a, .bool true]) w := by kernel_rfl
theorem taT_MV (a b : Value) (w : World) : (Instr.typeAssert (.iface 148 (.agg #[a, b])) 55 79 true).run Tryz.prog w = .ok (.tuple #[.int .i64 0, .bool false]) w := by kernel_rfl
set_option maxRecDepth 100000 in
set_option maxHeartbeats 1000000 in
theorem sp_var (n : Nat) : SpC (.var n) := by
  intro w nb mb a P v h hN hP hW hv hs
  cases h
  simp only [vars] at hv
  have h1 := taT_VV
  have HC := number_C' hN n hv
  go_enter Tryz.func43, Tryz.ntmps43
  go_wp2_with fail
  refine HC.mono ?_
  rintro e w1 ⟨rfl, N1, F1⟩
  go_wp2_with fail
  go_ret
  refine ⟨_, rfl, ?_, N1, F1⟩
  have hq : Quo (bs (39 :: vT ((Un.seen a n).idxOf n))) := ⟨_, toList_mk _⟩
  have ht : bs (vT ((Un.seen a n).idxOf n)) = (bs (39 :: vT ((Un.seen a n).idxOf n))).extract 1 (bs (39 :: vT ((Un.seen a n).idxOf n))).size := by
    apply toList_inj
    have := tl_list (s := bs (39 :: vT ((Un.seen a n).idxOf n))) (toList_mk _)
    unfold tl at this
    rw [this]
    exact toList_mk _
  rw [ht]
  exact .var _ _ _ _ _ _ _ hq
/-- What holds ahead of each round of spelled. -/
def SpRel (nb mb : Nat) (a : List Nat) (L : List Ty) (w : World) (pb : Nat) (sb : Nat) (M : Array Value) (gk : Nat) (v : Value) (wr : World) : Prop :=
  ∃ (j : Nat) (C : Array Value), Hid (gk = L.length - j) ∧ j ≤ L.length ∧ v = .int .i64 (j : Int) ∧ NB wr nb mb (varsL a (L.take j)) ∧ Fr (fun b => b = mb) w wr ∧ Bx wr pb C ∧ Bx wr sb M ∧ Hid (C.size = L.length) ∧
    Hid (∀ i (h : i < (spL a (L.take j)).length), ∃ u, C[i]? = some u ∧ PT wr (fun b => pb < b ∧ b < wr.heap.size) (spL a (L.take j))[i] u)
end
end Go.Proofs.YteneoapickhpdaaGreatDoor
namespace Go.Proofs.YteneoapickhpdaaGreatDoor
open Go Go.RowKit Go.ChangeMaps Un
section
variable {w : World} {nb mb : Nat}
theorem NB.lt {L : List Nat} (h : NB w nb mb L) : nb < w.heap.size ∧ mb < w.heap.size := ⟨h.bk.z, h.mp.lt⟩
theorem NB.set {L : List Nat} (h : NB w nb mb L) {b : Nat} (h1 : b ≠ nb) (h2 : b ≠ mb) (j : Nat) (v : Value) : NB (w.setCell ⟨b, j, none⟩ v) nb mb L :=
  ⟨h.bk.setO'' h1.symm j v, h.mp.setC h2.symm j v, h.ne⟩
set_option maxRecDepth 100000 in
set_option maxHeartbeats 2000000 in
theorem sp_con (c : ByteArray) (L : List Ty) (IH : ∀ i (h : i < L.length), SpC L[i]) : SpC (.con c L) := by
  intro w nb mb a P v h hN hP hW hv hs
  cases h with
  | con c L sa sc vs hc hrow hr =>
  obtain ⟨i0, hi0, hz0, hz1, hz2⟩ := info_parts treeInfo
  have hsz : sizeL L ≤ 1000 := by simp [sizeL, size] at hs; omega
  have hLl := len_sizeL L
  have hmk := run_make1 (by_ := 16) treesUnder hi0 hz0 rfl hz1 hz2 (by decide) L.length (by omega)
  obtain ⟨hok, hWL⟩ := hW
  rw [WfL_iff] at hWL
  simp only [vars] at hv
  have h1 := taT_MV
  have h2 := taT_MM
  have hlt := hN.lt
  have HN := hide hN
  have HR := hide hr
  have HI := hide IH
  have HW := hide hrow
  have Hok := hide hok
  clear hN hr IH hrow hok
  have hb0 : Below w.heap.size w ((w.alloc (.cells #[.string (pn c), .slice sa L.length sc] 148)).alloc (.cells (Array.replicate L.length .nilIface) 82)) := ((Below.refl _ _).alloc (Nat.le_refl _) _).alloc (by simp) _
  have XM := hide ((Bx.new w #[.string (pn c), .slice sa L.length sc] 148).alloc (.cells (Array.replicate L.length .nilIface) 82))
  obtain ⟨cm, fm, zm⟩ := unhide XM
  go_enter Tryz.func43, Tryz.ntmps43
  go_wp2_with fail
  go_loopg [29] L.length (fun gk v wr => SpRel nb mb a L w (w.heap.size + 1) w.heap.size #[.string (pn c), .slice sa L.length sc] gk v wr)
  case atStart =>
    have BP : Bx ((w.alloc (.cells #[.string (pn c), .slice sa L.length sc] 148)).alloc (.cells (Array.replicate L.length .nilIface) 82)) (w.heap.size + 1) (Array.replicate L.length .nilIface) := by have := Bx.new (w.alloc (.cells #[.string (pn c), .slice sa L.length sc] 148)) (Array.replicate L.length .nilIface) 82; simpa using this
    refine ⟨0, Array.replicate L.length .nilIface, hide (by simp), Nat.zero_le _, rfl, ?_, Fr.of hb0, BP, unhide XM, hide (by simp), hide (fun i hi => absurd hi (by simp [spL]))⟩
    simpa [varsL] using (unhide HN).bel hb0
  case round =>
    obtain ⟨j, C, hgk, hj, rfl, N1, F1, B1, BM, hC, hT⟩ := hrel
    have zw := F1.size
    have n1 := N1.lt
    have zpb := B1.z
    by_cases hjl : j < L.length
    · have hd : (j : Int) < (L.length : Int) := by omega
      obtain ⟨g, rfl, hg, hgz, hcell⟩ : ∃ g, sa = some ⟨g, 0, none⟩ ∧ P g ∧ g < w.heap.size ∧ ∀ i, i < L.length → w.cell? ⟨g, i, none⟩ = some (vs i) := by
        rcases unhide HW with h0 | h0
        · subst h0; simp at hjl
        · exact h0
      have cg : wr.cell? ⟨g, j, none⟩ = some (vs j) := (World.cell?_of_block (a := ⟨g, j, none⟩) (F1.block g hgz (hP g hg))).trans (hcell j hjl)
      have TJ := (unhide HR j hjl).fr F1 (fun b p _ => hP b p)
      obtain ⟨tv, xv, hv'⟩ := TJ.iface
      obtain ⟨mt1, mt2⟩ := spL_take L a j hjl
      have hnj : (vars (varsL a (L.take j)) L[j]).length ≤ 48 := by rw [← mt2]; exact Nat.le_trans (varsL_take_le L a (j + 1)) hv
      have hsj : sizeL [L[j]] ≤ 1000 := by
        have e1 := sizeL_takeQ L j hjl
        have e2 := sizeL_take_le L (j + 1)
        simp [sizeL]; omega
      have HC := unhide HI j hjl wr nb mb _ P (vs j) TJ N1 hP (hWL _ (List.getElem_mem hjl)) hnj hsj
      rw [hv'] at cg HC
      go_wp2_with fail
      refine HC.mono ?_
      rintro e w1 ⟨u, rfl, hU, N2, F2⟩
      obtain ⟨tu, xu, rfl⟩ := hU.iface'
      have hpm : w.heap.size + 1 ≠ mb := by omega
      have B2 := B1.fr F2 hpm
      have hjC : j < C.size := by rw [unhide hC]; exact hjl
      have cj : w1.cell? ⟨w.heap.size + 1, j, none⟩ = some C[j] := (B2.c j).trans (Array.getElem?_eq_getElem hjC)
      have fj := B2.f j
      have B3 := hide (B2.setS' j (.iface tu (.agg xu)) (C.setIfInBounds j (.iface tu (.agg xu))) rfl hjC)
      have BM2 := hide ((BM.fr F2 (show ¬ w.heap.size = mb by omega)).setO'' (show w.heap.size ≠ w.heap.size + 1 by omega) j (.iface tu (.agg xu)))
      have HU := hide hU
      have HN2 := hide N2
      have HF2 := hide (F1.trans F2)
      have HF := hide F2
      have z2 := F2.size
      clear HC hU N2 F2 B2 cg TJ
      go_wp2_with fail
      go_roundg (L.length - (j + 1))
      case measure => rw [unhide hgk]; omega
      case rel =>
        have lenT : (spL a (L.take j)).length = j := by rw [spL_len]; simp; omega
        refine ⟨j + 1, C.setIfInBounds j (.iface tu (.agg xu)), hide rfl, by omega, by go_num, ?_, ?_, unhide B3, unhide BM2, hide (by simp; exact unhide hC), hide (fun i hi => ?_)⟩
        · rw [mt2]
          exact (unhide HN2).set (by omega) (by omega) j _
        · exact (unhide HF2).set (Or.inr (by omega)) j _
        · have hst : ∀ b, w.heap.size + 1 < b → b < w1.heap.size → (w1.setCell ⟨w.heap.size + 1, j, none⟩ (.iface tu (.agg xu))).heap[b]? = w1.heap[b]? := fun b hb _ => Below.heap_setCell _ _ _ _ (by show b ≠ w.heap.size + 1; omega)
          have hss : (w1.setCell ⟨w.heap.size + 1, j, none⟩ (.iface tu (.agg xu))).heap.size = w1.heap.size := by simp [World.setCell]
          have hi' : i < j + 1 := by rw [mt1] at hi; simp [lenT] at hi; omega
          by_cases e : i = j
          · subst e
            refine ⟨.iface tu (.agg xu), by simp [hjC], ?_⟩
            have e1 : (spL a (L.take (i + 1)))[i]'hi = sp (varsL a (L.take i)) L[i] := by
              have : (spL a (L.take (i + 1)))[i]? = some (sp (varsL a (L.take i)) L[i]) := by rw [mt1, List.getElem?_append_right (by omega)]; simp [lenT]
              rw [List.getElem?_eq_getElem hi] at this
              exact Option.some.inj this
            rw [e1]
            exact (unhide HU).by.move (by omega) (fun b p z => hst b (by have : wr.heap.size ≤ b := p.1; omega) z) (fun b p z => ⟨by have : wr.heap.size ≤ b := p.1; omega, by omega⟩)
          · have hi2 : i < (spL a (L.take j)).length := by omega
            obtain ⟨u', hu1, hu2⟩ := unhide hT i hi2
            have e1 : (spL a (L.take (j + 1)))[i]'hi = (spL a (L.take j))[i]'hi2 := by
              have : (spL a (L.take (j + 1)))[i]? = some ((spL a (L.take j))[i]'hi2) := by rw [mt1, List.getElem?_append_left hi2, List.getElem?_eq_getElem hi2]
              rw [List.getElem?_eq_getElem hi] at this
              exact Option.some.inj this
            refine ⟨u', by rw [Array.getElem?_setIfInBounds_ne (by omega)]; exact hu1, ?_⟩
            rw [e1]
            have h3 := hu2.fr (unhide HF) (fun b p _ q => by subst q; omega)
            exact h3.move (by omega) (fun b p z => hst b p.1 z) (fun b p z => ⟨p.1, by omega⟩)
    · have hd : decide ((j : Int) < (L.length : Int)) = false := by simp; omega
      have ej : j = L.length := by omega
      subst ej
      rw [List.take_length] at N1 hT
      obtain ⟨cw, fw, zw'⟩ := BM
      have hsl := spL_len L a
      have hCs : C.size = L.length := unhide hC
      rcases hc with rfl | rfl | hu
      · have h2L : L.length = 2 := (unhide Hok).2 (Or.inl rfl)
        obtain ⟨u0, hu0, hp0⟩ := unhide hT 0 (by omega)
        obtain ⟨u1, hu1, hp1⟩ := unhide hT 1 (by omega)
        obtain ⟨t0, x0, rfl⟩ := hp0.iface'
        obtain ⟨t1, x1, rfl⟩ := hp1.iface'
        have HC := made_fn (w := wr) (w.heap.size + 1) L.length (.iface t0 (.agg x0)) (.iface t1 (.agg x1)) t0 t1 (.agg x0) (.agg x1) rfl rfl ((B1.c 0).trans hu0) ((B1.c 1).trans hu1)
        rw [pn_fn] at cw
        rw [h2L] at HC
        go_wp2_with fail
        rw [h2L]
        refine HC.mono ?_
        rintro e w9 ⟨rfl, hb9⟩
        go_wp2_with fail
        go_ret
        refine ⟨_, rfl, ?_, N1.bel hb9, F1.trans (Fr.of hb9)⟩
        have esp : sp a (.con nFn L) = .mk 17 nFn 0 [(spL a L)[0]'(by omega), (spL a L)[1]'(by omega)] 0 0 0 := by
          have hk : kd nFn = 17 := by unfold kd; rw [if_pos ((isF_iff nFn).2 rfl)]
          simp only [sp, hk]
          congr 1
          apply List.ext_getElem
          · simp; omega
          · intro i h1 h2
            have : i = 0 ∨ i = 1 := by simp at h2; omega
            rcases this with rfl | rfl <;> rfl
        rw [esp]
        exact .fn _ _ _ _ _ _ _ _ _ _ _ ((hp0.bel hb9).wide fun b p => by show w.heap.size ≤ b; omega) ((hp1.bel hb9).wide fun b p => by show w.heap.size ≤ b; omega)
      · have h2L : L.length = 2 := (unhide Hok).2 (Or.inr rfl)
        obtain ⟨u0, hu0, hp0⟩ := unhide hT 0 (by omega)
        obtain ⟨u1, hu1, hp1⟩ := unhide hT 1 (by omega)
        obtain ⟨t0, x0, rfl⟩ := hp0.iface'
        obtain ⟨t1, x1, rfl⟩ := hp1.iface'
        have HC := made_pr (w := wr) (w.heap.size + 1) L.length (.iface t0 (.agg x0)) (.iface t1 (.agg x1)) t0 t1 (.agg x0) (.agg x1) rfl rfl ((B1.c 0).trans hu0) ((B1.c 1).trans hu1)
        rw [pn_pr] at cw
        rw [h2L] at HC
        go_wp2_with fail
        rw [h2L]
        refine HC.mono ?_
        rintro e w9 ⟨rfl, hb9⟩
        go_wp2_with fail
        go_ret
        refine ⟨_, rfl, ?_, N1.bel hb9, F1.trans (Fr.of hb9)⟩
        have esp : sp a (.con nPr L) = .mk 6 nPr 0 [(spL a L)[0]'(by omega), (spL a L)[1]'(by omega)] 0 0 0 := by
          have hne : ¬ nPr = nFn := by intro e; have := congrArg ByteArray.toList e; rw [show nPr.toList = [44] from toList_mk [44], show nFn.toList = [62] from toList_mk [62]] at this; simp at this
          have hk : kd nPr = 6 := by unfold kd; rw [if_neg (fun q => hne ((isF_iff nPr).1 q)), if_pos ((isP_iff nPr).2 rfl)]
          simp only [sp, hk]
          congr 1
          apply List.ext_getElem
          · simp; omega
          · intro i h1 h2
            have : i = 0 ∨ i = 1 := by simp at h2; omega
            rcases this with rfl | rfl <;> rfl
        rw [esp]
        exact .pr _ _ _ _ _ _ _ _ _ _ _ ((hp0.bel hb9).wide fun b p => by show w.heap.size ≤ b; omega) ((hp1.bel hb9).wide fun b p => by show w.heap.size ≤ b; omega)
      · have HC := made_up (w := wr) c hu (some ⟨w.heap.size + 1, 0, none⟩) L.length L.length
        rw [pn_up hu] at cw
        go_wp2_with fail
        refine HC.mono ?_
        rintro e w9 ⟨rfl, hb9⟩
        go_wp2_with fail
        go_ret
        refine ⟨_, rfl, ?_, N1.bel hb9, F1.trans (Fr.of hb9)⟩
        have hk : kd c = 2 := by
          unfold kd
          rw [if_neg (fun q => upN_ne hu 62 [] (by decide) (by rw [(isF_iff c).1 q]; exact toList_mk [62])), if_neg (fun q => upN_ne hu 44 [] (by decide) (by rw [(isP_iff c).1 q]; exact toList_mk [44]))]
        simp only [sp, hk]
        rw [← hsl]
        refine .up c 0 (spL a L) 0 0 0 0 0 0 0 _ _ (fun i => C.getD i .nilIface) hu (Or.inr ⟨w.heap.size + 1, rfl, by show w.heap.size ≤ w.heap.size + 1; omega, Nat.lt_of_lt_of_le B1.z hb9.size, fun i hi => ?_⟩) (fun i hi => ?_)
        · obtain ⟨u, hu', _⟩ := unhide hT i hi
          rw [World.cell?_of_block (a := ⟨w.heap.size + 1, i, none⟩) (hb9.block _ B1.z), B1.c i, hu']
          simp [Array.getD_eq_getD_getElem?, hu']
        · obtain ⟨u, hu', hty⟩ := unhide hT i hi
          have : C.getD i .nilIface = u := by simp [Array.getD_eq_getD_getElem?, hu']
          rw [this]
          exact (hty.bel hb9).wide fun b p => by show w.heap.size ≤ b; omega
theorem spelled_C : ∀ (T : Ty), SpC T
  | .var n => sp_var n
  | .con c L => sp_con c L fun i h => spelled_C L[i]
termination_by T => SizeOf.sizeOf T
decreasing_by
  have h2 := List.sizeOf_lt_of_mem (List.getElem_mem h)
  simp
  omega
end
end Go.Proofs.YteneoapickhpdaaGreatDoor
namespace Go.Proofs.YteneoapickhpdaaGreatDoor
open Go Go.RowKit Go.ChangeMaps Un
theorem vT_len (i : Nat) (h : i ≤ 900) : (bs (39 :: vT i)).size ≤ 1000 := by
  rw [bs_size]
  have := dec_len i
  simp [vT]
  omega
theorem two_of {α : Type} {l : List α} (h : l.length = 2) : ∃ x y, l = [x, y] := by
  match l, h with
  | [x, y], _ => exact ⟨x, y, rfl⟩
theorem spL_app : ∀ (x y : List Ty) (a : List Nat), spL a (x ++ y) = spL a x ++ spL (varsL a x) y
  | [], y, a => rfl
  | t :: x, y, a => by simp [spL, varsL, spL_app x y]
theorem spL_at (l : List Ty) (a : List Nat) (i : Nat) (h : i < l.length) : (spL a l)[i]'(by rw [spL_len]; exact h) = sp (varsL a (l.take i)) l[i] := by
  have h1 := (spL_take l a i h).1
  have h2 : (spL a l)[i]? = (spL a (l.take (i + 1)))[i]? := by
    have e : spL a l = spL a (l.take (i + 1)) ++ spL (varsL a (l.take (i + 1))) (l.drop (i + 1)) := by
      rw [← spL_app, List.take_append_drop]
    rw [e, List.getElem?_append_left (by rw [spL_len]; simp; omega)]
  rw [h1, List.getElem?_append_right (by rw [spL_len]; simp; omega), spL_len] at h2
  rw [List.getElem?_eq_getElem (by rw [spL_len]; exact h)] at h2
  have h3 : i - (l.take i).length = 0 := by simp; omega
  rw [h3] at h2
  exact Option.some.inj h2
theorem WN.sp {w : World} {P : Nat → Prop} {T : Ty} {v : Value} (h : TyV w P T v) : Wf T → size T ≤ 900 → ∀ a, (vars a T).length ≤ 900 → WN (sp a T) := by
  induction h with
  | var n =>
    intro _ _ a hv
    simp only [vars] at hv
    refine .var _ _ _ _ _ (vT_len _ ?_)
    have : (Un.seen a n).idxOf n < (Un.seen a n).length := List.idxOf_lt_length_iff.2 (by unfold Un.seen; split <;> simp [*])
    omega
  | con c L sa sc vs hc hrow hr ih =>
    intro hW hs a hv
    obtain ⟨hok, hWL⟩ := hW
    rw [WfL_iff] at hWL
    simp only [size] at hs
    simp only [vars] at hv
    have key : ∀ i (h : i < L.length), WN ((spL a L)[i]'(by rw [spL_len]; exact h)) := fun i hi => by
      rw [spL_at L a i hi]
      have e1 := sizeL_takeQ L i hi
      have e2 := sizeL_take_le L (i + 1)
      refine ih i hi (hWL _ (List.getElem_mem hi)) (by omega) _ ?_
      rw [← (spL_take L a i hi).2]
      exact Nat.le_trans (varsL_take_le L a (i + 1)) hv
    have hl := len_sizeL L
    rcases hc with rfl | rfl | hu
    · have h2 : (spL a L).length = 2 := by rw [spL_len]; exact hok.2 (Or.inl rfl)
      have hL2 : L.length = 2 := hok.2 (Or.inl rfl)
      obtain ⟨x, y, e⟩ := two_of h2
      have hk : kd nFn = 17 := by unfold kd; rw [if_pos ((isF_iff nFn).2 rfl)]
      simp only [Go.Proofs.YteneoapickhpdaaGreatDoor.sp, hk]
      have k0 := key 0 (by omega)
      have k1 := key 1 (by omega)
      simp only [e] at k0 k1 ⊢
      exact .fn _ _ _ _ _ _ _ k0 k1
    · have h2 : (spL a L).length = 2 := by rw [spL_len]; exact hok.2 (Or.inr rfl)
      have hL2 : L.length = 2 := hok.2 (Or.inr rfl)
      obtain ⟨x, y, e⟩ := two_of h2
      have hne : ¬ nPr = nFn := by intro e; have := congrArg ByteArray.toList e; rw [show nPr.toList = [44] from toList_mk [44], show nFn.toList = [62] from toList_mk [62]] at this; simp at this
      have hk : kd nPr = 6 := by unfold kd; rw [if_neg (fun q => hne ((isF_iff nPr).1 q)), if_pos ((isP_iff nPr).2 rfl)]
      simp only [Go.Proofs.YteneoapickhpdaaGreatDoor.sp, hk]
      have k0 := key 0 (by omega)
      have k1 := key 1 (by omega)
      simp only [e] at k0 k1 ⊢
      exact .pr _ _ _ _ _ _ _ k0 k1
    · have hk : kd c = 2 := by
        unfold kd
        rw [if_neg (fun q => upN_ne hu 62 [] (by decide) (by rw [(isF_iff c).1 q]; exact toList_mk [62])), if_neg (fun q => upN_ne hu 44 [] (by decide) (by rw [(isP_iff c).1 q]; exact toList_mk [44]))]
      simp only [Go.Proofs.YteneoapickhpdaaGreatDoor.sp, hk]
      refine .up _ _ _ _ _ _ hok.1 (by rw [spL_len]; omega) (fun i hi => key i (by rw [spL_len] at hi; exact hi))
theorem TyV.wr_ne {w : World} {P : Nat → Prop} {T : Ty} {v : Value} (h : TyV w P T v) (L : List Nat) : wr dec L T 0 ≠ [] := by
  cases h with
  | var n => simp [wr]
  | con c l sa sc vs hc hrow hr =>
    simp only [wr]
    unfold joined
    split
    · unfold Un.par; simp
    · split
      · simp
      · rename_i h1 h2
        rcases hc with rfl | rfl | hu
        · exact absurd rfl h1
        · exact absurd rfl h2
        · obtain ⟨x, r, e, _⟩ := hu
          unfold Un.par
          simp [e]
section
variable {w : World}
set_option maxRecDepth 100000 in
set_option maxHeartbeats 1000000 in
theorem penOp_C (p : Addr) (x y z : Int) : Calls Tryz.prog 79 #[.pointer (some p), .int .i64 x, .int .i64 y, .int .i64 z] w fun e w' => (∃ v, e = .returned v) ∧ Below w.heap.size w w' := by
  have hmf : ∀ (fn : Fn) (first cap : Array Value) (w : World), (Instr.makeFunc fn first cap).run Tryz.prog w = .ok (.func fn first cap) w := fun _ _ _ _ => rfl
  go_enter Tryz.func79, Tryz.ntmps79
  go_wp2_with fail
  go_ret
  exact ⟨⟨_, rfl⟩, ((((Below.refl _ _).alloc (Nat.le_refl _) _).alloc (by simp) _).alloc (by simp; omega) _).alloc (by simp; omega) _⟩
set_option maxRecDepth 100000 in
set_option maxHeartbeats 1000000 in
theorem penRules_C (p : Addr) : Calls Tryz.prog 48 #[.pointer (some p)] w (RulesPost w) := by
  have H := hide (Ma.new (w := w))
  have HB := hide ((Below.refl w.heap.size w).alloc (Nat.le_refl _) (.map #[] 0))
  have hmm := @run_makeMap Tryz.prog
  go_enter Tryz.func48, Tryz.ntmps48
  go_wp2_with (first | (refine wpList_put _ rfl _ _ _ _ (Or.inl rfl) (KL.str Tryz.underlying9) Tryz.underlying75 _ _ rfl (unhide H) _ _ rfl rfl trivial (fun _ _ => trivial) ?_; clear H; intro w' H' O'; have H := hide H'; have HB := hide (One.below (unhide HB) O' (by exact Nat.le_refl _)); clear H' O') | (go_at_call 79; refine (penOp_C _ _ _ _).mono ?_; rintro e w' ⟨⟨v, rfl⟩, hb⟩; have H := hide ((unhide H).below hb); have HB := hide ((unhide HB).trans (hb.mono (unhide HB).size)); clear hb))
  go_ret
  exact ⟨_, rfl, by simp, unhide HB⟩
set_option maxRecDepth 100000 in
set_option maxHeartbeats 1000000 in
theorem newPen_C : Calls Tryz.prog 27 #[] w fun e w' => e = .returned (.pointer (some ⟨w.heap.size, 0, none⟩)) ∧ (∃ mv, PN w' w.heap.size w.heap.size (.slice none 0 0) [] ⟨#[]⟩ mv) ∧ Below w.heap.size w w' := by
  have hb0 : Below w.heap.size w (w.alloc (.cells #[.pointer none, .slice none 0 0, .string ⟨#[]⟩, .map none] 77)) := (Below.refl _ _).alloc (Nat.le_refl _) _
  have h0 : (w.alloc (.cells #[.pointer none, .slice none 0 0, .string ⟨#[]⟩, .map none] 77)).heap[w.heap.size]? = some (.cells #[.pointer none, .slice none 0 0, .string ⟨#[]⟩, .map none] 77 (0, 0)) := (MapKept.heap_alloc w _).1
  have H0 := hide h0
  clear h0
  go_enter Tryz.func27, Tryz.ntmps27
  go_wp2_with (go_at_call 48; refine (penRules_C _).mono ?_; rintro e w1 ⟨b, rfl, hle, hb⟩; have h1 : w1.heap[w.heap.size]? = some (.cells #[.pointer none, .slice none 0 0, .string ⟨#[]⟩, .map none] 77 (0, 0)) := (hb.block _ (by simp)).trans (unhide H0); have c3 : w1.cell? ⟨w.heap.size, 3, none⟩ = some (.map none) := (by simp [World.cell?, h1]); have f3 : w1.frozen? ⟨w.heap.size, 3, none⟩ = false := (by simp [World.frozen?, h1]); have H1 := hide h1; have HB1 := hide (hb0.trans (hb.mono hb0.size)); clear h1 hb)
  go_ret
  have hz := (unhide HB1).size
  exact ⟨rfl, ⟨.map (some b), ⟨_, (setCell_heap (unhide H1) 3 _).trans (by simp), Or.inl rfl⟩, ⟨rfl, Or.inl ⟨rfl, rfl⟩⟩, fun _ => rfl, by simp [World.setCell]; exact hz⟩, (unhide HB1).setCell (p := ⟨w.heap.size, 3, none⟩) (Nat.le_refl _) _⟩
end
end Go.Proofs.YteneoapickhpdaaGreatDoor
namespace Go.Proofs.YteneoapickhpdaaGreatDoor
open Go Go.RowKit Go.ChangeMaps Un
def byS : Option (ByteArray × List Nat) → ByteArray
  | none => ⟨#[]⟩
  | some (c, _) => pn c
abbrev nA (n : Nat) : Value := .pointer (some ⟨n, 0, none⟩)
def nP : Option Nat → Value
  | none => .pointer none
  | some m => nA m
def slN : Option (ByteArray × List Nat) → Nat
  | none => 0
  | some (_, l) => l.length
def PartsAt (w : World) (ds : List Nat) (sa : Option Addr) : Option (ByteArray × List Nat) → Prop
  | none => True
  | some (c, l) => CN c ∧ l.length ≤ 1001 ∧ (∀ m ∈ l, m ∈ ds) ∧ (l = [] ∨ ∃ g, sa = some ⟨g, 0, none⟩ ∧ ¬ g ∈ ds ∧ g < w.heap.size ∧ ∀ i (h : i < l.length), w.cell? ⟨g, i, none⟩ = some (nA l[i]))
/-- A node in memory. -/
def NodeAt (w : World) (ds : List Nat) (str : Str) (nx : Nx) (vr : Nat → Nat) (ly : Nat → Option Addr × Nat) (n : Nat) : Prop :=
  w.heap[n]? = some (.cells #[nP (nx n), .int .i64 0, .int .i64 (vr n : Int), .string (byS (str n)), .slice (ly n).1 (slN (str n)) (ly n).2] 158 (0, 0)) ∧ PartsAt w ds (ly n).1 (str n) ∧ ∀ m, nx n = some m → m ∈ ds
/-- Nodes in memory. -/
structure GN (w : World) (ds : List Nat) (str : Str) (nx : Nx) (vr : Nat → Nat) (ly : Nat → Option Addr × Nat) : Prop where
  nd : ∀ n, n ∈ ds → NodeAt w ds str nx vr ly n
  out : ∀ n, ¬ n ∈ ds → nx n = none ∧ str n = none
  hd : ∀ n, n ∈ ds → ∃ h, Hd nx n h
/-- How far it is to the head. -/
inductive HdL (nx : Nx) : Nat → Nat → Nat → Prop where
  | here {n : Nat} : nx n = none → HdL nx n n 0
  | step {n m h k : Nat} : nx n = some m → HdL nx m h k → HdL nx n h (k + 1)
theorem Hd.len {nx : Nx} {n h : Nat} (k : Hd nx n h) : ∃ j, HdL nx n h j := by
  induction k with
  | here e => exact ⟨0, .here e⟩
  | step e _ ih => obtain ⟨j, hj⟩ := ih; exact ⟨j + 1, .step e hj⟩
theorem HdL.hd {nx : Nx} {n h j : Nat} (k : HdL nx n h j) : Hd nx n h := by
  induction k with
  | here e => exact .here e
  | step e _ ih => exact .step e ih
theorem HdL.one {nx : Nx} {n h j h' j' : Nat} (k : HdL nx n h j) (k' : HdL nx n h' j') : j = j' := by
  induction k generalizing j' with
  | here e => cases k' with
    | here => rfl
    | step e' _ => rw [e] at e'; cases e'
  | step e _ ih => cases k' with
    | here e' => rw [e] at e'; cases e'
    | step e' k' => rw [e] at e'; cases e'; rw [ih k']
theorem HdL.upd {nx : Nx} {x h j : Nat} (k : HdL nx x h j) {n hn jn : Nat} (kn : HdL nx n hn jn) (hlt : j < jn) (v : Option Nat) : HdL (upd nx n v) x h j := by
  induction k with
  | @here x e =>
    have : x ≠ n := fun q => by subst q; have := (HdL.here e).one kn; omega
    exact .here (by simpa [Un.upd, this] using e)
  | @step x m h k e kk ih =>
    have : x ≠ n := fun q => by subst q; have := (HdL.step e kk).one kn; omega
    exact .step (m := m) (by simpa [Un.upd, this] using e) (ih (by omega))
/-- What stays where ways get shorter. -/
structure Eqv (str : Str) (nx nx' : Nx) : Prop where
  sol : ∀ V, Sol str nx' V ↔ Sol str nx V
  clo : ∀ P, Clo str nx P → Clo str nx' P
  eqs : ∀ P E, Un.Eq nx' P E → Un.Eq nx P E
  hds : ∀ x h, Hd nx x h → Hd nx' x h
  non : ∀ n, nx' n = none ↔ nx n = none
theorem Eqv.refl (str : Str) (nx : Nx) : Eqv str nx nx := ⟨fun _ => Iff.rfl, fun _ h => h, fun _ _ h => h, fun _ _ h => h, fun _ => Iff.rfl⟩
theorem Eqv.trans {str : Str} {a b c : Nx} (h : Eqv str a b) (k : Eqv str b c) : Eqv str a c :=
  ⟨fun V => (k.sol V).trans (h.sol V), fun P q => k.clo P (h.clo P q), fun P E q => h.eqs P E (k.eqs P E q), fun x y q => k.hds x y (h.hds x y q), fun n => (k.non n).trans (h.non n)⟩
theorem Eqv.short (str : Str) {nx : Nx} {n m k : Nat} (h1 : nx n = some m) (h2 : nx m = some k) (hne : n ≠ m) : Eqv str nx (Un.upd nx n (some k)) :=
  ⟨fun V => Sol.short h1 h2 hne, fun P h => h.short h1 h2 hne, fun P E q => q.of_short h1 h2 hne, fun x h j => j.short h1 h2, fun x => by
    by_cases e : x = n
    · subst e; simp [Un.upd, h1]
    · simp [Un.upd, e]⟩
theorem NodeAt.cells {w : World} {ds : List Nat} {str : Str} {nx : Nx} {vr : Nat → Nat} {ly : Nat → Option Addr × Nat} {n : Nat} (h : NodeAt w ds str nx vr ly n) : w.cell? ⟨n, 0, none⟩ = some (nP (nx n)) ∧ w.frozen? ⟨n, 0, none⟩ = false ∧ w.cell? ⟨n, 3, none⟩ = some (.string (byS (str n))) ∧ w.cell? ⟨n, 2, none⟩ = some (.int .i64 (vr n : Int)) ∧ w.cell? ⟨n, 4, none⟩ = some (.slice (ly n).1 (slN (str n)) (ly n).2) := by
  obtain ⟨h1, _⟩ := h
  exact ⟨by simp [World.cell?, h1], by simp [World.frozen?, h1], by simp [World.cell?, h1], by simp [World.cell?, h1], by simp [World.cell?, h1]⟩
theorem NodeAt.lvl {w : World} {ds : List Nat} {str : Str} {nx : Nx} {vr : Nat → Nat} {ly : Nat → Option Addr × Nat} {n : Nat} (h : NodeAt w ds str nx vr ly n) : w.cell? ⟨n, 1, none⟩ = some (.int .i64 0) := by simp [World.cell?, h.1]
/-- A node's next one is turned. -/
theorem GN.set {w : World} {ds : List Nat} {str : Str} {nx : Nx} {vr : Nat → Nat} {ly : Nat → Option Addr × Nat} (h : GN w ds str nx vr ly) {n k : Nat} (hn : n ∈ ds) (hk : k ∈ ds) (hhd : ∀ x, x ∈ ds → ∃ y, Hd (Un.upd nx n (some k)) x y) : GN (w.setCell ⟨n, 0, none⟩ (nA k)) ds str (Un.upd nx n (some k)) vr ly := by
  refine ⟨fun x hx => ?_, fun x hx => ?_, hhd⟩
  · obtain ⟨h1, h2, h3⟩ := h.nd x hx
    have hp : PartsAt (w.setCell ⟨n, 0, none⟩ (nA k)) ds (ly x).1 (str x) := by
      cases hs : str x with
      | none => trivial
      | some p =>
        obtain ⟨c, l⟩ := p
        rw [hs] at h2
        obtain ⟨p1, p2, p3, p4⟩ := h2
        refine ⟨p1, p2, p3, p4.imp id fun q => ?_⟩
        obtain ⟨g, q1, q2, q3, q4⟩ := q
        refine ⟨g, q1, q2, by simpa [World.setCell] using q3, fun i hi => ?_⟩
        rw [World.cell?_setCell_other _ _ _ _ (by intro e; injection e with e; subst e; exact q2 hn)]
        exact q4 i hi
    by_cases e : x = n
    · subst e
      refine ⟨(setCell_heap h1 0 _).trans (by simp [Un.upd, nP]), hp, fun m hm => ?_⟩
      simp [Un.upd] at hm
      subst hm
      exact hk
    · refine ⟨?_, hp, fun m hm => h3 m (by simpa [Un.upd, e] using hm)⟩
      rw [Below.heap_setCell _ _ _ _ e, h1]
      simp [Un.upd, e]
  · have : x ≠ n := fun e => hx (e ▸ hn)
    simpa [Un.upd, this] using h.out x hx
def HeadPost (ds : List Nat) (str : Str) (nx : Nx) (vr : Nat → Nat) (ly : Nat → Option Addr × Nat) (h : Nat) (w : World) (e : Ending) (w' : World) : Prop :=
  e = .returned (nA h) ∧ ∃ nx', GN w' ds str nx' vr ly ∧ Fr (fun b => b ∈ ds) w w' ∧ Eqv str nx nx' ∧ w'.heap.size = w.heap.size
def HeadRel' (ds : List Nat) (str : Str) (nx : Nx) (vr : Nat → Nat) (ly : Nat → Option Addr × Nat) (h : Nat) (w : World) (gk : Nat) (v : Value) (wr : World) : Prop :=
  ∃ n nx', v = nA n ∧ n ∈ ds ∧ HdL nx' n h gk ∧ GN wr ds str nx' vr ly ∧ Fr (fun b => b ∈ ds) w wr ∧ Eqv str nx nx' ∧ wr.heap.size = w.heap.size
section
variable {w : World} {ds : List Nat} {str : Str} {nx : Nx} {vr : Nat → Nat} {ly : Nat → Option Addr × Nat}
set_option maxRecDepth 100000 in
set_option maxHeartbeats 2000000 in
theorem head_P (hg : GN w ds str nx vr ly) {n h : Nat} (hn : n ∈ ds) (hh : Hd nx n h) : Calls Tryz.prog 58 #[nA n] w (HeadPost ds str nx vr ly h w) := by
  obtain ⟨j0, hj0⟩ := Hd.len hh
  have HG := hide hg
  have HJ := hide hj0
  clear hg hj0 hh
  go_enter Tryz.func58, Tryz.ntmps58
  go_wp2_with fail
  go_loopg [0] j0 (fun gk v wr => HeadRel' ds str nx vr ly h w gk v wr)
  case atStart => exact ⟨n, nx, rfl, hn, unhide HJ, unhide HG, Fr.refl _ _, Eqv.refl _ _, rfl⟩
  case round =>
    clear HG HJ
    obtain ⟨n1, nx1, rfl, hn1, hl1, G1, F1, E1, z1⟩ := hrel
    obtain ⟨c0, f0, _⟩ := (G1.nd n1 hn1).cells
    cases hl1 with
    | here e0 =>
      rw [e0] at c0
      have c0' : wr.cell? ⟨h, 0, none⟩ = some (.pointer none) := c0
      clear c0
      go_wp2_with fail
      go_ret
      exact ⟨rfl, nx1, G1, F1, E1, z1⟩
    | @step _ m _ k e0 hlm =>
      have hm : m ∈ ds := by
        obtain ⟨_, _, h3⟩ := G1.nd n1 hn1
        exact h3 m e0
      have hne : n1 ≠ m := fun q => by subst q; have := (HdL.step e0 hlm).one hlm; omega
      rw [e0] at c0
      have c0' : wr.cell? ⟨n1, 0, none⟩ = some (.pointer (some ⟨m, 0, none⟩)) := c0
      obtain ⟨d0, _⟩ := (G1.nd m hm).cells
      clear c0
      cases hlm with
      | here e1 =>
        rw [e1] at d0
        have d0' : wr.cell? ⟨h, 0, none⟩ = some (.pointer none) := d0
        clear d0
        go_wp2_with fail
        go_roundg 0
        case measure => omega
        case rel => exact ⟨h, nx1, rfl, hm, .here e1, G1, F1, E1, z1⟩
      | @step _ m2 _ k2 e1 hl2 =>
        rw [e1] at d0
        have d0' : wr.cell? ⟨m, 0, none⟩ = some (.pointer (some ⟨m2, 0, none⟩)) := d0
        have hm2 : m2 ∈ ds := by
          obtain ⟨_, _, h3⟩ := G1.nd m hm
          exact h3 m2 e1
        clear d0
        have hnm : ¬ m = n1 := fun q => hne q.symm
        go_wp2_with fail
        go_roundg k2
        case measure => omega
        case rel =>
          refine ⟨m2, Un.upd nx1 n1 (some m2), rfl, hm2, hl2.upd (HdL.step e0 (HdL.step e1 hl2)) (by omega) _, G1.set hn1 hm2 (fun x hx => ?_), F1.set (Or.inl hn1) 0 _, E1.trans (Eqv.short str e0 e1 hne), by simp [World.setCell]; exact z1⟩
          obtain ⟨y, hy⟩ := G1.hd x hx
          exact ⟨y, hy.short e0 e1⟩
def LowPost (ds : List Nat) (str : Str) (nx : Nx) (vr : Nat → Nat) (ly : Nat → Option Addr × Nat) (w : World) (e : Ending) (w' : World) : Prop :=
  e = .returned (.tuple #[]) ∧ ∃ nx', GN w' ds str nx' vr ly ∧ Fr (fun b => b ∈ ds) w w' ∧ Eqv str nx nx' ∧ w'.heap.size = w.heap.size
set_option maxRecDepth 100000 in
set_option maxHeartbeats 2000000 in
/-- Where all is at one level, none is lowered. -/
theorem lower_P (hg : GN w ds str nx vr ly) {n h : Nat} (hn : n ∈ ds) (hh : Hd nx n h) (hm : h ∈ ds) : Calls Tryz.prog 59 #[nA n, .int .i64 0] w (LowPost ds str nx vr ly w) := by
  have HC := hide (head_P hg hn hh)
  clear hg
  go_enter Tryz.func59, Tryz.ntmps59
  go_wp2_with fail
  refine (unhide HC).mono ?_
  rintro e w1 ⟨rfl, nx1, G1, F1, E1, z1⟩
  have c1 := (G1.nd h hm).lvl
  have HG := hide G1
  clear HC G1
  go_wp2_with fail
  go_end0
  exact ⟨rfl, nx1, unhide HG, F1, E1, z1⟩
end
end Go.Proofs.YteneoapickhpdaaGreatDoor

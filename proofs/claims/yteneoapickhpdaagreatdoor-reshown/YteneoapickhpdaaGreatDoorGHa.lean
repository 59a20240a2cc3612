import Derived.Laws.AppendOwn
import Derived.Laws.AppendOwnNone
import Derived.Test.YteneoapickhpdaaGreatDoorGKit
import Derived.Test.YteneoapickhpdaaGreatDoorGSa
import Derived.Test.YteneoapickhpdaaGreatDoorGSh0
import Derived.Test.YteneoapickhpdaaGreatDoorGZf
import Derived.Test.YteneoapickhpdaaGreatDoorGKi
set_option linter.unusedSimpArgs false
set_option linter.unusedVariables false
set_option linter.unusedSectionVars false
namespace Go.Proofs.YteneoapickhpdaaGreatDoor
open Go Go.RowKit Un
theorem strInfo' : (Tryz.prog.info? 9).map (fun i => (i.zero, i.size, i.bytes)) = some (some (.string ⟨#[]⟩), 1, 16) := by kernel_rfl
theorem strsUnder' : Tryz.prog.underlying 40 = some (.slice 9) := by kernel_rfl
abbrev ownS (w : World) (base : Nat) (v : Value) (xs : List Value) : Prop := w.ownsRow base 9 1 v xs.length xs
theorem ownS.new (w : World) (C : List Value) (base : Nat) (hb : base ≤ w.heap.size) (hl : C.length ≤ 1000) (n : Nat) (hn : n = C.length) : ownS (w.alloc (.cells C.toArray 9)) base (.slice (some ⟨w.heap.size, 0, none⟩) n n) C := by
  subst hn
  exact ⟨by simp, .inr ⟨w.heap.size, C.length, C.toArray, rfl, hb, heap_alloc_new w _, Nat.le_refl _, by unfold maxLen; omega, by simp, by simp⟩⟩
/-- One row of texts behind another. -/
theorem app_nv {w : World} {ops : Array Oper} {rest : List Oper} {o : Oper} {a : Act} {Q : Exit → Act → World → Prop} (hgd : o.guard = none) (s x : Operand)
    (ho : o.op = .call { callee := .builtin .append, args := #[s, x], argTypes := #[40, 40] })
    {base b0 : Nat} {v u : Value} {xs news : List Value} (hs : a.eval s = v) (hown : ownS w base v xs) (hx : a.eval x = u) (hn : ownS w b0 u news)
    (h1 : ∀ u ∈ news, u.oneCell' = true) (hz : xs.length + news.length ≤ 1000) (hbase : base ≤ w.heap.size)
    (h : ∀ v' w', ownS w' base v' (xs ++ news) → w.grownBy w' v.ownBlock → wpList Tryz.prog ops Q rest (a.put o.dst v') w') : wpList Tryz.prog ops Q (o :: rest) a w := by
  obtain ⟨i0, hi, hz0, hz1, hz2⟩ := info_parts strInfo'
  have hn' := hn
  obtain ⟨hl, hc⟩ := hn
  rcases hc with ⟨rfl, h0⟩ | ⟨g, cap, cur, rfl, hg, hh, r⟩
  · have e : news = [] := List.eq_nil_of_length_eq_zero h0
    subst e
    refine wpList_append_own_none hgd s x 40 ho base 9 i0 1 strsUnder' hi v xs.length xs hs hown hx ?_
    exact h v w (by simpa using hown) ⟨rfl, rfl, rfl, Nat.le_refl _, fun _ _ _ => rfl⟩
  · refine wpList_append_own w hgd s x 40 ho base 9 i0 _ 1 16 strsUnder' hi hz0 hz1 hz2 rfl (by decide) v xs.length xs hs hown ⟨g, 0, none⟩ news.length cap news hx (by omega) (fun j z e => hn'.cells rfl j z e) h1 (by unfold maxLen; omega) (by omega) hbase ?_
    intro v' w' ho' hg' _
    exact h v' w' (by unfold ownS; rw [List.length_append]; exact ho') hg'
def nmS (L : List UInt8) : List Value := L.map fun c => .string (one1 c)
/-- Names that lie in memory. -/
structure NSv (w : World) (xb : Nat) (v : Value) (L : List UInt8) : Prop where
  o : ∃ base, ownS w base v (nmS L)
  n : v.ownBlock ≠ some xb
  k : ∀ c ∈ L, NmL (one1 c)
theorem nmS_one (L : List UInt8) : ∀ u ∈ nmS L, u.oneCell' = true := by
  intro u hu
  obtain ⟨c, _, rfl⟩ := List.mem_map.1 hu
  rfl
theorem own_ke' {rb : Nat} {w w' : World} {base : Nat} {v : Value} {xs : List Value} (h : ownS w base v xs) (hk : Ke rb w w') (hn : v.ownBlock ≠ some rb) : ownS w' base v xs := by
  obtain ⟨h1, h2⟩ := h
  refine ⟨h1, ?_⟩
  rcases h2 with h2 | ⟨g, cap, cur, rfl, hg, hh, r⟩
  · exact .inl h2
  · exact .inr ⟨g, cap, cur, rfl, hg, (hk.block g (by have := (Array.getElem?_eq_some_iff.1 hh).1; exact this) (by intro e; exact hn (by simp [Value.ownBlock, e]))).trans hh, r⟩
theorem NSv.ke {xb : Nat} {w w' : World} {v : Value} {L : List UInt8} (h : NSv w xb v L) (hk : Ke xb w w') : NSv w' xb v L := by
  obtain ⟨base, ho⟩ := h.o
  exact ⟨⟨base, own_ke' ho hk h.n⟩, h.n, h.k⟩
theorem NSv.bel {xb : Nat} {w w' : World} {v : Value} {L : List UInt8} (h : NSv w xb v L) (hb : Below w.heap.size w w') : NSv w' xb v L := h.ke (Ke.of hb)
/-- What has grown is new. -/
theorem grown_new {W w w' : World} {B : Nat} {row : Option Nat} (h : Below B W w) (hg : w.grownBy w' row) (hz : B ≤ w.heap.size) (hr : ∀ k, row = some k → B ≤ k) : Below B W w' :=
  ⟨hg.os.trans h.os, hg.tape.trans h.tape, hg.output.trans h.output, Nat.le_trans h.size hg.size, fun i hi => (hg.block i (by omega) (fun e => by have := hr i e.symm; omega)).trans (h.block i hi)⟩
theorem own_new {w : World} {base : Nat} {v : Value} {xs : List Value} (h : ownS w base v xs) : ∀ k, v.ownBlock = some k → base ≤ k := fun k hk => (World.ownsRow.lt h k hk).1
section
variable {w : World} {xb len cap : Nat} {p : Option Addr} {r : Nat → Int}
def MkP (xb : Nat) (p : Option Addr) (len cap : Nat) (r : Nat → Int) (d : Nat) (w : World) (e : Ending) (w' : World) : Prop := ∃ l, e = .returned (.string (bs l)) ∧ MEd d l ∧ SrcPost xb p len cap r w w'
def MkE (xb : Nat) (p : Option Addr) (len cap : Nat) (r : Nat → Int) (d : Nat) : Prop := ∀ (w : World) (A : Nat) (v : Value) (L : List UInt8), Src w xb p len cap r A → NSv w xb v L → L.length + d ≤ 6 → Calls Tryz.prog 15 #[.pointer (some ⟨xb, 0, none⟩), .int .i64 (d : Int), v] w (MkP xb p len cap r d w)
def five : List Value := [.string ⟨#[49]⟩, .string ⟨#[116, 114, 117, 101]⟩, .string ⟨#[40, 41]⟩, .string ⟨#[78]⟩, .string ⟨#[80]⟩]
theorem five_me (d : Nat) : ∀ u ∈ five, ∃ l, u = .string (bs l) ∧ MEd d l := by
  have h4 := mB_4 d
  intro u hu
  simp only [five, List.mem_cons, List.not_mem_nil, or_false] at hu
  rcases hu with rfl | rfl | rfl | rfl | rfl
  · exact ⟨[49], rfl, ME.one, by simp; omega⟩
  · exact ⟨[116, 114, 117, 101], rfl, ME.tr, by simp; omega⟩
  · exact ⟨[40, 41], rfl, ME.unit, by simp; omega⟩
  · exact ⟨[78], rfl, ME.up (by decide), by simp; omega⟩
  · exact ⟨[80], rfl, ME.up (by decide), by simp; omega⟩
theorem nmS_me (d : Nat) (L : List UInt8) (hk : ∀ c ∈ L, NmL (one1 c)) : ∀ u ∈ nmS L, ∃ l, u = .string (bs l) ∧ MEd d l := by
  have h4 := mB_4 d
  intro u hu
  obtain ⟨c, hc, rfl⟩ := List.mem_map.1 hu
  exact ⟨[c], rfl, ME.low (hk c hc), by simp; omega⟩
def txtOf : Value → ByteArray
  | .string s => s
  | _ => ⟨#[]⟩
/-- A row of texts that isn't empty, opened. -/
theorem own_opn {w : World} {base : Nat} {v : Value} {xs : List Value} (h : ownS w base v xs) (hx : ∀ u ∈ xs, ∃ s, u = .string s) (hn : 0 < xs.length) : ∃ g cp, v = .slice (some ⟨g, 0, none⟩) xs.length cp ∧ base ≤ g ∧ g < w.heap.size ∧ Txt w g xs.length (fun j => txtOf (xs.getD j (.bool false))) := by
  have h' := h
  obtain ⟨h1, h2⟩ := h
  rcases h2 with ⟨rfl, q⟩ | ⟨g, cp, cur, rfl, hg, hh, r⟩
  · omega
  · refine ⟨g, cp, rfl, hg, (World.ownsRow.lt h' g rfl).2, fun j hj => ?_⟩
    have e := h'.cells (g := g) rfl j xs[j] (List.getElem?_eq_getElem hj)
    obtain ⟨s, hs⟩ := hx xs[j] (List.getElem_mem hj)
    have e2 : (⟨g, 0, none⟩ : Addr).add j = ⟨g, j, none⟩ := by
      unfold Addr.add
      split
      · next h => subst h; rfl
      · simp
    show w.cell? ⟨g, j, none⟩ = some (.string (txtOf (xs.getD j (.bool false))))
    rw [e2, hs] at e
    rw [e, List.getD_eq_getElem?_getD, List.getElem?_eq_getElem hj, hs]
    rfl
theorem opn_me {d : Nat} {xs : List Value} (hx : ∀ u ∈ xs, ∃ l, u = .string (bs l) ∧ MEd d l) (j : Nat) (hj : j < xs.length) : ∃ l, txtOf (xs.getD j (.bool false)) = bs l ∧ MEd d l := by
  obtain ⟨l, e, h⟩ := hx xs[j] (List.getElem_mem hj)
  refine ⟨l, ?_, h⟩
  rw [List.getD_eq_getElem?_getD, List.getElem?_eq_getElem hj, e]
  rfl
def atoms (L : List UInt8) : List Value := (five ++ nmS L) ++ nmS L
theorem atoms_me (d : Nat) (L : List UInt8) (hk : ∀ c ∈ L, NmL (one1 c)) : ∀ u ∈ atoms L, ∃ l, u = .string (bs l) ∧ MEd d l := by
  intro u hu
  simp only [atoms, List.mem_append] at hu
  rcases hu with (h | h) | h
  · exact five_me d u h
  · exact nmS_me d L hk u h
  · exact nmS_me d L hk u h
theorem atoms_len (L : List UInt8) : (atoms L).length = 5 + 2 * L.length := by simp [atoms, five, nmS]; omega
set_option maxRecDepth 100000 in
set_option maxHeartbeats 2000000 in
/-- An expression that is one atom. -/
theorem mk_0 : MkE xb p len cap r 0 := by
  intro w A v L hS hN hL
  have HC := hide (nextK_C hS 12 (by omega) (by omega))
  have HN := hide hN
  clear hS hN
  go_enter Tryz.func15, Tryz.ntmps15
  go_wp2_with fail
  refine (unhide HC).mono ?_
  rintro e w1 ⟨q, rfl, q0, q1, A1, hs1, hk1⟩
  have HS := hide hs1
  have HK := hide hk1
  have HN1 := hide ((unhide HN).ke hk1)
  clear hs1 hk1 HC
  have hdec : (((0 : Nat) : Int) == 0) = true := by simp
  have O1 := hide (World.ownsRow_nil (w1.alloc (.cells five.toArray 9)) w1.heap.size 9 1)
  go_wp2_with (first
      | (at_builtin; refine app_nv rfl (.tmp 32) (.tmp 33) rfl rfl (unhide O1) rfl (ownS.new w1 five 0 (Nat.zero_le _) (by decide) 5 rfl) (by decide) (by decide) (by simp) ?_; intro v2 w2 o2 g2; have hb2 : Below w1.heap.size w1 w2 := grown_new ((Below.refl _ _).alloc (Nat.le_refl _) _) g2 (by simp) (own_new (unhide O1)); obtain ⟨b2, on2⟩ := ((unhide HN1).bel hb2).o; have O2 := hide o2; have ON2 := hide on2; have HB2 := hide hb2; have z2 := hb2.size; have G2 := hide (own_new o2); clear o2 on2 hb2 g2 O1)
      | (at_builtin; refine app_nv rfl (.tmp 35) (.tmp 36) rfl rfl (unhide O2) rfl (unhide ON2) (nmS_one L) (by simp [five, nmS]; omega) z2 ?_; intro v3 w3 o3 g3; have hb3 : Below w1.heap.size w1 w3 := grown_new (unhide HB2) g3 z2 (unhide G2); obtain ⟨b3, on3⟩ := ((unhide HN1).bel hb3).o; have O3 := hide o3; have ON3 := hide on3; have HB3 := hide hb3; have z3 := hb3.size; have G3 := hide (own_new o3); clear o3 on3 hb3 g3 O2 ON2 HB2 z2 G2)
      | (at_builtin; refine app_nv rfl (.tmp 38) (.tmp 39) rfl rfl (unhide O3) rfl (unhide ON3) (nmS_one L) (by simp [five, nmS]; omega) z3 ?_; intro v4 w4 o4 g4; have hb4 : Below w1.heap.size w1 w4 := grown_new (unhide HB3) g4 z3 (unhide G3); have HB4 := hide hb4; have z4 := hb4.size; obtain ⟨g, cp, rfl, hg, hgz, htx⟩ := own_opn (show ownS w4 w1.heap.size v4 (atoms L) from o4) (fun u hu => by obtain ⟨l, e, _⟩ := atoms_me 0 L (unhide HN1).k u hu; exact ⟨_, e⟩) (by rw [atoms_len]; omega); rw [atoms_len] at htx; simp only [atoms_len]; have HX := hide htx; clear o4 g4 htx hb4 O3 ON3 HB3 z3 G3))
  have hxz := (unhide HS).b.z
  refine (oneK_C ((unhide HS).bel (unhide HB4)) (unhide HX) hgz (by omega) (by omega) (by omega)).mono ?_
  rintro e w5 ⟨j, hj, rfl, A5, hs5, hk5⟩
  obtain ⟨l, e5, hm⟩ := opn_me (atoms_me 0 L (unhide HN1).k) j (by rw [atoms_len]; exact hj)
  have HS5 := hide hs5
  have HK5 := hide (((unhide HK).trans (Ke.of (unhide HB4))).trans hk5)
  have HM := hide hm
  clear hs5 hk5 hm
  rw [e5]
  go_wp2_with fail
  go_ret
  exact ⟨l, rfl, unhide HM, A5, unhide HS5, unhide HK5⟩
theorem ownS.allc {w : World} {base : Nat} {v : Value} {xs : List Value} (h : ownS w base v xs) (o : Obj) : ownS (w.alloc o) base v xs := own_below h ((Below.refl _ _).alloc (Nat.le_refl _) o)
theorem NSv.more {w : World} {xb base : Nat} {v : Value} {L : List UInt8} {c : UInt8} (o : ownS w base v (nmS (L ++ [c]))) (hx : xb < base) (hk : ∀ c ∈ L, NmL (one1 c)) (hc : NmL (one1 c)) : NSv w xb v (L ++ [c]) :=
  ⟨⟨_, o⟩, fun e => by have := own_new o xb e; omega, fun x hx => by
    rcases List.mem_append.1 hx with q | q
    · exact hk x q
    · rw [List.mem_singleton.1 q]; exact hc⟩
def abf : List Value := [.string ⟨#[97]⟩, .string ⟨#[98]⟩, .string ⟨#[102]⟩]
theorem abf_at (j : Nat) (hj : j < 3) : ∃ c, txtOf (abf.getD j (.bool false)) = one1 c ∧ NmL (one1 c) := by
  have hc : j = 0 ∨ j = 1 ∨ j = 2 := by omega
  rcases hc with rfl | rfl | rfl
  · exact ⟨97, rfl, nm1 97 (by decide) (by simp [Pu.wordB, Pu.words, ByteArray.toList_eq])⟩
  · exact ⟨98, rfl, nm1 98 (by decide) (by simp [Pu.wordB, Pu.words, ByteArray.toList_eq])⟩
  · exact ⟨102, rfl, nm1 102 (by decide) (by simp [Pu.wordB, Pu.words, ByteArray.toList_eq])⟩
theorem abf_txt (w1 : World) : Txt (w1.alloc (.cells abf.toArray 9)) w1.heap.size 3 (fun j => txtOf (abf.getD j (.bool false))) := by
  intro j hj
  have hc : j = 0 ∨ j = 1 ∨ j = 2 := by omega
  rw [(Bx.new w1 abf.toArray 9).c j]
  rcases hc with rfl | rfl | rfl <;> rfl
theorem mB_2 {d : Nat} (h : d + 1 ≤ 3) : mB d ≤ 136 := by
  have hc : d = 0 ∨ d = 1 ∨ d = 2 := by omega
  rcases hc with rfl | rfl | rfl <;> decide
theorem one1_sz (c : UInt8) : (one1 c).size = 1 := rfl
theorem one1_bs (c : UInt8) : one1 c = bs [c] := rfl
theorem nmS_snoc (L : List UInt8) (c : UInt8) : nmS L ++ [.string (one1 c)] = nmS (L ++ [c]) := by simp [nmS]
set_option maxRecDepth 100000 in
set_option maxHeartbeats 8000000 in
theorem mk_s {d : Nat} (hd : d + 1 ≤ 3) (hI : MkE xb p len cap r d) : MkE xb p len cap r (d + 1) := by
  intro w A v L hS hN hL
  have IH := hide hI
  have HC := hide (nextK_C hS 12 (by omega) (by omega))
  have HN := hide hN
  clear hS hN hI
  have hd0 : (((d + 1 : Nat) : Int) == 0) = false := by simp; omega
  have hd1 : ((d + 1 : Nat) : Int) - 1 = (d : Int) := by omega
  go_enter Tryz.func15, Tryz.ntmps15
  go_wp2_with fail
  refine (unhide HC).mono ?_
  rintro e w1 ⟨q, rfl, q0, q1, A1, hs1, hk1⟩
  have HS := hide hs1
  have HK := hide hk1
  have HN1 := hide ((unhide HN).ke hk1)
  clear hs1 hk1 HC HN
  by_cases h3 : q < 3
  · have O1 := hide (World.ownsRow_nil (w1.alloc (.cells five.toArray 9)) w1.heap.size 9 1)
    go_wp2_with (first
      | (at_builtin; refine app_nv rfl (.tmp 32) (.tmp 33) rfl rfl (unhide O1) rfl (ownS.new w1 five 0 (Nat.zero_le _) (by decide) 5 rfl) (by decide) (by decide) (by simp) ?_; intro v2 w2 o2 g2; have hb2 : Below w1.heap.size w1 w2 := grown_new ((Below.refl _ _).alloc (Nat.le_refl _) _) g2 (by simp) (own_new (unhide O1)); obtain ⟨b2, on2⟩ := ((unhide HN1).bel hb2).o; have O2 := hide o2; have ON2 := hide on2; have HB2 := hide hb2; have z2 := hb2.size; have G2 := hide (own_new o2); clear o2 on2 hb2 g2 O1)
      | (at_builtin; refine app_nv rfl (.tmp 35) (.tmp 36) rfl rfl (unhide O2) rfl (unhide ON2) (nmS_one L) (by simp [five, nmS]; omega) z2 ?_; intro v3 w3 o3 g3; have hb3 : Below w1.heap.size w1 w3 := grown_new (unhide HB2) g3 z2 (unhide G2); obtain ⟨b3, on3⟩ := ((unhide HN1).bel hb3).o; have O3 := hide o3; have ON3 := hide on3; have HB3 := hide hb3; have z3 := hb3.size; have G3 := hide (own_new o3); clear o3 on3 hb3 g3 O2 ON2 HB2 z2 G2)
      | (at_builtin; refine app_nv rfl (.tmp 38) (.tmp 39) rfl rfl (unhide O3) rfl (unhide ON3) (nmS_one L) (by simp [five, nmS]; omega) z3 ?_; intro v4 w4 o4 g4; have hb4 : Below w1.heap.size w1 w4 := grown_new (unhide HB3) g4 z3 (unhide G3); have HB4 := hide hb4; have z4 := hb4.size; obtain ⟨g, cp, rfl, hg, hgz, htx⟩ := own_opn (show ownS w4 w1.heap.size v4 (atoms L) from o4) (fun u hu => by obtain ⟨l, e, _⟩ := atoms_me 0 L (unhide HN1).k u hu; exact ⟨_, e⟩) (by rw [atoms_len]; omega); rw [atoms_len] at htx; simp only [atoms_len]; have HX := hide htx; clear o4 g4 htx hb4 O3 ON3 HB3 z3 G3))
    have hxz := (unhide HS).b.z
    refine (oneK_C ((unhide HS).bel (unhide HB4)) (unhide HX) hgz (by omega) (by omega) (by omega)).mono ?_
    rintro e w5 ⟨j, hj, rfl, A5, hs5, hk5⟩
    obtain ⟨l, e5, hm⟩ := opn_me (atoms_me (d + 1) L (unhide HN1).k) j (by rw [atoms_len]; exact hj)
    have HS5 := hide hs5
    have HK5 := hide (((unhide HK).trans (Ke.of (unhide HB4))).trans hk5)
    have HM := hide hm
    clear hs5 hk5 hm
    rw [e5]
    go_wp2_with fail
    go_ret
    exact ⟨l, rfl, unhide HM, A5, unhide HS5, unhide HK5⟩
  · have h3' : decide (q < 3) = false := by simp; omega
    have hxz := (unhide HS).b.z
    have hb1 : Below w1.heap.size w1 (w1.alloc (.cells abf.toArray 9)) := (Below.refl _ _).alloc (Nat.le_refl _) _
    go_wp2_with fail
    refine (oneK_C ((unhide HS).bel hb1) (abf_txt w1) (by simp) (by omega) (by omega) (by omega)).mono ?_
    rintro e w2 ⟨j, hj, rfl, A2, hs2, hk2⟩
    obtain ⟨c, ec, hc⟩ := abf_at j hj
    have HS2 := hide hs2
    have HK2 := hide (((unhide HK).trans (Ke.of hb1)).trans hk2)
    have hn2 := ((unhide HN1).bel hb1).ke hk2
    have HN2 := hide hn2
    obtain ⟨b2, on2⟩ := hn2.o
    have ON2 := hide on2
    have HC := hide hc
    have hz2 := hs2.b.z
    have hcs := one1_sz c
    have O2 := hide (World.ownsRow_nil w2 w2.heap.size 9 1)
    clear hs2 hk2 hc hn2 on2 HS HK HN1 hb1 h3 hj
    rw [ec]
    clear ec
    have hqc : q = 3 ∨ q = 4 ∨ q = 5 ∨ q = 6 ∨ q = 7 ∨ q = 8 ∨ q = 9 ∨ q = 10 ∨ q = 11 := by simp at h3'; omega
    clear h3' q0 q1
    rcases hqc with rfl | rfl | rfl | rfl | rfl | rfl | rfl | rfl | rfl
    · go_wp2_with (first
        | (at_builtin; refine app_nv rfl (.tmp 47) (.tmp 48) rfl rfl (unhide O2) rfl (unhide ON2) (nmS_one L) (by simp [nmS]; omega) (Nat.le_refl _) ?_; intro v3 w3 o3 g3; have hb3 : Below w2.heap.size w2 w3 := grown_new (Below.refl _ _) g3 (Nat.le_refl _) (own_new (unhide O2)); have O3 := hide o3; have HB3 := hide hb3; have z3 := hb3.size; clear o3 g3 hb3 O2 ON2)
        | (at_builtin; refine app_nv rfl (.tmp 50) (.tmp 52) rfl rfl ((unhide O3).allc _) rfl (ownS.new w3 [.string (one1 c)] 0 (Nat.zero_le _) (by simp) 1 rfl) (by intro u hu; simp at hu; subst hu; rfl) (by simp [nmS]; omega) (by simp; omega) ?_; intro v4 w4 o4 g4))
      have hb4 : Below w2.heap.size w2 w4 := grown_new ((unhide HB3).alloc z3 _) g4 (by simp; omega) (own_new (unhide O3))
      rw [List.nil_append, nmS_snoc] at o4
      have hm4 := NSv.more o4 hz2 (unhide HN2).k (unhide HC)
      have HM4 := hide hm4
      have HN4 := hide ((unhide HN2).bel hb4)
      have HS4 := hide ((unhide HS2).bel hb4)
      have HK4 := hide ((unhide HK2).trans (Ke.of hb4))
      clear o4 g4 hm4 hb4 O3 HB3 z3 HS2 HK2 HN2
      refine (unhide IH w4 A2 _ _ (unhide HS4) (unhide HM4) (by simp; omega)).mono ?_
      rintro e w5 ⟨l5, rfl, hm5, A5, hs5, hk5⟩
      have HS5 := hide hs5
      have HK5 := hide ((unhide HK4).trans hk5)
      have HN5 := hide ((unhide HN4).ke hk5)
      have HM5 := hide ((unhide HM4).ke hk5)
      have HE5 := hide hm5
      have hz5 : (bs l5).size ≤ 136 := by rw [bs_size]; exact Nat.le_trans hm5.2 (mB_2 hd)
      clear hs5 hk5 hm5 HS4 HK4 HN4 HM4
      go_wp2_with fail
      go_ret
      refine ⟨_, ?_, ⟨(ME.fn (unhide HC) (unhide HE5).1), ?_⟩, A5, unhide HS5, unhide HK5⟩
      · simp only [one1_bs, ← bs_app]
        rfl
      · have q5 := (unhide HE5).2; simp only [mB, List.length_append, List.length_cons, List.length_nil]; omega
    · go_wp2_with (first
        | (at_builtin; refine app_nv rfl (.tmp 47) (.tmp 48) rfl rfl (unhide O2) rfl (unhide ON2) (nmS_one L) (by simp [nmS]; omega) (Nat.le_refl _) ?_; intro v3 w3 o3 g3; have hb3 : Below w2.heap.size w2 w3 := grown_new (Below.refl _ _) g3 (Nat.le_refl _) (own_new (unhide O2)); have O3 := hide o3; have HB3 := hide hb3; have z3 := hb3.size; clear o3 g3 hb3 O2 ON2)
        | (at_builtin; refine app_nv rfl (.tmp 50) (.tmp 52) rfl rfl ((unhide O3).allc _) rfl (ownS.new w3 [.string (one1 c)] 0 (Nat.zero_le _) (by simp) 1 rfl) (by intro u hu; simp at hu; subst hu; rfl) (by simp [nmS]; omega) (by simp; omega) ?_; intro v4 w4 o4 g4))
      have hb4 : Below w2.heap.size w2 w4 := grown_new ((unhide HB3).alloc z3 _) g4 (by simp; omega) (own_new (unhide O3))
      rw [List.nil_append, nmS_snoc] at o4
      have hm4 := NSv.more o4 hz2 (unhide HN2).k (unhide HC)
      have HM4 := hide hm4
      have HN4 := hide ((unhide HN2).bel hb4)
      have HS4 := hide ((unhide HS2).bel hb4)
      have HK4 := hide ((unhide HK2).trans (Ke.of hb4))
      clear o4 g4 hm4 hb4 O3 HB3 z3 HS2 HK2 HN2
      refine (unhide IH w4 A2 _ _ (unhide HS4) (unhide HM4) (by simp; omega)).mono ?_
      rintro e w5 ⟨l5, rfl, hm5, A5, hs5, hk5⟩
      have HS5 := hide hs5
      have HK5 := hide ((unhide HK4).trans hk5)
      have HN5 := hide ((unhide HN4).ke hk5)
      have HM5 := hide ((unhide HM4).ke hk5)
      have HE5 := hide hm5
      have hz5 : (bs l5).size ≤ 136 := by rw [bs_size]; exact Nat.le_trans hm5.2 (mB_2 hd)
      clear hs5 hk5 hm5 HS4 HK4 HN4 HM4
      go_wp2_with fail
      go_ret
      refine ⟨_, ?_, ⟨(ME.fn (unhide HC) (unhide HE5).1), ?_⟩, A5, unhide HS5, unhide HK5⟩
      · simp only [one1_bs, ← bs_app]
        rfl
      · have q5 := (unhide HE5).2; simp only [mB, List.length_append, List.length_cons, List.length_nil]; omega
    · go_wp2_with (first
        | (at_builtin; refine app_nv rfl (.tmp 47) (.tmp 48) rfl rfl (unhide O2) rfl (unhide ON2) (nmS_one L) (by simp [nmS]; omega) (Nat.le_refl _) ?_; intro v3 w3 o3 g3; have hb3 : Below w2.heap.size w2 w3 := grown_new (Below.refl _ _) g3 (Nat.le_refl _) (own_new (unhide O2)); have O3 := hide o3; have HB3 := hide hb3; have z3 := hb3.size; clear o3 g3 hb3 O2 ON2)
        | (at_builtin; refine app_nv rfl (.tmp 50) (.tmp 52) rfl rfl ((unhide O3).allc _) rfl (ownS.new w3 [.string (one1 c)] 0 (Nat.zero_le _) (by simp) 1 rfl) (by intro u hu; simp at hu; subst hu; rfl) (by simp [nmS]; omega) (by simp; omega) ?_; intro v4 w4 o4 g4))
      have hb4 : Below w2.heap.size w2 w4 := grown_new ((unhide HB3).alloc z3 _) g4 (by simp; omega) (own_new (unhide O3))
      rw [List.nil_append, nmS_snoc] at o4
      have hm4 := NSv.more o4 hz2 (unhide HN2).k (unhide HC)
      have HM4 := hide hm4
      have HN4 := hide ((unhide HN2).bel hb4)
      have HS4 := hide ((unhide HS2).bel hb4)
      have HK4 := hide ((unhide HK2).trans (Ke.of hb4))
      clear o4 g4 hm4 hb4 O3 HB3 z3 HS2 HK2 HN2
      refine (unhide IH w4 A2 _ _ (unhide HS4) (unhide HN4) (by omega)).mono ?_
      rintro e w5 ⟨l5, rfl, hm5, A5, hs5, hk5⟩
      have HS5 := hide hs5
      have HK5 := hide ((unhide HK4).trans hk5)
      have HN5 := hide ((unhide HN4).ke hk5)
      have HM5 := hide ((unhide HM4).ke hk5)
      have HE5 := hide hm5
      have hz5 : (bs l5).size ≤ 136 := by rw [bs_size]; exact Nat.le_trans hm5.2 (mB_2 hd)
      clear hs5 hk5 hm5 HS4 HK4 HN4 HM4
      go_wp2_with fail
      refine (unhide IH w5 A5 _ _ (unhide HS5) (unhide HN5) (by omega)).mono ?_
      rintro e w6 ⟨l6, rfl, hm6, A6, hs6, hk6⟩
      have HS6 := hide hs6
      have HK6 := hide ((unhide HK5).trans hk6)
      have HN6 := hide ((unhide HN5).ke hk6)
      have HM6 := hide ((unhide HM5).ke hk6)
      have HE6 := hide hm6
      have hz6 : (bs l6).size ≤ 136 := by rw [bs_size]; exact Nat.le_trans hm6.2 (mB_2 hd)
      clear hs6 hk6 hm6 HS5 HK5 HN5 HM5
      go_wp2_with fail
      go_ret
      refine ⟨_, ?_, ⟨((unhide HE5).1.app (unhide HE6).1), ?_⟩, A6, unhide HS6, unhide HK6⟩
      · simp only [one1_bs, ← bs_app]
        rfl
      · have q5 := (unhide HE5).2; have q6 := (unhide HE6).2; simp only [mB, List.length_append, List.length_cons, List.length_nil]; omega
    · go_wp2_with (first
        | (at_builtin; refine app_nv rfl (.tmp 47) (.tmp 48) rfl rfl (unhide O2) rfl (unhide ON2) (nmS_one L) (by simp [nmS]; omega) (Nat.le_refl _) ?_; intro v3 w3 o3 g3; have hb3 : Below w2.heap.size w2 w3 := grown_new (Below.refl _ _) g3 (Nat.le_refl _) (own_new (unhide O2)); have O3 := hide o3; have HB3 := hide hb3; have z3 := hb3.size; clear o3 g3 hb3 O2 ON2)
        | (at_builtin; refine app_nv rfl (.tmp 50) (.tmp 52) rfl rfl ((unhide O3).allc _) rfl (ownS.new w3 [.string (one1 c)] 0 (Nat.zero_le _) (by simp) 1 rfl) (by intro u hu; simp at hu; subst hu; rfl) (by simp [nmS]; omega) (by simp; omega) ?_; intro v4 w4 o4 g4))
      have hb4 : Below w2.heap.size w2 w4 := grown_new ((unhide HB3).alloc z3 _) g4 (by simp; omega) (own_new (unhide O3))
      rw [List.nil_append, nmS_snoc] at o4
      have hm4 := NSv.more o4 hz2 (unhide HN2).k (unhide HC)
      have HM4 := hide hm4
      have HN4 := hide ((unhide HN2).bel hb4)
      have HS4 := hide ((unhide HS2).bel hb4)
      have HK4 := hide ((unhide HK2).trans (Ke.of hb4))
      clear o4 g4 hm4 hb4 O3 HB3 z3 HS2 HK2 HN2
      refine (unhide IH w4 A2 _ _ (unhide HS4) (unhide HN4) (by omega)).mono ?_
      rintro e w5 ⟨l5, rfl, hm5, A5, hs5, hk5⟩
      have HS5 := hide hs5
      have HK5 := hide ((unhide HK4).trans hk5)
      have HN5 := hide ((unhide HN4).ke hk5)
      have HM5 := hide ((unhide HM4).ke hk5)
      have HE5 := hide hm5
      have hz5 : (bs l5).size ≤ 136 := by rw [bs_size]; exact Nat.le_trans hm5.2 (mB_2 hd)
      clear hs5 hk5 hm5 HS4 HK4 HN4 HM4
      go_wp2_with fail
      refine (unhide IH w5 A5 _ _ (unhide HS5) (unhide HN5) (by omega)).mono ?_
      rintro e w6 ⟨l6, rfl, hm6, A6, hs6, hk6⟩
      have HS6 := hide hs6
      have HK6 := hide ((unhide HK5).trans hk6)
      have HN6 := hide ((unhide HN5).ke hk6)
      have HM6 := hide ((unhide HM5).ke hk6)
      have HE6 := hide hm6
      have hz6 : (bs l6).size ≤ 136 := by rw [bs_size]; exact Nat.le_trans hm6.2 (mB_2 hd)
      clear hs6 hk6 hm6 HS5 HK5 HN5 HM5
      go_wp2_with fail
      go_ret
      refine ⟨_, ?_, ⟨((unhide HE5).1.app (unhide HE6).1), ?_⟩, A6, unhide HS6, unhide HK6⟩
      · simp only [one1_bs, ← bs_app]
        rfl
      · have q5 := (unhide HE5).2; have q6 := (unhide HE6).2; simp only [mB, List.length_append, List.length_cons, List.length_nil]; omega
    · go_wp2_with (first
        | (at_builtin; refine app_nv rfl (.tmp 47) (.tmp 48) rfl rfl (unhide O2) rfl (unhide ON2) (nmS_one L) (by simp [nmS]; omega) (Nat.le_refl _) ?_; intro v3 w3 o3 g3; have hb3 : Below w2.heap.size w2 w3 := grown_new (Below.refl _ _) g3 (Nat.le_refl _) (own_new (unhide O2)); have O3 := hide o3; have HB3 := hide hb3; have z3 := hb3.size; clear o3 g3 hb3 O2 ON2)
        | (at_builtin; refine app_nv rfl (.tmp 50) (.tmp 52) rfl rfl ((unhide O3).allc _) rfl (ownS.new w3 [.string (one1 c)] 0 (Nat.zero_le _) (by simp) 1 rfl) (by intro u hu; simp at hu; subst hu; rfl) (by simp [nmS]; omega) (by simp; omega) ?_; intro v4 w4 o4 g4))
      have hb4 : Below w2.heap.size w2 w4 := grown_new ((unhide HB3).alloc z3 _) g4 (by simp; omega) (own_new (unhide O3))
      rw [List.nil_append, nmS_snoc] at o4
      have hm4 := NSv.more o4 hz2 (unhide HN2).k (unhide HC)
      have HM4 := hide hm4
      have HN4 := hide ((unhide HN2).bel hb4)
      have HS4 := hide ((unhide HS2).bel hb4)
      have HK4 := hide ((unhide HK2).trans (Ke.of hb4))
      clear o4 g4 hm4 hb4 O3 HB3 z3 HS2 HK2 HN2
      refine (unhide IH w4 A2 _ _ (unhide HS4) (unhide HN4) (by omega)).mono ?_
      rintro e w5 ⟨l5, rfl, hm5, A5, hs5, hk5⟩
      have HS5 := hide hs5
      have HK5 := hide ((unhide HK4).trans hk5)
      have HN5 := hide ((unhide HN4).ke hk5)
      have HM5 := hide ((unhide HM4).ke hk5)
      have HE5 := hide hm5
      have hz5 : (bs l5).size ≤ 136 := by rw [bs_size]; exact Nat.le_trans hm5.2 (mB_2 hd)
      clear hs5 hk5 hm5 HS4 HK4 HN4 HM4
      go_wp2_with fail
      refine (unhide IH w5 A5 _ _ (unhide HS5) (unhide HM5) (by simp; omega)).mono ?_
      rintro e w6 ⟨l6, rfl, hm6, A6, hs6, hk6⟩
      have HS6 := hide hs6
      have HK6 := hide ((unhide HK5).trans hk6)
      have HN6 := hide ((unhide HN5).ke hk6)
      have HM6 := hide ((unhide HM5).ke hk6)
      have HE6 := hide hm6
      have hz6 : (bs l6).size ≤ 136 := by rw [bs_size]; exact Nat.le_trans hm6.2 (mB_2 hd)
      clear hs6 hk6 hm6 HS5 HK5 HN5 HM5
      go_wp2_with fail
      go_ret
      refine ⟨_, ?_, ⟨(ME.lt (unhide HC) (unhide HE5).1 (unhide HE6).1), ?_⟩, A6, unhide HS6, unhide HK6⟩
      · simp only [one1_bs, ← bs_app]
        rfl
      · have q5 := (unhide HE5).2; have q6 := (unhide HE6).2; simp only [mB, List.length_append, List.length_cons, List.length_nil]; omega
    · go_wp2_with (first
        | (at_builtin; refine app_nv rfl (.tmp 47) (.tmp 48) rfl rfl (unhide O2) rfl (unhide ON2) (nmS_one L) (by simp [nmS]; omega) (Nat.le_refl _) ?_; intro v3 w3 o3 g3; have hb3 : Below w2.heap.size w2 w3 := grown_new (Below.refl _ _) g3 (Nat.le_refl _) (own_new (unhide O2)); have O3 := hide o3; have HB3 := hide hb3; have z3 := hb3.size; clear o3 g3 hb3 O2 ON2)
        | (at_builtin; refine app_nv rfl (.tmp 50) (.tmp 52) rfl rfl ((unhide O3).allc _) rfl (ownS.new w3 [.string (one1 c)] 0 (Nat.zero_le _) (by simp) 1 rfl) (by intro u hu; simp at hu; subst hu; rfl) (by simp [nmS]; omega) (by simp; omega) ?_; intro v4 w4 o4 g4))
      have hb4 : Below w2.heap.size w2 w4 := grown_new ((unhide HB3).alloc z3 _) g4 (by simp; omega) (own_new (unhide O3))
      rw [List.nil_append, nmS_snoc] at o4
      have hm4 := NSv.more o4 hz2 (unhide HN2).k (unhide HC)
      have HM4 := hide hm4
      have HN4 := hide ((unhide HN2).bel hb4)
      have HS4 := hide ((unhide HS2).bel hb4)
      have HK4 := hide ((unhide HK2).trans (Ke.of hb4))
      clear o4 g4 hm4 hb4 O3 HB3 z3 HS2 HK2 HN2
      refine (unhide IH w4 A2 _ _ (unhide HS4) (unhide HN4) (by omega)).mono ?_
      rintro e w5 ⟨l5, rfl, hm5, A5, hs5, hk5⟩
      have HS5 := hide hs5
      have HK5 := hide ((unhide HK4).trans hk5)
      have HN5 := hide ((unhide HN4).ke hk5)
      have HM5 := hide ((unhide HM4).ke hk5)
      have HE5 := hide hm5
      have hz5 : (bs l5).size ≤ 136 := by rw [bs_size]; exact Nat.le_trans hm5.2 (mB_2 hd)
      clear hs5 hk5 hm5 HS4 HK4 HN4 HM4
      go_wp2_with fail
      refine (unhide IH w5 A5 _ _ (unhide HS5) (unhide HN5) (by omega)).mono ?_
      rintro e w6 ⟨l6, rfl, hm6, A6, hs6, hk6⟩
      have HS6 := hide hs6
      have HK6 := hide ((unhide HK5).trans hk6)
      have HN6 := hide ((unhide HN5).ke hk6)
      have HM6 := hide ((unhide HM5).ke hk6)
      have HE6 := hide hm6
      have hz6 : (bs l6).size ≤ 136 := by rw [bs_size]; exact Nat.le_trans hm6.2 (mB_2 hd)
      clear hs6 hk6 hm6 HS5 HK5 HN5 HM5
      go_wp2_with fail
      go_ret
      refine ⟨_, ?_, ⟨((unhide HE5).1.pair (unhide HE6).1), ?_⟩, A6, unhide HS6, unhide HK6⟩
      · simp only [one1_bs, ← bs_app]
        rfl
      · have q5 := (unhide HE5).2; have q6 := (unhide HE6).2; simp only [mB, List.length_append, List.length_cons, List.length_nil]; omega
    · go_wp2_with (first
        | (at_builtin; refine app_nv rfl (.tmp 47) (.tmp 48) rfl rfl (unhide O2) rfl (unhide ON2) (nmS_one L) (by simp [nmS]; omega) (Nat.le_refl _) ?_; intro v3 w3 o3 g3; have hb3 : Below w2.heap.size w2 w3 := grown_new (Below.refl _ _) g3 (Nat.le_refl _) (own_new (unhide O2)); have O3 := hide o3; have HB3 := hide hb3; have z3 := hb3.size; clear o3 g3 hb3 O2 ON2)
        | (at_builtin; refine app_nv rfl (.tmp 50) (.tmp 52) rfl rfl ((unhide O3).allc _) rfl (ownS.new w3 [.string (one1 c)] 0 (Nat.zero_le _) (by simp) 1 rfl) (by intro u hu; simp at hu; subst hu; rfl) (by simp [nmS]; omega) (by simp; omega) ?_; intro v4 w4 o4 g4))
      have hb4 : Below w2.heap.size w2 w4 := grown_new ((unhide HB3).alloc z3 _) g4 (by simp; omega) (own_new (unhide O3))
      rw [List.nil_append, nmS_snoc] at o4
      have hm4 := NSv.more o4 hz2 (unhide HN2).k (unhide HC)
      have HM4 := hide hm4
      have HN4 := hide ((unhide HN2).bel hb4)
      have HS4 := hide ((unhide HS2).bel hb4)
      have HK4 := hide ((unhide HK2).trans (Ke.of hb4))
      clear o4 g4 hm4 hb4 O3 HB3 z3 HS2 HK2 HN2
      refine (unhide IH w4 A2 _ _ (unhide HS4) (unhide HN4) (by omega)).mono ?_
      rintro e w5 ⟨l5, rfl, hm5, A5, hs5, hk5⟩
      have HS5 := hide hs5
      have HK5 := hide ((unhide HK4).trans hk5)
      have HN5 := hide ((unhide HN4).ke hk5)
      have HM5 := hide ((unhide HM4).ke hk5)
      have HE5 := hide hm5
      have hz5 : (bs l5).size ≤ 136 := by rw [bs_size]; exact Nat.le_trans hm5.2 (mB_2 hd)
      clear hs5 hk5 hm5 HS4 HK4 HN4 HM4
      go_wp2_with fail
      refine (unhide IH w5 A5 _ _ (unhide HS5) (unhide HN5) (by omega)).mono ?_
      rintro e w6 ⟨l6, rfl, hm6, A6, hs6, hk6⟩
      have HS6 := hide hs6
      have HK6 := hide ((unhide HK5).trans hk6)
      have HN6 := hide ((unhide HN5).ke hk6)
      have HM6 := hide ((unhide HM5).ke hk6)
      have HE6 := hide hm6
      have hz6 : (bs l6).size ≤ 136 := by rw [bs_size]; exact Nat.le_trans hm6.2 (mB_2 hd)
      clear hs6 hk6 hm6 HS5 HK5 HN5 HM5
      go_wp2_with fail
      go_ret
      refine ⟨_, ?_, ⟨((unhide HE5).1.con (unhide HE6).1), ?_⟩, A6, unhide HS6, unhide HK6⟩
      · simp only [one1_bs, ← bs_app]
        rfl
      · have q5 := (unhide HE5).2; have q6 := (unhide HE6).2; simp only [mB, List.length_append, List.length_cons, List.length_nil]; omega
    · go_wp2_with (first
        | (at_builtin; refine app_nv rfl (.tmp 47) (.tmp 48) rfl rfl (unhide O2) rfl (unhide ON2) (nmS_one L) (by simp [nmS]; omega) (Nat.le_refl _) ?_; intro v3 w3 o3 g3; have hb3 : Below w2.heap.size w2 w3 := grown_new (Below.refl _ _) g3 (Nat.le_refl _) (own_new (unhide O2)); have O3 := hide o3; have HB3 := hide hb3; have z3 := hb3.size; clear o3 g3 hb3 O2 ON2)
        | (at_builtin; refine app_nv rfl (.tmp 50) (.tmp 52) rfl rfl ((unhide O3).allc _) rfl (ownS.new w3 [.string (one1 c)] 0 (Nat.zero_le _) (by simp) 1 rfl) (by intro u hu; simp at hu; subst hu; rfl) (by simp [nmS]; omega) (by simp; omega) ?_; intro v4 w4 o4 g4))
      have hb4 : Below w2.heap.size w2 w4 := grown_new ((unhide HB3).alloc z3 _) g4 (by simp; omega) (own_new (unhide O3))
      rw [List.nil_append, nmS_snoc] at o4
      have hm4 := NSv.more o4 hz2 (unhide HN2).k (unhide HC)
      have HM4 := hide hm4
      have HN4 := hide ((unhide HN2).bel hb4)
      have HS4 := hide ((unhide HS2).bel hb4)
      have HK4 := hide ((unhide HK2).trans (Ke.of hb4))
      clear o4 g4 hm4 hb4 O3 HB3 z3 HS2 HK2 HN2
      refine (unhide IH w4 A2 _ _ (unhide HS4) (unhide HN4) (by omega)).mono ?_
      rintro e w5 ⟨l5, rfl, hm5, A5, hs5, hk5⟩
      have HS5 := hide hs5
      have HK5 := hide ((unhide HK4).trans hk5)
      have HN5 := hide ((unhide HN4).ke hk5)
      have HM5 := hide ((unhide HM4).ke hk5)
      have HE5 := hide hm5
      have hz5 : (bs l5).size ≤ 136 := by rw [bs_size]; exact Nat.le_trans hm5.2 (mB_2 hd)
      clear hs5 hk5 hm5 HS4 HK4 HN4 HM4
      go_wp2_with fail
      refine (unhide IH w5 A5 _ _ (unhide HS5) (unhide HN5) (by omega)).mono ?_
      rintro e w6 ⟨l6, rfl, hm6, A6, hs6, hk6⟩
      have HS6 := hide hs6
      have HK6 := hide ((unhide HK5).trans hk6)
      have HN6 := hide ((unhide HN5).ke hk6)
      have HM6 := hide ((unhide HM5).ke hk6)
      have HE6 := hide hm6
      have hz6 : (bs l6).size ≤ 136 := by rw [bs_size]; exact Nat.le_trans hm6.2 (mB_2 hd)
      clear hs6 hk6 hm6 HS5 HK5 HN5 HM5
      go_wp2_with fail
      go_ret
      refine ⟨_, ?_, ⟨((unhide HE5).1.ite (unhide HE6).1), ?_⟩, A6, unhide HS6, unhide HK6⟩
      · simp only [one1_bs, ← bs_app]
        rfl
      · have q5 := (unhide HE5).2; have q6 := (unhide HE6).2; simp only [mB, List.length_append, List.length_cons, List.length_nil]; omega
    · go_wp2_with (first
        | (at_builtin; refine app_nv rfl (.tmp 47) (.tmp 48) rfl rfl (unhide O2) rfl (unhide ON2) (nmS_one L) (by simp [nmS]; omega) (Nat.le_refl _) ?_; intro v3 w3 o3 g3; have hb3 : Below w2.heap.size w2 w3 := grown_new (Below.refl _ _) g3 (Nat.le_refl _) (own_new (unhide O2)); have O3 := hide o3; have HB3 := hide hb3; have z3 := hb3.size; clear o3 g3 hb3 O2 ON2)
        | (at_builtin; refine app_nv rfl (.tmp 50) (.tmp 52) rfl rfl ((unhide O3).allc _) rfl (ownS.new w3 [.string (one1 c)] 0 (Nat.zero_le _) (by simp) 1 rfl) (by intro u hu; simp at hu; subst hu; rfl) (by simp [nmS]; omega) (by simp; omega) ?_; intro v4 w4 o4 g4))
      have hb4 : Below w2.heap.size w2 w4 := grown_new ((unhide HB3).alloc z3 _) g4 (by simp; omega) (own_new (unhide O3))
      rw [List.nil_append, nmS_snoc] at o4
      have hm4 := NSv.more o4 hz2 (unhide HN2).k (unhide HC)
      have HM4 := hide hm4
      have HN4 := hide ((unhide HN2).bel hb4)
      have HS4 := hide ((unhide HS2).bel hb4)
      have HK4 := hide ((unhide HK2).trans (Ke.of hb4))
      clear o4 g4 hm4 hb4 O3 HB3 z3 HS2 HK2 HN2
      refine (unhide IH w4 A2 _ _ (unhide HS4) (unhide HN4) (by omega)).mono ?_
      rintro e w5 ⟨l5, rfl, hm5, A5, hs5, hk5⟩
      have HS5 := hide hs5
      have HK5 := hide ((unhide HK4).trans hk5)
      have HN5 := hide ((unhide HN4).ke hk5)
      have HM5 := hide ((unhide HM4).ke hk5)
      have HE5 := hide hm5
      have hz5 : (bs l5).size ≤ 136 := by rw [bs_size]; exact Nat.le_trans hm5.2 (mB_2 hd)
      clear hs5 hk5 hm5 HS4 HK4 HN4 HM4
      go_wp2_with fail
      refine (unhide IH w5 A5 _ _ (unhide HS5) (unhide HM5) (by simp; omega)).mono ?_
      rintro e w6 ⟨l6, rfl, hm6, A6, hs6, hk6⟩
      have HS6 := hide hs6
      have HK6 := hide ((unhide HK5).trans hk6)
      have HN6 := hide ((unhide HN5).ke hk6)
      have HM6 := hide ((unhide HM5).ke hk6)
      have HE6 := hide hm6
      have hz6 : (bs l6).size ≤ 136 := by rw [bs_size]; exact Nat.le_trans hm6.2 (mB_2 hd)
      clear hs6 hk6 hm6 HS5 HK5 HN5 HM5
      go_wp2_with fail
      go_ret
      refine ⟨_, ?_, ⟨(ME.mt (unhide HC) (unhide HE5).1 (unhide HE6).1), ?_⟩, A6, unhide HS6, unhide HK6⟩
      · simp only [one1_bs, ← bs_app]
        rfl
      · have q5 := (unhide HE5).2; have q6 := (unhide HE6).2; simp only [mB, List.length_append, List.length_cons, List.length_nil]; omega
theorem mk_any : ∀ d, d ≤ 3 → MkE xb p len cap r d
  | 0, _ => mk_0
  | d + 1, h => mk_s h (mk_any d (by omega))
end
end Go.Proofs.YteneoapickhpdaaGreatDoor
namespace Go.Proofs.YteneoapickhpdaaGreatDoor
open Go Go.RowKit Un
section
variable {w : World} {xb len cap : Nat} {p : Option Addr} {r : Nat → Int}
def xyzL : List Value := [.string ⟨#[120]⟩, .string ⟨#[121]⟩, .string ⟨#[122]⟩]
def xyzC (n : Nat) : UInt8 := if n = 0 then 120 else if n = 1 then 121 else 122
theorem xyz_nm (n : Nat) : NmL (one1 (xyzC n)) := by
  unfold xyzC
  split
  · exact nm1 120 (by decide) (by simp [Pu.wordB, Pu.words, ByteArray.toList_eq])
  · split
    · exact nm1 121 (by decide) (by simp [Pu.wordB, Pu.words, ByteArray.toList_eq])
    · exact nm1 122 (by decide) (by simp [Pu.wordB, Pu.words, ByteArray.toList_eq])
theorem xyz_at {w : World} {b : Nat} (h : Bx w b xyzL.toArray) (n : Nat) (hn : n < 3) : w.cell? ⟨b, n, none⟩ = some (.string (one1 (xyzC n))) := by
  rw [h.c n]
  have hc : n = 0 ∨ n = 1 ∨ n = 2 := by omega
  rcases hc with rfl | rfl | rfl <;> rfl
/-- The names that are declared so far, and the program behind them. -/
def PrR (xb : Nat) (p : Option Addr) (len cap : Nat) (r : Nat → Int) (w : World) (g : Nat) (s nm c : Value) (wr : World) : Prop :=
  ∃ (n : Nat) (l : List UInt8) (L : List UInt8) (A : Nat), g = 3 - n ∧ n ≤ 3 ∧ s = .string (bs l) ∧ c = .int .i64 (n : Int) ∧ MP n l ∧ ownS wr (w.heap.size + 1) nm (nmS L) ∧ L.length = n ∧ (∀ c ∈ L, NmL (one1 c)) ∧ Src wr xb p len cap r A ∧ Bx wr w.heap.size xyzL.toArray ∧ Ke xb w wr ∧ w.heap.size + 1 ≤ wr.heap.size
def ProgP (xb : Nat) (p : Option Addr) (len cap : Nat) (r : Nat → Int) (w : World) (e : Ending) (w' : World) : Prop := ∃ n l, n ≤ 3 ∧ e = .returned (.string (bs l)) ∧ MP n l ∧ SrcPost xb p len cap r w w'
theorem Bx.ke2 {w w' : World} {b rb : Nat} {C : Array Value} (h : Bx w b C) (hk : Ke rb w w') (hn : b ≠ rb) : Bx w' b C := h.same hk.size (hk.block b h.z hn)
theorem Ke.grow {xb : Nat} {a b c : World} {row : Option Nat} (h : Ke xb a b) (g : b.grownBy c row) (hr : ∀ k, row = some k → a.heap.size ≤ k) : Ke xb a c :=
  ⟨g.os.trans h.os, g.tape.trans h.tape, g.output.trans h.output, Nat.le_trans h.size g.size, fun k hk hn => (g.block k (Nat.lt_of_lt_of_le hk h.size) (fun e => by have := hr k e.symm; omega)).trans (h.block k hk hn)⟩
theorem Bx.grow {w w' : World} {b : Nat} {C : Array Value} {row : Option Nat} (h : Bx w b C) (g : w.grownBy w' row) (hr : ∀ k, row = some k → b < k) : Bx w' b C := h.same g.size (g.block b h.z (fun e => by have := hr b e.symm; omega))
set_option maxRecDepth 100000 in
set_option maxHeartbeats 4000000 in
theorem prog_C {A : Nat} (hS : Src w xb p len cap r A) : Calls Tryz.prog 6 #[.pointer (some ⟨xb, 0, none⟩)] w (ProgP xb p len cap r w) := by
  have hxz := hS.b.z
  have hb0 : Below w.heap.size w (w.alloc (.cells xyzL.toArray 9)) := (Below.refl _ _).alloc (Nat.le_refl _) _
  have HSW := hide hS
  have HS0 := hide (hS.bel hb0)
  have HB0 := hide (Bx.new w xyzL.toArray 9)
  have HK0 := hide (Ke.of (rb := xb) hb0)
  clear hS hb0
  go_enter Tryz.func6, Tryz.ntmps6
  go_wp2_with fail
  go_loopg [3, 5, 6] 3 (fun g s nm c wr => PrR xb p len cap r w g s nm c wr)
  case atStart => exact ⟨0, prel, [], A, rfl, by omega, rfl, rfl, MP.zero, World.ownsRow_nil _ _ _ _, rfl, by simp, unhide HS0, unhide HB0, unhide HK0, by simp⟩
  case round =>
    obtain ⟨n, l, L, A1, rfl, hn, rfl, rfl, hmp, ho, hL, hk, hs, hb, hke, hz⟩ := hrel
    have HC := hide (nextK_C hs 3 (by omega) (by omega))
    have HM := hide hmp
    have HO := hide ho
    have HN := hide hk
    have HB := hide hb
    have HK := hide hke
    have hll := hmp.1
    clear hmp ho hk hs hb hke HS0 HB0 HK0
    go_wp2_with fail
    refine (unhide HC).mono ?_
    rintro e w2 ⟨q, rfl, q0, q1, A2, hs2, hk2⟩
    have hnb : u5.ownBlock ≠ some xb := fun e => by have := own_new (unhide HO) xb e; omega
    have HS2 := hide hs2
    have HK2 := hide ((unhide HK).trans hk2)
    have HO2 := hide (own_ke' (unhide HO) hk2 hnb)
    have HB2 := hide ((unhide HB).ke2 hk2 (by omega))
    have z2 := hk2.size
    clear hs2 hk2 HC HO HB HK
    by_cases hq : (n : Int) ≤ q
    · have hn3 : (n : Int) < 3 := by omega
      have hn3' : n < 3 := by omega
      have HE := hide (mk_any 3 (by omega) w2 A2 u5 L (unhide HS2) ⟨⟨_, unhide HO2⟩, hnb, unhide HN⟩ (by omega))
      go_wp2_with fail
      refine (unhide HE).mono ?_
      rintro e w3 ⟨m, rfl, hm, A3, hs3, hk3⟩
      have hmz : (bs m).size ≤ 312 := by rw [bs_size]; exact hm.2
      have hlz : (bs l).size = l.length := bs_size l
      have HME := hide hm.1
      have HS3 := hide hs3
      have HK3 := hide ((unhide HK2).trans hk3)
      have HO3 := hide (own_ke' (unhide HO2) hk3 hnb)
      have HB3 := hide ((unhide HB2).ke2 hk3 (by omega))
      have z3 := hk3.size
      have hc3 := xyz_at (unhide HB3) n hn3'
      have h1z := one1_sz (xyzC n)
      clear hs3 hk3 hm HE HS2 HK2 HO2 HB2
      by_cases h330 : (330 : Int) < ((bs l).size : Int) + ((bs m).size : Int)
      · go_wp2_with (at_builtin; refine app_nv rfl (.tmp 39) (.tmp 44) rfl rfl ((unhide HO3).allc _) rfl (ownS.new w3 [.string (one1 (xyzC n))] 0 (Nat.zero_le _) (by simp) 1 rfl) (by intro u hu; simp at hu; subst hu; rfl) (by simp [nmS]; omega) (by simp; omega) ?_; intro v4 w4 o4 g4)
        have hr4 := own_new (unhide HO3)
        have k4 := ((unhide HK3).alloc (.cells #[.string (one1 (xyzC n))] 9)).grow g4 (fun k e => by have := hr4 k e; omega)
        have s4 := (unhide HSW).ke k4 (((unhide HS3).b.alloc (.cells #[.string (one1 (xyzC n))] 9)).grow g4 (fun k e => by have := hr4 k e; omega)) (unhide HS3).a
        have b4 := ((unhide HB3).alloc (.cells #[.string (one1 (xyzC n))] 9)).grow g4 (fun k e => by have := hr4 k e; omega)
        have z4 := g4.size
        rw [nmS_snoc] at o4
        go_roundg (3 - (n + 1))
        case rel =>
          refine ⟨n + 1, _, L ++ [xyzC n], A3, rfl, by omega, ?_, by go_num, (unhide HM).next (xyz_nm n) ME.one (Or.inr rfl), o4, by simp [hL], fun x hx => ?_, s4, b4, k4, by simp at z4; omega⟩
          · simp only [one1_bs, ← bs_app]
            rfl
          · rcases List.mem_append.1 hx with y | y
            · exact unhide HN x y
            · rw [List.mem_singleton.1 y]; exact xyz_nm n
        case measure => omega
      · go_wp2_with (at_builtin; refine app_nv rfl (.tmp 39) (.tmp 44) rfl rfl ((unhide HO3).allc _) rfl (ownS.new w3 [.string (one1 (xyzC n))] 0 (Nat.zero_le _) (by simp) 1 rfl) (by intro u hu; simp at hu; subst hu; rfl) (by simp [nmS]; omega) (by simp; omega) ?_; intro v4 w4 o4 g4)
        have hr4 := own_new (unhide HO3)
        have k4 := ((unhide HK3).alloc (.cells #[.string (one1 (xyzC n))] 9)).grow g4 (fun k e => by have := hr4 k e; omega)
        have s4 := (unhide HSW).ke k4 (((unhide HS3).b.alloc (.cells #[.string (one1 (xyzC n))] 9)).grow g4 (fun k e => by have := hr4 k e; omega)) (unhide HS3).a
        have b4 := ((unhide HB3).alloc (.cells #[.string (one1 (xyzC n))] 9)).grow g4 (fun k e => by have := hr4 k e; omega)
        have z4 := g4.size
        rw [nmS_snoc] at o4
        go_roundg (3 - (n + 1))
        case rel =>
          refine ⟨n + 1, _, L ++ [xyzC n], A3, rfl, by omega, ?_, by go_num, (unhide HM).next (xyz_nm n) (unhide HME) (Or.inl (by rw [bs_size] at h330 hlz; rw [bs_size] at h330; omega)), o4, by simp [hL], fun x hx => ?_, s4, b4, k4, by simp at z4; omega⟩
          · simp only [one1_bs, ← bs_app]
            rfl
          · rcases List.mem_append.1 hx with y | y
            · exact unhide HN x y
            · rw [List.mem_singleton.1 y]; exact xyz_nm n
        case measure => omega
    · have hq' : decide ((n : Int) ≤ q) = false := by simpa using hq
      go_wp2_with fail
      go_ret
      exact ⟨n, l, hn, rfl, unhide HM, A2, unhide HS2, unhide HK2⟩
end
end Go.Proofs.YteneoapickhpdaaGreatDoor
namespace Go.Proofs.YteneoapickhpdaaGreatDoor
open Go Go.RowKit Go.ChangeMaps Un
theorem show_cases (s : ByteArray) : ∃ z f, showA s = (z, f) ∧ ((f.kind ≠ 0 ∧ z = [] ∧ f.frm ≤ f.to ∧ f.to ≤ s.size) ∨ (f = noFl ∧ (z.length ≤ 400 → showA (bs z) = (z, noFl)) ∧ z.length ≤ 800000)) := by
  cases hr : readP s with
  | error f =>
    obtain ⟨a, b, c⟩ := readP_bad hr
    exact ⟨[], f, by unfold showA; rw [hr], .inl ⟨a, rfl, b, c⟩⟩
  | ok B =>
    refine ⟨prS B, noFl, by unfold showA; rw [hr], .inr ⟨rfl, fun hz => ?_, (smP_all s B hr).2.2⟩⟩
    obtain ⟨D, d1, d2⟩ := reshow hr hz
    unfold showA
    simp only [d1, d2]
section
variable {w : World}
theorem show_known (hL : Laid w) (h10 : P10 w) {s : ByteArray} {z : List UInt8} {f : Fl} (h : showA s = (z, f)) : Calls Tryz.prog 7 #[.string s] w fun e w' => e = .returned (.tuple #[.string (bs z), ftV f.kind f.frm f.to]) ∧ Below w.heap.size w w' :=
  (Show_P itoaC h10 hL s (smP_all s) (knP s)).mono fun e w' q => by
    obtain ⟨e1, hb⟩ := q
    rw [h] at e1
    exact ⟨e1, hb⟩
set_option maxRecDepth 100000 in
set_option maxHeartbeats 800000 in
theorem shows_C (hL : Laid w) (h10 : P10 w) : Calls Tryz.prog 5 #[] w fun e w' => e = .returned (.bool true) ∧ Below w.heap.size w w' := by
  have HC := hide (show_known hL h10 show_A)
  have HD : Hid (∀ W, Below w.heap.size w W → _) := hide (fun W hb => show_known (hL.bel hb) (h10.bel hb) show_B)
  simp only [noFl] at HC
  go_enter Tryz.func5, Tryz.ntmps5
  go_wp2_with fail
  refine (unhide HC).mono ?_
  rintro e w1 ⟨rfl, hb1⟩
  have hb2 : Below w1.heap.size w1 (w1.alloc (.cells #[.int .i64 0, .int .i64 0, .int .i64 0] 30)) := (Below.refl _ _).alloc (Nat.le_refl _) _
  have HB2 := hb1.trans (hb2.mono hb1.size)
  have G1 := hide (Ox.new w1 #[.int .i64 0, .int .i64 0, .int .i64 0] 30 _ rfl)
  have HS := hide (unhide HD _ HB2)
  unfold ftV
  clear HC HD
  go_wp2_with fail
  refine (unhide HS).mono ?_
  rintro e w3 ⟨rfl, hb3⟩
  have HB3 := HB2.trans (hb3.mono HB2.size)
  have hb4 : Below w3.heap.size w3 (w3.alloc (.cells #[.int .i64 3, .int .i64 11, .int .i64 11] 30)) := (Below.refl _ _).alloc (Nat.le_refl _) _
  have HB4 := HB3.trans (hb4.mono HB3.size)
  obtain ⟨c1, z1⟩ := ((unhide G1).below hb3).below hb4
  have hfz : ((bs fixZ).toList == [108, 101, 116, 32, 105, 100, 32, 61, 32, 102, 117, 110, 32, 120, 32, 45, 62, 32, 120, 59, 10]) = true := by rw [bs_list]; rfl
  unfold ftV
  clear HS
  go_wp2_with fail
  go_ret
  exact ⟨rfl, HB4⟩
set_option maxRecDepth 100000 in
set_option maxHeartbeats 8000000 in
/-- Reshown of any source and any raw numbers: true, and nothing old is turned. -/
theorem Reshown_law (hL : Laid w) (h10 : P10 w) (s : ByteArray) {p : Option Addr} {len cap : Nat} {r : Nat → Int} (hlen : (len : Int) ≤ 9223372036854775807) (hR : Raw w p len r) :
    Calls Tryz.prog 3 #[.string s, .slice p len cap] w fun e w' => e = .returned (.bool true) ∧ Below w.heap.size w w' := by
  have HJ := hide (shows_C hL h10)
  have HR := hide hR
  have HL := hide hL
  have HT := hide h10
  clear hR hL h10
  have HP : Hid (∀ W A (xb : Nat), Src W xb p len cap r A → Calls Tryz.prog 6 #[.pointer (some ⟨xb, 0, none⟩)] W (ProgP xb p len cap r W)) := hide (fun W A xb h => prog_C h)
  go_enter Tryz.func3, Tryz.ntmps3
  go_wp2_with fail
  refine (unhide HJ).mono ?_
  rintro e w1 ⟨rfl, hb1⟩
  have hb2 : Below w1.heap.size w1 (w1.alloc (.cells #[.slice p len cap, .int .i64 0] 26)) := (Below.refl _ _).alloc (Nat.le_refl _) _
  have HB2 := hb1.trans (hb2.mono hb1.size)
  have S2 : Src (w1.alloc (.cells #[.slice p len cap, .int .i64 0] 26)) w1.heap.size p len cap r 0 := by
    refine ⟨Bx.new w1 _ _, Nat.zero_le _, hlen, fun i hi => ?_, fun i hi => (unhide HR i hi).2⟩
    obtain ⟨g, o, e, hg, hc⟩ := (unhide HR i hi).1
    have hz := hb1.size
    exact ⟨g, o, e, by simp; omega, by omega, (World.cell?_of_block (a := ⟨g, o + i, none⟩) (w := w) (HB2.block g hg)).trans hc⟩
  have HP2 := hide (unhide HP _ 0 _ S2)
  have hzz := hb1.size
  clear HJ HP S2
  go_wp2_with fail
  refine (unhide HP2).mono ?_
  rintro e w3 ⟨n, l, hn, rfl, hm3, A3, hs3, hk3⟩
  have HB3 : Below w.heap.size w w3 := hk3.low HB2 HB2.size hzz
  obtain ⟨S, hS0, hs1, hs2⟩ := hm3.shown hn
  have HS1 := hide (show_known ((unhide HL).bel HB3) ((unhide HT).bel HB3) hs1)
  have HS2 := hide hs2
  simp only [noFl] at HS1
  clear HP2 hm3 hs3 hk3 hs1 hs2 hb2
  go_wp2_with fail
  refine (unhide HS1).mono ?_
  rintro e w4 ⟨rfl, hb4⟩
  have HB4 := HB3.trans (hb4.mono HB3.size)
  have hb5 : Below w4.heap.size w4 (w4.alloc (.cells #[.int .i64 0, .int .i64 0, .int .i64 0] 30)) := (Below.refl _ _).alloc (Nat.le_refl _) _
  have HB5 := HB4.trans (hb5.mono HB4.size)
  have G1 := hide (Bx.new w4 #[.int .i64 0, .int .i64 0, .int .i64 0] 30)
  have HS3 := hide (show_known ((unhide HL).bel HB5) ((unhide HT).bel HB5) (unhide HS2))
  simp only [noFl] at HS3
  unfold ftV
  clear HS1 HS2 hb5
  go_wp2_with fail
  refine (unhide HS3).mono ?_
  rintro e w6 ⟨rfl, hb6⟩
  have HB6 := HB5.trans (hb6.mono HB5.size)
  have hb7 : Below w6.heap.size w6 (w6.alloc (.cells #[.int .i64 0, .int .i64 0, .int .i64 0] 30)) := (Below.refl _ _).alloc (Nat.le_refl _) _
  have HB7 := HB6.trans (hb7.mono HB6.size)
  have G2 := hide (((unhide G1).below hb6).below hb7)
  have K2 := hide (Bx.new w6 #[.int .i64 0, .int .i64 0, .int .i64 0] 30)
  obtain ⟨zz, fl, hzf, hcs⟩ := show_cases s
  have HS4 := hide (show_known ((unhide HL).bel HB7) ((unhide HT).bel HB7) hzf)
  clear hzf
  obtain ⟨c1, f1, z1⟩ := unhide G2
  have e1 : ((bs S).toList == []) = false := by
    rw [bs_list]
    cases S with
    | nil => exact absurd rfl hS0
    | cons x y => rfl
  have e2 : ((bs S).toList == (bs S).toList) = true := by simp
  unfold ftV
  clear HS3 G1 hb7
  go_wp2_with fail
  refine (unhide HS4).mono ?_
  rintro e w8 ⟨rfl, hb8⟩
  have HB8 := HB7.trans (hb8.mono HB7.size)
  have G3 := hide ((unhide G2).below hb8)
  have K3 := hide ((unhide K2).below hb8)
  have zb : w.heap.size ≤ w4.heap.size := HB4.size
  have zc : w.heap.size ≤ w6.heap.size := HB6.size
  clear c1 f1 z1 HS4 G2 K2 e1 e2
  obtain ⟨c1, f1, z1⟩ := unhide G3
  unfold ftV
  rcases hcs with ⟨hk, rfl, h1, h2⟩ | ⟨rfl, hag, hz8⟩
  · have hk' : ((fl.kind : Int) == 0) = false := by simp; omega
    have h0' : (0 : Int) ≤ (fl.frm : Int) := by omega
    have h1' : (fl.frm : Int) ≤ (fl.to : Int) := by omega
    have h2' : (fl.to : Int) ≤ (s.size : Int) := by omega
    have e3 : ((bs []).toList == []) = true := by rw [bs_list]; rfl
    go_wp2_with fail
    go_ret
    exact ⟨rfl, ((HB8.setCell (p := ⟨w4.heap.size, 0, none⟩) zb _).setCell (p := ⟨w4.heap.size, 1, none⟩) zb _).setCell (p := ⟨w4.heap.size, 2, none⟩) zb _⟩
  · simp only [noFl]
    by_cases hz : zz.length ≤ 400
    · have hzl : ((bs zz).size : Int) ≤ 400 := by rw [bs_size]; omega
      have HB9 := ((HB8.setCell (p := ⟨w4.heap.size, 0, none⟩) zb (.int .i64 0)).setCell (p := ⟨w4.heap.size, 1, none⟩) zb (.int .i64 0)).setCell (p := ⟨w4.heap.size, 2, none⟩) zb (.int .i64 0)
      have HS5 := hide (show_known ((unhide HL).bel HB9) ((unhide HT).bel HB9) (hag hz))
      have hne : w6.heap.size ≠ w4.heap.size := by have := hb6.size; simp at this; omega
      have K4 := hide ((((unhide K3).setO hne 0 (.int .i64 0)).setO hne 1 (.int .i64 0)).setO hne 2 (.int .i64 0))
      simp only [noFl] at HS5
      clear hag
      go_wp2_with fail
      refine (unhide HS5).mono ?_
      rintro e w10 ⟨rfl, hb10⟩
      have HB10 := HB9.trans (hb10.mono HB9.size)
      have e4 : ((bs zz).toList == (bs zz).toList) = true := by simp
      clear c1 f1 z1 HS5
      obtain ⟨c1, f1, z1⟩ := (unhide K4).below hb10
      unfold ftV
      go_wp2_with fail
      go_ret
      exact ⟨rfl, ((HB10.setCell (p := ⟨w6.heap.size, 0, none⟩) zc _).setCell (p := ⟨w6.heap.size, 1, none⟩) zc _).setCell (p := ⟨w6.heap.size, 2, none⟩) zc _⟩
    · have hzl : (400 : Int) < ((bs zz).size : Int) := by rw [bs_size]; omega
      have hzm : ((bs zz).size : Int) ≤ 800000 := by rw [bs_size]; omega
      go_wp2_with fail
      go_ret
      exact ⟨rfl, ((HB8.setCell (p := ⟨w4.heap.size, 0, none⟩) zb _).setCell (p := ⟨w4.heap.size, 1, none⟩) zb _).setCell (p := ⟨w4.heap.size, 2, none⟩) zb _⟩
end
end Go.Proofs.YteneoapickhpdaaGreatDoor

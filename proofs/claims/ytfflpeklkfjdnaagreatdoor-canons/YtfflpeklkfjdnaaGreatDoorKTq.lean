import Derived.Deep.Cut
import Derived.Deep.RegionWith
import Derived.Test.YtfflpeklkfjdnaaGreatDoorKTp
set_option linter.unusedSimpArgs false
set_option linter.unusedVariables false
set_option linter.unusedSectionVars false
namespace Go.Proofs.YtfflpeklkfjdnaaGreatDoor
open Go Go.RowKit Un
section
variable {pb kb base : Nat} {hv iv : Value} {N : Nat} {K : Nat → Option Ty} {R : Nat → Ty} {rk : Nat → Nat}
/-- That writing keeps its promise, at types up to a size. -/
def WrC (pb kb base : Nat) (hv iv : Value) (N : Nat) (K : Nat → Option Ty) (R : Nat → Ty) (s : Nat) : Prop :=
  ∀ (P : Nat → Prop) (lv : Value) (l : List Nat) (w : World), WS w pb kb base hv iv N K P lv l → ∀ (t : Ty) (x : TV), TR w P N t x → size (sub R t) ≤ s → ∀ (tight : Nat), l.length + size (sub R t) ≤ 1000 →
    Calls Tryz.prog 29 #[.pointer (some ⟨pb, 0, none⟩), x.v, .int .i64 (tight : Int)] w (WrPost pb kb base hv iv N K P lv l (sub R t) tight w)
theorem idx_getElem_le : ∀ (L : List Nat) (j : Nat) (h : j < L.length), L.idxOf L[j] ≤ j
  | [], j, h => by simp at h
  | a :: L, 0, h => by simp
  | a :: L, j + 1, h => by
      have ih := idx_getElem_le L j (by simpa using h)
      simp only [List.getElem_cons_succ, List.idxOf_cons]
      cases (a == L[j]'(by simpa using h)) with
      | true => simp
      | false => simp; omega
theorem oneNe {L : List Nat} {n : Nat} (h : n ∈ L) : L.idxOf n < L.length := List.idxOf_lt_length_of_mem h

set_option maxRecDepth 100000 in
set_option maxHeartbeats 4000000 in
theorem write_var (hK : Knw K R rk) (hW : ∀ n, Wf (R n)) {s : Nat} (ih : WrC pb kb base hv iv N K R s) {P : Nat → Prop} {lv : Value} {l : List Nat} {w : World} (h : WS w pb kb base hv iv N K P lv l) {t : Ty} {x : TV} (hx : TR w P N t x) (hs : size (sub R t) ≤ s + 1) (tight : Nat) (hl : l.length + size (sub R t) ≤ 1000)
    (hsh : ∃ n, sub R t = .var n) :
    Calls Tryz.prog 29 #[.pointer (some ⟨pb, 0, none⟩), x.v, .int .i64 (tight : Int)] w (WrPost pb kb base hv iv N K P lv l (sub R t) tight w) := by
  have H := hide h.low
  have HK := hide hK
  have HW := hide hW
  have IH := hide ih
  have Hs := hide hs
  have Hl := hide hl
  have Hsh := hide hsh
  have bb := (Below.refl w.heap.size w).alloc (Nat.le_refl _) (.cells x.a 85)
  have HX := hide (hx.low.bel bb)
  have HXW := hide hx.wf
  have HB := hide bb
  have B0 := hide (Bx.new w x.a 85)
  have H1 := hide (h.low.bel bb)
  have p0 := (h.low.bel bb).ps.c0
  have pf := (h.low.bel bb).ps.fz
  have hpb := h.ps.hk
  clear h hK hx hs hl hsh ih hW bb
  unfold TV.v
  go_enter Tryz.func29, Tryz.ntmps29
  obtain ⟨c0, f0, y0⟩ := unhide B0
  unfold TV.a at c0 f0 p0 pf
  go_wp2_with fail
  go_cut [] from 15 (fun wc => ∃ t1 x1, Below w.heap.size w wc ∧ Bx wc w.heap.size (TV.a x1) ∧ TR w (fun b => P b ∧ b < w.heap.size) N t1 x1 ∧ Hid (sub R t1 = sub R t) ∧ Hid (∀ n, t1 = .var n → K n = none))
  case first =>
    go_region_with (go_at_call 69; refine (look_C ((unhide H1).ks.bel (Below.refl _ _).drew) (unhide HK) ((unhide HX).bel (Below.refl _ _).drew)).mono ?_; rintro e w1 ⟨t1, ⟨n1, s1, la1, ll1, lc1⟩, rfl, hb1, hT, hR, hO⟩; have B1 := hide ((unhide B0).drew.below hb1); obtain ⟨c1, f1, y1⟩ := unhide B1; unfold TV.a at c1; have HB1 := hide hb1; have HT1 := hide hT; have HR1 := hide hR; have HO1 := hide hO; clear hb1 hT hR hO; unfold TV.v)
    all_goals go_wp2_with fail
    all_goals go_meet
    all_goals exact ⟨t1, ⟨n1, s1, la1, ll1, lc1⟩, (((unhide HB).drew).trans ((unhide HB1).mono (by simp))).set3 (Nat.le_refl _) _ _ _, (unhide B1).set3 rfl _ _ _, ((unhide HT1).bel (Below.refl _ _)).back ((unhide HB).drew), HR1, HO1⟩
  case rest =>
    rename World => wq
    clear c0 f0 y0 p0 pf B0 HX H1 HB
    obtain ⟨t1, ⟨n1, s1, la1, ll1, lc1⟩, hb, hB, hT, hR, hO⟩ := hcut
    have HB := hide hb
    have B0 := hide hB
    have HT := hide hT
    have H1 := hide ((unhide H).bel hb)
    have nS : Hid (¬ SW pb lv w.heap.size ∧ w.heap.size ≠ kb ∧ ¬ KB hv iv w.heap.size) := ⟨fun k => by have := (unhide H).ps.lt k; omega, by have := (unhide H).ks.hk; omega, fun k => by have := (unhide H).ks.kb_lt k; omega⟩
    obtain ⟨c0, f0, y0⟩ := unhide B0
    unfold TV.a at c0
    simp only at c0
    have p0 := (unhide H1).ps.c0
    have p1 := (unhide H1).ps.c1
    have pf := (unhide H1).ps.fz
    clear hb hB hT
    obtain ⟨n, ht⟩ := unhide Hsh
    obtain ⟨rfl, rfl, rfl, rfl, rfl, rfl⟩ : t1 = .var n ∧ n1 = n ∧ s1 = ⟨#[]⟩ ∧ la1 = none ∧ ll1 = 0 ∧ lc1 = 0 := by
      have hR' := unhide hR
      rw [ht] at hR'
      rcases (unhide HT).two with ⟨m, rfl, _, _, e⟩ | ⟨c, L, rfl, _⟩
      · have := (unhide HK).open_ m (unhide hO m rfl)
        simp [sub, this] at hR'
        subst hR'
        injection e with e1 e2 e3 e4 e5
        exact ⟨rfl, e1, e2, e3, e4, e5⟩
      · simp [sub] at hR'
    have hn0 : 0 < n ∧ n ≤ N := by
      rcases (unhide HT).two with ⟨m, e, h1, h2, _⟩ | ⟨c, L, e, _⟩
      · injection e with e; subst e; exact ⟨h1, h2⟩
      · cases e
    have Ho := hide (unhide hO n rfl)
    have hT' : Hid (sub R t = .var n) := ht
    have hl1 : l.length + 1 ≤ 1000 := by have := unhide Hl; rw [ht] at this; simpa [size] using this
    have hn' : (0 : Int) < (n : Int) := by omega
    clear ht hR hO
    go_wp2_with fail
    go_cut [] from 15 (fun wd => ∃ lv2, PS wd pb kb base lv2 (Un.seen l n) ∧ Fr (SW pb lv) wq wd ∧ (∀ b, lv2.ownBlock = some b → lv.ownBlock = some b ∨ w.heap.size < b))
    case first =>
      go_region_with (go_at_call 70; refine (vars_C ((unhide H1).ks.bel (Below.refl _ _).drew) (unhide HK) hn0.1 hn0.2 (unhide Ho) (own_below (unhide H1).ps.ol (Below.refl _ _).drew) (by omega) (unhide H1).hb).mono ?_; rintro e w2 ⟨lv2, rfl, ho2, hF2, hL2⟩; obtain ⟨la2, ca2, rfl⟩ := own_slice ho2; have k2 : w2.heap[pb]? = wq.heap[pb]? := hF2.block pb (by have := (unhide H1).ps.hk; exact this) (unhide H1).ps.nl; have d1 := (World.cell?_of_block (a := ⟨pb, 1, none⟩) k2).trans p1; have df : ∀ j, w2.frozen? ⟨pb, j, none⟩ = false := fun j => (World.frozen?_of_block (a := ⟨pb, j, none⟩) k2).trans (pf j); have d0 := (World.cell?_of_block (a := ⟨pb, 0, none⟩) k2).trans p0; have HO2 := hide ho2; have HF2 := hide hF2; have HL2 := hide hL2; clear ho2 hF2 hL2 k2)
      all_goals go_wp2_with fail
      all_goals go_meet
      all_goals
        have nl2 : (Value.slice la2 (Un.seen l n).length ca2).ownBlock ≠ some pb := fun e => by
          rcases unhide HL2 pb e with k | k
          · exact (unhide H1).ps.nl k
          · have := (unhide H1).ps.hk; have k : wq.heap.size ≤ pb := k; omega
        exact ⟨.slice la2 (Un.seen l n).length ca2, ⟨by rw [World.cell?_setCell_other _ _ _ _ (by simp)]; exact d0, World.cell?_setCell_same _ _ _ d1, fun j => by simpa using df j, by have := (unhide H1).ps.hk; have h2 : wq.heap.size ≤ w2.heap.size := (unhide HF2).size; simp [World.setCell]; omega, own_oth (unhide HO2) nl2 _ _, nl2⟩, (((Fr.of (S := SW pb lv) (Below.refl _ _).drew).trans' (unhide HF2) (fun b k => Or.inl (Or.inr k))).set (Or.inl (Or.inl rfl)) _ _), fun b e => (unhide HL2 b e).imp id (fun k => by have k : wq.heap.size ≤ b := k; omega)⟩
    case rest =>
      obtain ⟨lv2, hP2, hF2, hL2⟩ := hcut
      obtain ⟨la2, ca2, rfl⟩ := own_slice hP2.ol
      have HP2 := hide hP2
      have HF2 := hide hF2
      have HL2 := hide hL2
      have nB := unhide nS
      have HL3 : Hid (∀ b, (Value.slice la2 (Un.seen l n).length ca2).ownBlock = some b → lv.ownBlock = some b ∨ w.heap.size ≤ b) := fun b e => (hL2 b e).imp id (fun k => by omega)
      have DJ2 : Hid (∀ b, SW pb (.slice la2 (Un.seen l n).length ca2) b → ¬ (b = kb ∨ KB hv iv b ∨ (P b ∧ b < w.heap.size))) := by
        rintro b (sw | sw) k
        · exact (unhide H).dj b (Or.inl sw) k
        · rcases hL2 b sw with sw | sw
          · exact (unhide H).dj b (Or.inr sw) k
          · rcases k with k | k | k
            · have := (unhide H).ks.hk; omega
            · have := (unhide H).ks.kb_lt k; omega
            · omega
      have B2 := hide ((unhide B0).fr hF2 nB.1)
      clear c0 f0 y0 p0 p1 pf hP2 hF2 hL2
      have hin : Hid (n ∈ Un.seen l n) := Un.mem_seen.2 (Or.inr rfl)
      have hix := oneNe (unhide hin)
      have hsl := seen_len l n
      go_wp2_with fail
      go_loopg [7] (Un.seen l n).length (fun gk c wr => ∃ j : Nat, Hid (gk = (Un.seen l n).length - j) ∧ j ≤ (Un.seen l n).idxOf n ∧ c = .int .i64 (j : Int) ∧ Below wc.heap.size wc wr)
      case atStart => exact ⟨0, hide rfl, Nat.zero_le _, rfl, Below.refl _ _⟩
      case round =>
        obtain ⟨j, hgk, hj, rfl, hB⟩ := hrel
        have HBr := hide hB
        have PR := hide ((unhide HP2).same hB.size (fun b z _ => hB.block b z))
        have p0 := (unhide PR).c0
        have p1 := (unhide PR).c1
        obtain ⟨c0, f0, y0⟩ := (unhide B2).below hB
        unfold TV.a at c0
        simp only at c0
        have c00 := c0 0
        simp at c00
        obtain ⟨g, q, e, zg, _⟩ := own_open (unhide PR).ol (by omega)
        cases e
        have hlt : (j : Int) < ((Un.seen l n).length : Int) := by omega
        have d0 := own_cell (unhide PR).ol j (by omega)
        have hjl : j < (Un.seen l n).length := by omega
        rw [show (ints (Un.seen l n))[j]? = some (.int .i64 (((Un.seen l n)[j] : Nat) : Int)) by simp [ints, hjl]] at d0
        by_cases he : (Un.seen l n)[j] = n
        · have he' : ((((Un.seen l n)[j] : Nat) : Int) == (n : Int)) = true := by simp [he]
          have hjx : Hid ((Un.seen l n).idxOf n = j) := by
            show _ = _
            have h1 : (Un.seen l n).idxOf n ≤ j := by
              have h2 := idx_getElem_le (Un.seen l n) j hjl
              rw [he] at h2
              exact h2
            omega
          clear he hB
          go_wp2_with fail
          go_quiet (fail)
          go_wp2_with fail
          refine (decimal_C j _ (by omega)).mono ?_
          rintro e w5 ⟨rfl, hb5⟩
          have HB5 := hide (((unhide HBr).drewN _).trans (hb5.mono (unhide HBr).size))
          have hlen : ¬ 9223372036854775807 < (⟨#[39, 118]⟩ : ByteArray).size + (bs (dec j)).size := by
            have := dec_len j
            rw [bs_size]; have : (⟨#[39, 118]⟩ : ByteArray).size = 2 := rfl; omega
          clear hb5
          go_wp2_with fail
          go_ret
          have eT : vars l (sub R t) = Un.seen l n := by rw [unhide hT']; rfl
          have bL : Below wc.heap.size wc _ := unhide HB5
          have hsq := (unhide HF2).size
          have hsw := (unhide HB).size
          refine ⟨_, ?_, ?_, ?_, unhide HL3⟩
          · rw [eT, unhide hT']
            show Ending.returned (.string _) = _
            rw [show Un.wr dec (Un.seen l n) (.var n) tight = 39 :: 118 :: dec j by simp only [Un.wr, unhide hjx]]
            congr 2
          · rw [eT]
            exact ⟨((unhide H1).ks.same hsq (fun b z k => (unhide HF2).block b z (fun sw => (unhide H).dj b sw k))).bel bL, (unhide HP2).same bL.size (fun b z _ => bL.block b z), unhide DJ2, Nat.le_trans (Nat.le_trans (unhide H).hb hsw) (Nat.le_trans hsq bL.size)⟩
          · exact ((Fr.of (unhide HB)).trans' (unhide HF2) (fun b k => Or.inl k)).low (bL.mono (by omega))
        · have he' : ((((Un.seen l n)[j] : Nat) : Int) == (n : Int)) = false := by simp; omega
          have hjn : j + 1 ≤ (Un.seen l n).idxOf n := by
            by_cases e : (Un.seen l n).idxOf n = j
            · exact absurd (by have h2 := List.getElem_idxOf hix; simp only [e] at h2; exact h2) he
            · omega
          clear he hB
          go_wp2_with fail
          go_quiet (fail)
          go_wp2_with fail
          go_roundg ((Un.seen l n).length - (j + 1))
          case measure => rw [unhide hgk]; omega
          case rel => exact ⟨j + 1, hide rfl, hjn, by go_num, (unhide HBr).drewN _⟩
end
end Go.Proofs.YtfflpeklkfjdnaaGreatDoor
namespace Go.Proofs.YtfflpeklkfjdnaaGreatDoor
open Go Go.RowKit Un
section
variable {pb kb base : Nat} {hv iv : Value} {N : Nat} {K : Nat → Option Ty} {R : Nat → Ty} {rk : Nat → Nat}

set_option maxRecDepth 100000 in
set_option maxHeartbeats 4000000 in
theorem write_fn (hK : Knw K R rk) (hW : ∀ n, Wf (R n)) {s : Nat} (ih : WrC pb kb base hv iv N K R s) {P : Nat → Prop} {lv : Value} {l : List Nat} {w : World} (h : WS w pb kb base hv iv N K P lv l) {t : Ty} {x : TV} (hx : TR w P N t x) (hs : size (sub R t) ≤ s + 1) (tight : Nat) (hl : l.length + size (sub R t) ≤ 1000)
    (hsh : ∃ u v, sub R t = .con nFn [u, v]) :
    Calls Tryz.prog 29 #[.pointer (some ⟨pb, 0, none⟩), x.v, .int .i64 (tight : Int)] w (WrPost pb kb base hv iv N K P lv l (sub R t) tight w) := by
  have H := hide h.low
  have HK := hide hK
  have HW := hide hW
  have IH := hide ih
  have Hs := hide hs
  have Hl := hide hl
  have Hsh := hide hsh
  have bb := (Below.refl w.heap.size w).alloc (Nat.le_refl _) (.cells x.a 85)
  have HX := hide (hx.low.bel bb)
  have HXW := hide hx.wf
  have HB := hide bb
  have B0 := hide (Bx.new w x.a 85)
  have H1 := hide (h.low.bel bb)
  have p0 := (h.low.bel bb).ps.c0
  have pf := (h.low.bel bb).ps.fz
  have hpb := h.ps.hk
  clear h hK hx hs hl hsh ih hW bb
  unfold TV.v
  go_enter Tryz.func29, Tryz.ntmps29
  obtain ⟨c0, f0, y0⟩ := unhide B0
  unfold TV.a at c0 f0 p0 pf
  go_wp2_with fail
  go_cut [] from 15 (fun wc => ∃ t1 x1, Below w.heap.size w wc ∧ Bx wc w.heap.size (TV.a x1) ∧ TR w (fun b => P b ∧ b < w.heap.size) N t1 x1 ∧ Hid (sub R t1 = sub R t) ∧ Hid (∀ n, t1 = .var n → K n = none))
  case first =>
    go_region_with (go_at_call 69; refine (look_C ((unhide H1).ks.bel (Below.refl _ _).drew) (unhide HK) ((unhide HX).bel (Below.refl _ _).drew)).mono ?_; rintro e w1 ⟨t1, ⟨n1, s1, la1, ll1, lc1⟩, rfl, hb1, hT, hR, hO⟩; have B1 := hide ((unhide B0).drew.below hb1); obtain ⟨c1, f1, y1⟩ := unhide B1; unfold TV.a at c1; have HB1 := hide hb1; have HT1 := hide hT; have HR1 := hide hR; have HO1 := hide hO; clear hb1 hT hR hO; unfold TV.v)
    all_goals go_wp2_with fail
    all_goals go_meet
    all_goals exact ⟨t1, ⟨n1, s1, la1, ll1, lc1⟩, (((unhide HB).drew).trans ((unhide HB1).mono (by simp))).set3 (Nat.le_refl _) _ _ _, (unhide B1).set3 rfl _ _ _, ((unhide HT1).bel (Below.refl _ _)).back ((unhide HB).drew), HR1, HO1⟩
  case rest =>
    rename World => wq
    clear c0 f0 y0 p0 pf B0 HX H1 HB
    obtain ⟨t1, ⟨n1, s1, la1, ll1, lc1⟩, hb, hB, hT, hR, hO⟩ := hcut
    have HB := hide hb
    have B0 := hide hB
    have HT := hide hT
    have H1 := hide ((unhide H).bel hb)
    have nS : Hid (¬ SW pb lv w.heap.size ∧ w.heap.size ≠ kb ∧ ¬ KB hv iv w.heap.size) := ⟨fun k => by have := (unhide H).ps.lt k; omega, by have := (unhide H).ks.hk; omega, fun k => by have := (unhide H).ks.kb_lt k; omega⟩
    obtain ⟨c0, f0, y0⟩ := unhide B0
    unfold TV.a at c0
    simp only at c0
    have p0 := (unhide H1).ps.c0
    have p1 := (unhide H1).ps.c1
    have pf := (unhide H1).ps.fz
    clear hb hB hT
    obtain ⟨u, v, ht⟩ := unhide Hsh
    obtain ⟨a, b, rfl, rfl, rfl⟩ : ∃ a b, t1 = .con nFn [a, b] ∧ n1 = 0 ∧ s1 = nFn := by
      have hR' := unhide hR
      rw [ht] at hR'
      rcases (unhide HT).two with ⟨m, rfl, _, _, e⟩ | ⟨c, L, rfl, e1, e2⟩
      · have := (unhide HK).open_ m (unhide hO m rfl)
        simp [sub, this] at hR'
      · simp only [sub, Ty.con.injEq] at hR'
        obtain ⟨rfl, hL⟩ := hR'
        have hl : L.length = 2 := by have := congrArg List.length hL; simpa [subL_length] using this
        match L, hl with
        | [a, b], _ => exact ⟨a, b, rfl, e1, e2⟩
    obtain ⟨hl1, _, hp⟩ := (unhide HT).parts
    simp only [parts, List.length_cons, List.length_nil] at hl1 hp
    subst hl1
    obtain ⟨g, xa, rfl, ⟨zg, pg⟩, ra, na⟩ := hp 0 (by omega)
    obtain ⟨g', xb, eg, _, rb, nb⟩ := hp 1 (by omega)
    obtain rfl : g = g' := by injection eg with e; injection e
    have hT' : Hid (sub R t = .con nFn [sub R a, sub R b]) := by show _ = _; rw [← unhide hR]; simp [sub, subL]
    have hsz : size (sub R t) = 1 + (size (sub R a) + size (sub R b)) := by rw [unhide hT']; simp [size, sizeL]
    have hla := unhide Hl
    have hsa := unhide Hs
    have hwf : Wf (sub R t) := Wf.sub' t (unhide HXW) (fun v _ => unhide HW v)
    rw [unhide hT'] at hwf
    have WA := hide hwf.2.1
    have WB := hide hwf.2.2.1
    have NA := hide (na.bel (unhide HB))
    have NB := hide nb
    have RB := hide rb
    have q : ∀ j, j < 3 → wq.cell? ⟨g, j, none⟩ = (xa.l)[j]? := fun j hj => (oldCell (unhide HB) g j zg).trans (by simpa using ra j hj)
    have q0 := q 0 (by omega)
    have q1 := q 1 (by omega)
    have q2 := q 2 (by omega)
    simp only [TV.l, List.getElem?_cons_zero, List.getElem?_cons_succ] at q0 q1 q2
    clear ht hR hO hp na nb ra rb hwf q eg
    go_wp2_with fail
    refine (unhide IH _ lv l _ (unhide H1) a xa (unhide NA) (by omega) 1 (by omega)).mono ?_
    rintro e w2 ⟨lv2, rfl, hW2, hF2, hL2⟩
    have hq2 : wq.heap.size ≤ w2.heap.size := hF2.size
    have hwq := (unhide HB).size
    have nB := unhide nS
    have B2 := hide ((unhide B0).fr hF2 nB.1)
    have oc : ∀ c, (P c ∧ c < w.heap.size) → w2.heap[c]? = w.heap[c]? := fun c q => (hF2.block c (by omega) (fun sw => (unhide H).dj c sw (Or.inr (Or.inr q)))).trans ((unhide HB).block c q.2)
    have NB2 := hide ((unhide NB).move (w' := w2) (Q := fun c => (P c ∧ c < w.heap.size) ∧ c < wq.heap.size) (Nat.le_refl _) (by omega) (fun c q _ => oc c q) (fun c q _ => ⟨q, by omega⟩))
    have r : ∀ j, j < 3 → w2.cell? ⟨g, 3 + j, none⟩ = (xb.l)[j]? := fun j hj => (World.cell?_of_block (a := ⟨g, 3 + j, none⟩) (oc g pg)).trans (by simpa using unhide RB j hj)
    have r0 := r 0 (by omega)
    have r1 := r 1 (by omega)
    have r2 := r 2 (by omega)
    simp only [TV.l, List.getElem?_cons_zero, List.getElem?_cons_succ, Nat.add_zero, Nat.reduceAdd] at r0 r1 r2
    have W2 := hide hW2
    have F2 := hide hF2
    have L2 := hide hL2
    have hva := vars_len (sub R a) l
    have sA : Hid ((bs (wr dec (vars l (sub R a)) (sub R a) 1)).size ≤ 3000000) := by
      show _ ≤ _
      rw [bs_size]
      have := wr_len (L := vars l (sub R a)) (by omega) (sub R a) (unhide WA) 1
      omega
    have eA : Hid (∃ sa, sa = bs (wr dec (vars l (sub R a)) (sub R a) 1)) := ⟨_, rfl⟩
    obtain ⟨sa, hsa'⟩ := unhide eA
    rw [← hsa'] at sA ⊢
    have Hsa := hide hsa'
    clear hW2 hF2 hL2 oc r q0 q1 q2 c0 f0 y0 eA hsa'
    obtain ⟨c0, f0, y0⟩ := unhide B2
    unfold TV.a at c0
    simp only at c0
    go_wp2_with fail
    refine (unhide IH _ lv2 _ _ (unhide W2) b xb (unhide NB2) (by omega) 0 (by omega)).mono ?_
    rintro e w3 ⟨lv3, rfl, hW3, hF3, hL3⟩
    have hq3 : w2.heap.size ≤ w3.heap.size := hF3.size
    have W3 := hide hW3
    have F3 := hide hF3
    have L3 := hide hL3
    have hvb := vars_len (sub R b) (vars l (sub R a))
    have sB : Hid ((bs (wr dec (vars (vars l (sub R a)) (sub R b)) (sub R b) 0)).size ≤ 3000000) := by
      show _ ≤ _
      rw [bs_size]
      have := wr_len (L := vars (vars l (sub R a)) (sub R b)) (by omega) (sub R b) (unhide WB) 0
      omega
    have eB : Hid (∃ sb, sb = bs (wr dec (vars (vars l (sub R a)) (sub R b)) (sub R b) 0)) := ⟨_, rfl⟩
    obtain ⟨sb, hsb'⟩ := unhide eB
    rw [← hsb'] at sB ⊢
    have Hsb := hide hsb'
    clear hW3 hF3 hL3 r0 r1 r2 c0 f0 y0 eB hsb'
    have post : Hid (∀ z : ByteArray, z = bs (wr dec (vars l (sub R t)) (sub R t) tight) → WrPost pb kb base hv iv N K P lv l (sub R t) tight w (.returned (.string z)) w3) := by
      rintro z rfl
      have eV : vars l (sub R t) = vars (vars l (sub R a)) (sub R b) := by rw [unhide hT']; rfl
      refine ⟨lv3, rfl, ?_, ?_, ?_⟩
      · rw [eV]
        exact (unhide W3).wide (fun c q => q.1.1) (fun c q => ⟨⟨q, by omega⟩, by omega⟩)
      · exact ((Fr.of (unhide HB)).trans' (unhide F2) (fun c k => Or.inl k)).trans' (unhide F3) (fun c k => by
          rcases k with k | k
          · exact Or.inl (Or.inl k)
          · rcases unhide L2 c k with k | k
            · exact Or.inl (Or.inr k)
            · exact Or.inr (by omega))
      · intro c k
        rcases unhide L3 c k with k | k
        · rcases unhide L2 c k with k | k
          · exact Or.inl k
          · exact Or.inr (by omega)
        · exact Or.inr (by omega)
    have wfin : Hid (wr dec (vars l (sub R t)) (sub R t) tight = joined nFn [fun k => wr dec (vars l (sub R a)) (sub R a) k, fun k => wr dec (vars (vars l (sub R a)) (sub R b)) (sub R b) k] tight) := by
      show _ = _
      rw [unhide hT']
      have e1 : vars l (.con nFn [sub R a, sub R b]) = vars (vars l (sub R a)) (sub R b) := rfl
      rw [e1]
      simp only [wr, wrA]
      rw [wr_vars_mid (l := l) (t := sub R a) (vars_pre (sub R b) (vars l (sub R a)))]
    have za := unhide sA
    have zb := unhide sB
    by_cases ht0 : 0 < tight
    · have ht1 : (0 : Int) < (tight : Int) := by omega
      have k1 : ¬ 9223372036854775807 < (⟨#[40]⟩ : ByteArray).size + sa.size := by (try simp only [ByteArray.size_append]); have : (⟨#[40]⟩ : ByteArray).size = 1 := rfl; have : (⟨#[41]⟩ : ByteArray).size = 1 := rfl; have : (⟨#[32, 45, 62, 32]⟩ : ByteArray).size = 4 := rfl; have : (⟨#[44, 32]⟩ : ByteArray).size = 2 := rfl; omega
      have k2 : ¬ 9223372036854775807 < ((⟨#[40]⟩ : ByteArray) ++ sa).size + (⟨#[32, 45, 62, 32]⟩ : ByteArray).size := by (try simp only [ByteArray.size_append]); have : (⟨#[40]⟩ : ByteArray).size = 1 := rfl; have : (⟨#[41]⟩ : ByteArray).size = 1 := rfl; have : (⟨#[32, 45, 62, 32]⟩ : ByteArray).size = 4 := rfl; have : (⟨#[44, 32]⟩ : ByteArray).size = 2 := rfl; omega
      have k3 : ¬ 9223372036854775807 < ((⟨#[40]⟩ : ByteArray) ++ sa ++ (⟨#[32, 45, 62, 32]⟩ : ByteArray)).size + sb.size := by (try simp only [ByteArray.size_append]); have : (⟨#[40]⟩ : ByteArray).size = 1 := rfl; have : (⟨#[41]⟩ : ByteArray).size = 1 := rfl; have : (⟨#[32, 45, 62, 32]⟩ : ByteArray).size = 4 := rfl; have : (⟨#[44, 32]⟩ : ByteArray).size = 2 := rfl; omega
      have k4 : ¬ 9223372036854775807 < ((⟨#[40]⟩ : ByteArray) ++ sa ++ (⟨#[32, 45, 62, 32]⟩ : ByteArray) ++ sb).size + (⟨#[41]⟩ : ByteArray).size := by (try simp only [ByteArray.size_append]); have : (⟨#[40]⟩ : ByteArray).size = 1 := rfl; have : (⟨#[41]⟩ : ByteArray).size = 1 := rfl; have : (⟨#[32, 45, 62, 32]⟩ : ByteArray).size = 4 := rfl; have : (⟨#[44, 32]⟩ : ByteArray).size = 2 := rfl; omega
      go_wp2_with fail
      go_ret
      refine unhide post _ ?_
      rw [unhide wfin, unhide Hsa, unhide Hsb]
      show bs [40] ++ bs _ ++ bs [32, 45, 62, 32] ++ bs _ ++ bs [41] = _
      rw [bs_app, bs_app, bs_app, bs_app]
      congr 1
      simp [joined, nth, par, ht0]
    · have ht1 : ¬ (0 : Int) < (tight : Int) := by omega
      have k1 : ¬ 9223372036854775807 < sa.size + (⟨#[32, 45, 62, 32]⟩ : ByteArray).size := by (try simp only [ByteArray.size_append]); have : (⟨#[40]⟩ : ByteArray).size = 1 := rfl; have : (⟨#[41]⟩ : ByteArray).size = 1 := rfl; have : (⟨#[32, 45, 62, 32]⟩ : ByteArray).size = 4 := rfl; have : (⟨#[44, 32]⟩ : ByteArray).size = 2 := rfl; omega
      have k2 : ¬ 9223372036854775807 < (sa ++ (⟨#[32, 45, 62, 32]⟩ : ByteArray)).size + sb.size := by (try simp only [ByteArray.size_append]); have : (⟨#[40]⟩ : ByteArray).size = 1 := rfl; have : (⟨#[41]⟩ : ByteArray).size = 1 := rfl; have : (⟨#[32, 45, 62, 32]⟩ : ByteArray).size = 4 := rfl; have : (⟨#[44, 32]⟩ : ByteArray).size = 2 := rfl; omega
      go_wp2_with fail
      go_ret
      refine unhide post _ ?_
      rw [unhide wfin, unhide Hsa, unhide Hsb]
      show bs _ ++ bs [32, 45, 62, 32] ++ bs _ = _
      rw [bs_app, bs_app]
      congr 1
      simp [joined, nth, par, ht0]

set_option maxRecDepth 100000 in
set_option maxHeartbeats 4000000 in
theorem write_pr (hK : Knw K R rk) (hW : ∀ n, Wf (R n)) {s : Nat} (ih : WrC pb kb base hv iv N K R s) {P : Nat → Prop} {lv : Value} {l : List Nat} {w : World} (h : WS w pb kb base hv iv N K P lv l) {t : Ty} {x : TV} (hx : TR w P N t x) (hs : size (sub R t) ≤ s + 1) (tight : Nat) (hl : l.length + size (sub R t) ≤ 1000)
    (hsh : ∃ u v, sub R t = .con nPr [u, v]) :
    Calls Tryz.prog 29 #[.pointer (some ⟨pb, 0, none⟩), x.v, .int .i64 (tight : Int)] w (WrPost pb kb base hv iv N K P lv l (sub R t) tight w) := by
  have H := hide h.low
  have HK := hide hK
  have HW := hide hW
  have IH := hide ih
  have Hs := hide hs
  have Hl := hide hl
  have Hsh := hide hsh
  have bb := (Below.refl w.heap.size w).alloc (Nat.le_refl _) (.cells x.a 85)
  have HX := hide (hx.low.bel bb)
  have HXW := hide hx.wf
  have HB := hide bb
  have B0 := hide (Bx.new w x.a 85)
  have H1 := hide (h.low.bel bb)
  have p0 := (h.low.bel bb).ps.c0
  have pf := (h.low.bel bb).ps.fz
  have hpb := h.ps.hk
  clear h hK hx hs hl hsh ih hW bb
  unfold TV.v
  go_enter Tryz.func29, Tryz.ntmps29
  obtain ⟨c0, f0, y0⟩ := unhide B0
  unfold TV.a at c0 f0 p0 pf
  go_wp2_with fail
  go_cut [] from 15 (fun wc => ∃ t1 x1, Below w.heap.size w wc ∧ Bx wc w.heap.size (TV.a x1) ∧ TR w (fun b => P b ∧ b < w.heap.size) N t1 x1 ∧ Hid (sub R t1 = sub R t) ∧ Hid (∀ n, t1 = .var n → K n = none))
  case first =>
    go_region_with (go_at_call 69; refine (look_C ((unhide H1).ks.bel (Below.refl _ _).drew) (unhide HK) ((unhide HX).bel (Below.refl _ _).drew)).mono ?_; rintro e w1 ⟨t1, ⟨n1, s1, la1, ll1, lc1⟩, rfl, hb1, hT, hR, hO⟩; have B1 := hide ((unhide B0).drew.below hb1); obtain ⟨c1, f1, y1⟩ := unhide B1; unfold TV.a at c1; have HB1 := hide hb1; have HT1 := hide hT; have HR1 := hide hR; have HO1 := hide hO; clear hb1 hT hR hO; unfold TV.v)
    all_goals go_wp2_with fail
    all_goals go_meet
    all_goals exact ⟨t1, ⟨n1, s1, la1, ll1, lc1⟩, (((unhide HB).drew).trans ((unhide HB1).mono (by simp))).set3 (Nat.le_refl _) _ _ _, (unhide B1).set3 rfl _ _ _, ((unhide HT1).bel (Below.refl _ _)).back ((unhide HB).drew), HR1, HO1⟩
  case rest =>
    rename World => wq
    clear c0 f0 y0 p0 pf B0 HX H1 HB
    obtain ⟨t1, ⟨n1, s1, la1, ll1, lc1⟩, hb, hB, hT, hR, hO⟩ := hcut
    have HB := hide hb
    have B0 := hide hB
    have HT := hide hT
    have H1 := hide ((unhide H).bel hb)
    have nS : Hid (¬ SW pb lv w.heap.size ∧ w.heap.size ≠ kb ∧ ¬ KB hv iv w.heap.size) := ⟨fun k => by have := (unhide H).ps.lt k; omega, by have := (unhide H).ks.hk; omega, fun k => by have := (unhide H).ks.kb_lt k; omega⟩
    obtain ⟨c0, f0, y0⟩ := unhide B0
    unfold TV.a at c0
    simp only at c0
    have p0 := (unhide H1).ps.c0
    have p1 := (unhide H1).ps.c1
    have pf := (unhide H1).ps.fz
    clear hb hB hT
    obtain ⟨u, v, ht⟩ := unhide Hsh
    obtain ⟨a, b, rfl, rfl, rfl⟩ : ∃ a b, t1 = .con nPr [a, b] ∧ n1 = 0 ∧ s1 = nPr := by
      have hR' := unhide hR
      rw [ht] at hR'
      rcases (unhide HT).two with ⟨m, rfl, _, _, e⟩ | ⟨c, L, rfl, e1, e2⟩
      · have := (unhide HK).open_ m (unhide hO m rfl)
        simp [sub, this] at hR'
      · simp only [sub, Ty.con.injEq] at hR'
        obtain ⟨rfl, hL⟩ := hR'
        have hl : L.length = 2 := by have := congrArg List.length hL; simpa [subL_length] using this
        match L, hl with
        | [a, b], _ => exact ⟨a, b, rfl, e1, e2⟩
    obtain ⟨hl1, _, hp⟩ := (unhide HT).parts
    simp only [parts, List.length_cons, List.length_nil] at hl1 hp
    subst hl1
    obtain ⟨g, xa, rfl, ⟨zg, pg⟩, ra, na⟩ := hp 0 (by omega)
    obtain ⟨g', xb, eg, _, rb, nb⟩ := hp 1 (by omega)
    obtain rfl : g = g' := by injection eg with e; injection e
    have hT' : Hid (sub R t = .con nPr [sub R a, sub R b]) := by show _ = _; rw [← unhide hR]; simp [sub, subL]
    have hsz : size (sub R t) = 1 + (size (sub R a) + size (sub R b)) := by rw [unhide hT']; simp [size, sizeL]
    have hla := unhide Hl
    have hsa := unhide Hs
    have hwf : Wf (sub R t) := Wf.sub' t (unhide HXW) (fun v _ => unhide HW v)
    rw [unhide hT'] at hwf
    have WA := hide hwf.2.1
    have WB := hide hwf.2.2.1
    have NA := hide (na.bel (unhide HB))
    have NB := hide nb
    have RB := hide rb
    have q : ∀ j, j < 3 → wq.cell? ⟨g, j, none⟩ = (xa.l)[j]? := fun j hj => (oldCell (unhide HB) g j zg).trans (by simpa using ra j hj)
    have q0 := q 0 (by omega)
    have q1 := q 1 (by omega)
    have q2 := q 2 (by omega)
    simp only [TV.l, List.getElem?_cons_zero, List.getElem?_cons_succ] at q0 q1 q2
    clear ht hR hO hp na nb ra rb hwf q eg
    go_wp2_with fail
    refine (unhide IH _ lv l _ (unhide H1) a xa (unhide NA) (by omega) 0 (by omega)).mono ?_
    rintro e w2 ⟨lv2, rfl, hW2, hF2, hL2⟩
    have hq2 : wq.heap.size ≤ w2.heap.size := hF2.size
    have hwq := (unhide HB).size
    have nB := unhide nS
    have B2 := hide ((unhide B0).fr hF2 nB.1)
    have oc : ∀ c, (P c ∧ c < w.heap.size) → w2.heap[c]? = w.heap[c]? := fun c q => (hF2.block c (by omega) (fun sw => (unhide H).dj c sw (Or.inr (Or.inr q)))).trans ((unhide HB).block c q.2)
    have NB2 := hide ((unhide NB).move (w' := w2) (Q := fun c => (P c ∧ c < w.heap.size) ∧ c < wq.heap.size) (Nat.le_refl _) (by omega) (fun c q _ => oc c q) (fun c q _ => ⟨q, by omega⟩))
    have r : ∀ j, j < 3 → w2.cell? ⟨g, 3 + j, none⟩ = (xb.l)[j]? := fun j hj => (World.cell?_of_block (a := ⟨g, 3 + j, none⟩) (oc g pg)).trans (by simpa using unhide RB j hj)
    have r0 := r 0 (by omega)
    have r1 := r 1 (by omega)
    have r2 := r 2 (by omega)
    simp only [TV.l, List.getElem?_cons_zero, List.getElem?_cons_succ, Nat.add_zero, Nat.reduceAdd] at r0 r1 r2
    have W2 := hide hW2
    have F2 := hide hF2
    have L2 := hide hL2
    have hva := vars_len (sub R a) l
    have sA : Hid ((bs (wr dec (vars l (sub R a)) (sub R a) 0)).size ≤ 3000000) := by
      show _ ≤ _
      rw [bs_size]
      have := wr_len (L := vars l (sub R a)) (by omega) (sub R a) (unhide WA) 0
      omega
    have eA : Hid (∃ sa, sa = bs (wr dec (vars l (sub R a)) (sub R a) 0)) := ⟨_, rfl⟩
    obtain ⟨sa, hsa'⟩ := unhide eA
    rw [← hsa'] at sA ⊢
    have Hsa := hide hsa'
    clear hW2 hF2 hL2 oc r q0 q1 q2 c0 f0 y0 eA hsa'
    obtain ⟨c0, f0, y0⟩ := unhide B2
    unfold TV.a at c0
    simp only at c0
    go_wp2_with fail
    refine (unhide IH _ lv2 _ _ (unhide W2) b xb (unhide NB2) (by omega) 0 (by omega)).mono ?_
    rintro e w3 ⟨lv3, rfl, hW3, hF3, hL3⟩
    have hq3 : w2.heap.size ≤ w3.heap.size := hF3.size
    have W3 := hide hW3
    have F3 := hide hF3
    have L3 := hide hL3
    have hvb := vars_len (sub R b) (vars l (sub R a))
    have sB : Hid ((bs (wr dec (vars (vars l (sub R a)) (sub R b)) (sub R b) 0)).size ≤ 3000000) := by
      show _ ≤ _
      rw [bs_size]
      have := wr_len (L := vars (vars l (sub R a)) (sub R b)) (by omega) (sub R b) (unhide WB) 0
      omega
    have eB : Hid (∃ sb, sb = bs (wr dec (vars (vars l (sub R a)) (sub R b)) (sub R b) 0)) := ⟨_, rfl⟩
    obtain ⟨sb, hsb'⟩ := unhide eB
    rw [← hsb'] at sB ⊢
    have Hsb := hide hsb'
    clear hW3 hF3 hL3 r0 r1 r2 c0 f0 y0 eB hsb'
    have post : Hid (∀ z : ByteArray, z = bs (wr dec (vars l (sub R t)) (sub R t) tight) → WrPost pb kb base hv iv N K P lv l (sub R t) tight w (.returned (.string z)) w3) := by
      rintro z rfl
      have eV : vars l (sub R t) = vars (vars l (sub R a)) (sub R b) := by rw [unhide hT']; rfl
      refine ⟨lv3, rfl, ?_, ?_, ?_⟩
      · rw [eV]
        exact (unhide W3).wide (fun c q => q.1.1) (fun c q => ⟨⟨q, by omega⟩, by omega⟩)
      · exact ((Fr.of (unhide HB)).trans' (unhide F2) (fun c k => Or.inl k)).trans' (unhide F3) (fun c k => by
          rcases k with k | k
          · exact Or.inl (Or.inl k)
          · rcases unhide L2 c k with k | k
            · exact Or.inl (Or.inr k)
            · exact Or.inr (by omega))
      · intro c k
        rcases unhide L3 c k with k | k
        · rcases unhide L2 c k with k | k
          · exact Or.inl k
          · exact Or.inr (by omega)
        · exact Or.inr (by omega)
    have wfin : Hid (wr dec (vars l (sub R t)) (sub R t) tight = joined nPr [fun k => wr dec (vars l (sub R a)) (sub R a) k, fun k => wr dec (vars (vars l (sub R a)) (sub R b)) (sub R b) k] tight) := by
      show _ = _
      rw [unhide hT']
      have e1 : vars l (.con nPr [sub R a, sub R b]) = vars (vars l (sub R a)) (sub R b) := rfl
      rw [e1]
      simp only [wr, wrA]
      rw [wr_vars_mid (l := l) (t := sub R a) (vars_pre (sub R b) (vars l (sub R a)))]
    have za := unhide sA
    have zb := unhide sB
    have k1 : ¬ 9223372036854775807 < (⟨#[40]⟩ : ByteArray).size + sa.size := by (try simp only [ByteArray.size_append]); have : (⟨#[40]⟩ : ByteArray).size = 1 := rfl; have : (⟨#[41]⟩ : ByteArray).size = 1 := rfl; have : (⟨#[32, 45, 62, 32]⟩ : ByteArray).size = 4 := rfl; have : (⟨#[44, 32]⟩ : ByteArray).size = 2 := rfl; omega
    have k2 : ¬ 9223372036854775807 < ((⟨#[40]⟩ : ByteArray) ++ sa).size + (⟨#[44, 32]⟩ : ByteArray).size := by (try simp only [ByteArray.size_append]); have : (⟨#[40]⟩ : ByteArray).size = 1 := rfl; have : (⟨#[41]⟩ : ByteArray).size = 1 := rfl; have : (⟨#[32, 45, 62, 32]⟩ : ByteArray).size = 4 := rfl; have : (⟨#[44, 32]⟩ : ByteArray).size = 2 := rfl; omega
    have k3 : ¬ 9223372036854775807 < ((⟨#[40]⟩ : ByteArray) ++ sa ++ (⟨#[44, 32]⟩ : ByteArray)).size + sb.size := by (try simp only [ByteArray.size_append]); have : (⟨#[40]⟩ : ByteArray).size = 1 := rfl; have : (⟨#[41]⟩ : ByteArray).size = 1 := rfl; have : (⟨#[32, 45, 62, 32]⟩ : ByteArray).size = 4 := rfl; have : (⟨#[44, 32]⟩ : ByteArray).size = 2 := rfl; omega
    have k4 : ¬ 9223372036854775807 < ((⟨#[40]⟩ : ByteArray) ++ sa ++ (⟨#[44, 32]⟩ : ByteArray) ++ sb).size + (⟨#[41]⟩ : ByteArray).size := by (try simp only [ByteArray.size_append]); have : (⟨#[40]⟩ : ByteArray).size = 1 := rfl; have : (⟨#[41]⟩ : ByteArray).size = 1 := rfl; have : (⟨#[32, 45, 62, 32]⟩ : ByteArray).size = 4 := rfl; have : (⟨#[44, 32]⟩ : ByteArray).size = 2 := rfl; omega
    go_wp2_with fail
    go_ret
    refine unhide post _ ?_
    rw [unhide wfin, unhide Hsa, unhide Hsb]
    show bs [40] ++ bs _ ++ bs [44, 32] ++ bs _ ++ bs [41] = _
    rw [bs_app, bs_app, bs_app, bs_app]
    congr 1
    simp [joined, nth, show ¬ nPr = nFn by decide]
end
end Go.Proofs.YtfflpeklkfjdnaaGreatDoor
namespace Go.Proofs.YtfflpeklkfjdnaaGreatDoor
open Go Go.RowKit Un
section
variable {pb kb base : Nat} {hv iv : Value} {N : Nat} {K : Nat → Option Ty} {R : Nat → Ty} {rk : Nat → Nat}
/-- Ahead of each round of write. -/
def UpW (w wq : World) (pb kb base : Nat) (hv iv : Value) (N : Nat) (K : Nat → Option Ty) (P : Nat → Prop) (lv : Value) (l : List Nat) (R : Nat → Ty) (L : List Ty) (nm : ByteArray) (C : Array Value) (gk : Nat) (sv c : Value) (wr : World) : Prop :=
  ∃ (j : Nat) (lvj : Value) (sj : ByteArray), Hid (gk = L.length - j) ∧ j ≤ L.length ∧ c = .int .i64 (j : Int) ∧ sv = .string sj ∧ Hid (sj = bs (nm.toList ++ (wrA dec (varsL l (subL R (L.take j))) (subL R (L.take j))).flatMap fun p => 32 :: p 2)) ∧
    WS wr pb kb base hv iv N K (fun b => P b ∧ b < w.heap.size) lvj (varsL l (subL R (L.take j))) ∧ Fr (SW pb lv) wq wr ∧ (∀ b, lvj.ownBlock = some b → lv.ownBlock = some b ∨ wq.heap.size ≤ b) ∧ Bx wr w.heap.size C
theorem WfL_at {R : Nat → Ty} {L : List Ty} (h : WfL (subL R L)) (j : Nat) (hj : j < L.length) : Wf (sub R L[j]) := by
  rw [subL_map] at h
  exact (WfL_iff _).1 h _ (List.mem_map.2 ⟨_, List.getElem_mem hj, rfl⟩)
theorem WfL_take {R : Nat → Ty} {L : List Ty} (h : WfL (subL R L)) {j : Nat} : WfL (subL R (L.take j)) := by
  rw [subL_map] at h ⊢
  refine (WfL_iff _).2 fun t ht => (WfL_iff _).1 h t ?_
  obtain ⟨u, hu, rfl⟩ := List.mem_map.1 ht
  exact List.mem_map.2 ⟨u, List.mem_of_mem_take hu, rfl⟩
theorem varsL_app : ∀ (a b : List Ty) (l : List Nat), varsL l (a ++ b) = varsL (varsL l a) b
  | [], b, l => by simp [varsL]
  | x :: a, b, l => by simp [varsL, varsL_app a b]

set_option maxRecDepth 100000 in
set_option maxHeartbeats 4000000 in
theorem write_up (hK : Knw K R rk) (hW : ∀ n, Wf (R n)) {s : Nat} (ih : WrC pb kb base hv iv N K R s) {P : Nat → Prop} {lv : Value} {l : List Nat} {w : World} (h : WS w pb kb base hv iv N K P lv l) {t : Ty} {x : TV} (hx : TR w P N t x) (hs : size (sub R t) ≤ s + 1) (tight : Nat) (hl : l.length + size (sub R t) ≤ 1000)
    (hsh : ∃ c L, sub R t = .con c L ∧ c ≠ nFn ∧ c ≠ nPr) :
    Calls Tryz.prog 29 #[.pointer (some ⟨pb, 0, none⟩), x.v, .int .i64 (tight : Int)] w (WrPost pb kb base hv iv N K P lv l (sub R t) tight w) := by
  have H := hide h.low
  have HK := hide hK
  have HW := hide hW
  have IH := hide ih
  have Hs := hide hs
  have Hl := hide hl
  have Hsh := hide hsh
  have bb := (Below.refl w.heap.size w).alloc (Nat.le_refl _) (.cells x.a 85)
  have HX := hide (hx.low.bel bb)
  have HXW := hide hx.wf
  have HB := hide bb
  have B0 := hide (Bx.new w x.a 85)
  have H1 := hide (h.low.bel bb)
  have p0 := (h.low.bel bb).ps.c0
  have pf := (h.low.bel bb).ps.fz
  have hpb := h.ps.hk
  clear h hK hx hs hl hsh ih hW bb
  unfold TV.v
  go_enter Tryz.func29, Tryz.ntmps29
  obtain ⟨c0, f0, y0⟩ := unhide B0
  unfold TV.a at c0 f0 p0 pf
  go_wp2_with fail
  go_cut [] from 15 (fun wc => ∃ t1 x1, Below w.heap.size w wc ∧ Bx wc w.heap.size (TV.a x1) ∧ TR w (fun b => P b ∧ b < w.heap.size) N t1 x1 ∧ Hid (sub R t1 = sub R t) ∧ Hid (∀ n, t1 = .var n → K n = none))
  case first =>
    go_region_with (go_at_call 69; refine (look_C ((unhide H1).ks.bel (Below.refl _ _).drew) (unhide HK) ((unhide HX).bel (Below.refl _ _).drew)).mono ?_; rintro e w1 ⟨t1, ⟨n1, s1, la1, ll1, lc1⟩, rfl, hb1, hT, hR, hO⟩; have B1 := hide ((unhide B0).drew.below hb1); obtain ⟨c1, f1, y1⟩ := unhide B1; unfold TV.a at c1; have HB1 := hide hb1; have HT1 := hide hT; have HR1 := hide hR; have HO1 := hide hO; clear hb1 hT hR hO; unfold TV.v)
    all_goals go_wp2_with fail
    all_goals go_meet
    all_goals exact ⟨t1, ⟨n1, s1, la1, ll1, lc1⟩, (((unhide HB).drew).trans ((unhide HB1).mono (by simp))).set3 (Nat.le_refl _) _ _ _, (unhide B1).set3 rfl _ _ _, ((unhide HT1).bel (Below.refl _ _)).back ((unhide HB).drew), HR1, HO1⟩
  case rest =>
    rename World => wq
    clear c0 f0 y0 p0 pf B0 HX H1 HB
    obtain ⟨t1, ⟨n1, s1, la1, ll1, lc1⟩, hb, hB, hT, hR, hO⟩ := hcut
    have HB := hide hb
    have B0 := hide hB
    have HT := hide hT
    have H1 := hide ((unhide H).bel hb)
    have nS : Hid (¬ SW pb lv w.heap.size ∧ w.heap.size ≠ kb ∧ ¬ KB hv iv w.heap.size) := ⟨fun k => by have := (unhide H).ps.lt k; omega, by have := (unhide H).ks.hk; omega, fun k => by have := (unhide H).ks.kb_lt k; omega⟩
    obtain ⟨c0, f0, y0⟩ := unhide B0
    unfold TV.a at c0
    simp only at c0
    have p0 := (unhide H1).ps.c0
    have p1 := (unhide H1).ps.c1
    have pf := (unhide H1).ps.fz
    clear hb hB hT
    obtain ⟨c, LT, ht, hc1, hc2⟩ := unhide Hsh
    obtain ⟨L, rfl, rfl, rfl⟩ : ∃ L, t1 = .con c L ∧ n1 = 0 ∧ s1 = c := by
      have hR' := unhide hR
      rw [ht] at hR'
      rcases (unhide HT).two with ⟨m, rfl, _, _, e⟩ | ⟨c', L, rfl, e1, e2⟩
      · have := (unhide HK).open_ m (unhide hO m rfl)
        simp [sub, this] at hR'
      · simp only [sub, Ty.con.injEq] at hR'
        obtain ⟨rfl, hL⟩ := hR'
        exact ⟨L, rfl, e1, e2⟩
    obtain ⟨hl1, hL1, hp⟩ := (unhide HT).parts
    simp only [parts] at hl1 hp hL1
    subst hl1
    have hT' : Hid (sub R t = .con s1 (subL R L)) := by show _ = _; rw [← unhide hR]; simp [sub]
    have hsz : size (sub R t) = 1 + sizeL (subL R L) := by rw [unhide hT']; simp [size]
    have hla := unhide Hl
    have hsa := unhide Hs
    have hwf : Wf (sub R t) := Wf.sub' t (unhide HXW) (fun v _ => unhide HW v)
    rw [unhide hT'] at hwf
    have WC := hide hwf.1.1
    have WL := hide hwf.2
    have Hp := hide hp
    have n1 : (s1.toList == [62]) = false := by
      cases e : (s1.toList == [62]) with
      | false => rfl
      | true => exact absurd (toList_inj (b := nFn) (by rw [ByteArray.toList_eq nFn]; simpa using e)) hc1
    have n2 : (s1.toList == [44]) = false := by
      cases e : (s1.toList == [44]) with
      | false => rfl
      | true => exact absurd (toList_inj (b := nPr) (by rw [ByteArray.toList_eq nPr]; simpa using e)) hc2
    have HC := hide (And.intro hc1 hc2)
    clear ht hR hO hp hwf hc1 hc2
    go_wp2_with fail
    go_loopg [12, 13] L.length (fun gk sv c wr => UpW w wq pb kb base hv iv N K P lv l R L s1 #[.int .i64 0, .string s1, .slice la1 L.length lc1] gk sv c wr)
    case atStart =>
      exact ⟨0, lv, s1, hide rfl, Nat.zero_le _, rfl, rfl, hide (by simp [subL, wrA, bs_toList]), unhide H1, Fr.refl _ _, fun b e => Or.inl e, unhide B0⟩
    case round =>
      clear c0 f0 y0 p0 p1 pf
      obtain ⟨j, lvj, sj, hgk, hj, rfl, rfl, hsj, hWj, hFj, hLj, hBj⟩ := hrel
      have HWj := hide hWj
      have HFj := hide hFj
      have HLj := hide hLj
      have Bj := hide hBj
      obtain ⟨c0, f0, y0⟩ := hBj
      have c02 := c0 2
      simp at c02
      have hvl := varsL_len (subL R (L.take j)) l
      have hzl := sizeL_all R L j
      have sJ : sj.size ≤ 5000000 := by
        rw [unhide hsj, bs_size, List.length_append]
        have h1 := wrA_len (L := varsL l (subL R (L.take j))) (by omega) (subL R (L.take j)) (WfL_take (unhide WL))
        have h2 : s1.toList.length = s1.size := by rw [ByteArray.toList_eq]; exact Array.length_toList
        have h3 := unhide WC
        omega
      clear hWj hFj hLj
      by_cases hlt : j < L.length
      · have hlt' : (j : Int) < (L.length : Int) := by omega
        obtain ⟨g, y, rfl, ⟨zg, pg⟩, ra, na⟩ := unhide Hp j hlt
        have hsw := (unhide HB).size
        have hsq : wq.heap.size ≤ wr.heap.size := (unhide HFj).size
        have oc : ∀ c, (P c ∧ c < w.heap.size) → wr.heap[c]? = w.heap[c]? := fun c q => ((unhide HFj).block c (by omega) (fun sw => (unhide H).dj c sw (Or.inr (Or.inr q)))).trans ((unhide HB).block c q.2)
        have NY := hide (na.move (w' := wr) (Q := fun c => P c ∧ c < w.heap.size) (Nat.le_refl _) (by omega) (fun c q _ => oc c q) (fun c q _ => q))
        have r : ∀ i, i < 3 → wr.cell? ⟨g, j * 3 + i, none⟩ = (y.l)[i]? := fun i hi => (World.cell?_of_block (a := ⟨g, j * 3 + i, none⟩) (oc g pg)).trans (ra i hi)
        have r0 := r 0 (by omega)
        have r1 := r 1 (by omega)
        have r2 := r 2 (by omega)
        simp only [TV.l, List.getElem?_cons_zero, List.getElem?_cons_succ, Nat.add_zero] at r0 r1 r2
        have hst := sizeL_take R L j hlt
        have hzl2 := sizeL_all R L (j + 1)
        have hms := mem_size (R := R) hlt
        clear oc r ra na
        go_wp2_with fail
        refine (unhide IH _ lvj _ _ (unhide HWj) L[j] y (unhide NY) (by omega) 2 (by omega)).mono ?_
        rintro e w2 ⟨lv2, rfl, hW2, hF2, hL2⟩
        have hq2 : wr.heap.size ≤ w2.heap.size := hF2.size
        have W2 := hide hW2
        have F2 := hide hF2
        have L2 := hide hL2
        have nB2 : ¬ SW pb lvj w.heap.size := fun k => by
          rcases k with k | k
          · exact (unhide nS).1 (Or.inl k)
          · rcases unhide HLj _ k with k | k
            · exact (unhide nS).1 (Or.inr k)
            · have := (unhide HB).size; have := (unhide B0).z; omega
        have B2 := hide ((unhide Bj).fr hF2 nB2)
        have hva := vars_len (sub R L[j]) (varsL l (subL R (L.take j)))
        have sA : (bs (Un.wr dec (vars (varsL l (subL R (L.take j))) (sub R L[j])) (sub R L[j]) 2)).size ≤ 3000000 := by
          rw [bs_size]
          have := wr_len (L := vars (varsL l (subL R (L.take j))) (sub R L[j])) (by omega) (sub R L[j]) (WfL_at (unhide WL) j hlt) 2
          omega
        obtain ⟨sa, hsa'⟩ : ∃ sa, sa = bs (Un.wr dec (vars (varsL l (subL R (L.take j))) (sub R L[j])) (sub R L[j]) 2) := ⟨_, rfl⟩
        rw [← hsa'] at sA ⊢
        have Hsa := hide hsa'
        clear hW2 hF2 hL2 hsa' r0 r1 r2 c0 f0 y0 c02
        have k1 : ¬ 9223372036854775807 < sj.size + (⟨#[32]⟩ : ByteArray).size := by have : (⟨#[32]⟩ : ByteArray).size = 1 := rfl; omega
        have k2 : ¬ 9223372036854775807 < (sj ++ (⟨#[32]⟩ : ByteArray)).size + sa.size := by rw [ByteArray.size_append]; have : (⟨#[32]⟩ : ByteArray).size = 1 := rfl; omega
        go_wp2_with fail
        go_roundg (L.length - (j + 1))
        case measure => rw [unhide hgk]; omega
        case rel =>
          have eV : varsL l (subL R (L.take (j + 1))) = vars (varsL l (subL R (L.take j))) (sub R L[j]) := by
            rw [List.take_succ_eq_append_getElem hlt, subL_append, varsL_app]; rfl
          refine ⟨j + 1, lv2, _, hide rfl, by omega, by go_num, rfl, hide ?_, ?_, ?_, ?_, unhide B2⟩
          · show _ = _
            rw [eV, List.take_succ_eq_append_getElem hlt, subL_append, wrA_map, List.map_append, ← wrA_map, wrA_pre dec (vars_pre (sub R L[j]) (varsL l (subL R (L.take j)))) (subL R (L.take j)) (fun n hn => (mem_varsL _ _ n).2 (Or.inr hn)), unhide hsj, unhide Hsa]
            show bs _ ++ bs [32] ++ bs _ = _
            rw [bs_app, bs_app]
            congr 1
            simp [subL]
          · rw [eV]
            exact (unhide W2).wide (fun c q => q.1) (fun c q => ⟨q, by omega⟩)
          · exact (unhide HFj).trans' (unhide F2) (fun c k => by
              rcases k with k | k
              · exact Or.inl (Or.inl k)
              · rcases unhide HLj c k with k | k
                · exact Or.inl (Or.inr k)
                · exact Or.inr k)
          · intro c k
            rcases unhide L2 c k with k | k
            · exact unhide HLj c k
            · exact Or.inr (by omega)
      · have hlt' : decide ((j : Int) < (L.length : Int)) = false := by simp; omega
        obtain rfl : j = L.length := by omega
        have eV : vars l (sub R t) = varsL l (subL R (L.take L.length)) := by rw [unhide hT', List.take_length]; rfl
        have post : Hid (∀ z : ByteArray, z = bs (Un.wr dec (vars l (sub R t)) (sub R t) tight) → WrPost pb kb base hv iv N K P lv l (sub R t) tight w (.returned (.string z)) wr) := by
          rintro z rfl
          refine ⟨lvj, rfl, ?_, ?_, ?_⟩
          · rw [eV]; exact unhide HWj
          · exact (Fr.of (unhide HB)).trans' (unhide HFj) (fun c k => Or.inl k)
          · intro c k
            have := (unhide HB).size
            rcases unhide HLj c k with k | k
            · exact Or.inl k
            · exact Or.inr (by omega)
        have wfin : Hid (Un.wr dec (vars l (sub R t)) (sub R t) tight = par (decide (1 < tight) && !L.isEmpty) sj.toList) := by
          show _ = _
          rw [eV, unhide hT', unhide hsj, List.take_length]
          have e1 : (bs (s1.toList ++ (wrA dec (varsL l (subL R L)) (subL R L)).flatMap fun p => 32 :: p 2)).toList = s1.toList ++ (wrA dec (varsL l (subL R L)) (subL R L)).flatMap fun p => 32 :: p 2 := by rw [ByteArray.toList_eq]; simp [bs]
          rw [e1]
          have e2 : (wrA dec (varsL l (subL R L)) (subL R L)).isEmpty = L.isEmpty := by
            rw [wrA_map, subL_map]; cases L <;> rfl
          simp only [Un.wr, joined, (unhide HC).1, (unhide HC).2, if_false, e2]
        have k1 : ¬ 9223372036854775807 < (⟨#[40]⟩ : ByteArray).size + sj.size := by have : (⟨#[40]⟩ : ByteArray).size = 1 := rfl; omega
        have k2 : ¬ 9223372036854775807 < ((⟨#[40]⟩ : ByteArray) ++ sj).size + (⟨#[41]⟩ : ByteArray).size := by rw [ByteArray.size_append]; have : (⟨#[40]⟩ : ByteArray).size = 1 := rfl; have : (⟨#[41]⟩ : ByteArray).size = 1 := rfl; omega
        by_cases htt : 1 < tight
        · have htt' : (1 : Int) < (tight : Int) := by omega
          by_cases hL0 : 0 < L.length
          · have hL0' : (0 : Int) < (L.length : Int) := by omega
            have hem : L.isEmpty = false := by cases L with | nil => simp at hL0 | cons => rfl
            have Hem := hide hem
            clear hem
            go_wp2_with fail
            go_ret
            refine unhide post _ ?_
            rw [unhide wfin, unhide Hem, ← bs_toList sj]
            show bs [40] ++ bs _ ++ bs [41] = _
            rw [bs_app, bs_app, bs_toList]
            congr 1
            simp [par, htt]
          · have hL0' : decide ((0 : Int) < (L.length : Int)) = false := decide_eq_false (by omega)
            have hem : L.isEmpty = true := by cases L with | nil => rfl | cons => simp at hL0
            have Hem := hide hem
            clear hem
            go_wp2_with fail
            go_ret
            refine unhide post _ ?_
            rw [unhide wfin, unhide Hem]
            simp [par]
            exact (bs_toList sj).symm
        · have htt' : decide ((1 : Int) < (tight : Int)) = false := by simp; omega
          go_wp2_with fail
          go_ret
          refine unhide post _ ?_
          rw [unhide wfin]
          simp [par, htt]
          exact (bs_toList sj).symm

/-- Types are written as the document says. -/
theorem write_C (hK : Knw K R rk) (hW : ∀ n, Wf (R n)) : ∀ s, WrC pb kb base hv iv N K R s
  | 0 => fun P lv l w h t x hx hs => by have := size_pos (sub R t); omega
  | s + 1 => fun P lv l w h t x hx hs tight hl => by
      have ih := write_C hK hW s
      cases e : sub R t with
      | var n => rw [← e]; exact write_var hK hW ih h hx hs tight hl ⟨n, e⟩
      | con c L =>
        have hwf : Wf (sub R t) := Wf.sub' t hx.wf (fun v _ => hW v)
        rw [e] at hwf
        by_cases h1 : c = nFn
        · subst h1
          match L, hwf.1.2 (Or.inl rfl) with
          | [u, v], _ => rw [← e]; exact write_fn hK hW ih h hx hs tight hl ⟨u, v, e⟩
        · by_cases h2 : c = nPr
          · subst h2
            match L, hwf.1.2 (Or.inr rfl) with
            | [u, v], _ => rw [← e]; exact write_pr hK hW ih h hx hs tight hl ⟨u, v, e⟩
          · rw [← e]; exact write_up hK hW ih h hx hs tight hl ⟨c, L, e, h1, h2⟩
end
end Go.Proofs.YtfflpeklkfjdnaaGreatDoor

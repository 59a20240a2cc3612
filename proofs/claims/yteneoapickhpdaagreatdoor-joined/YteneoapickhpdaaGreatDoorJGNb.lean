import Derived.Deep.RegionHeld3
import Derived.Test.YteneoapickhpdaaGreatDoorJGTp
import Derived.Test.YteneoapickhpdaaGreatDoorJGVb
set_option linter.unusedSimpArgs false
set_option linter.unusedVariables false
set_option linter.unusedSectionVars false
namespace Go.Proofs.YteneoapickhpdaaGreatDoor
open Go Go.RowKit Go.ChangeMaps Un
def hc (nx : Nx) (ds : List Nat) : Nat := (ds.filter fun n => (nx n).isNone).length
theorem hc_eqv {str : Str} {nx nx' : Nx} (h : Eqv str nx nx') (ds : List Nat) : hc nx' ds = hc nx ds := by
  unfold hc
  congr 1
  apply List.filter_congr
  intro x _
  have := h.non x
  cases e : nx' x <;> cases e' : nx x <;> simp [e, e'] at this ⊢
theorem hc_upd {nx : Nx} {a b : Nat} (ha : nx a = none) : ∀ {ds : List Nat}, a ∈ ds → hc (Un.upd nx a (some b)) ds < hc nx ds := by
  have hle : ∀ ds : List Nat, hc (Un.upd nx a (some b)) ds ≤ hc nx ds := by
    intro ds
    induction ds with
    | nil => exact Nat.le_refl _
    | cons x l ih =>
      unfold hc at ih ⊢
      by_cases e : x = a
      · subst e
        rw [List.filter_cons_of_neg (by simp [Un.upd])]
        exact Nat.le_trans ih (by rw [List.filter_cons_of_pos (by simp [ha])]; simp)
      · have e1 : Un.upd nx a (some b) x = nx x := by simp [Un.upd, e]
        by_cases e2 : (nx x).isNone = true
        · rw [List.filter_cons_of_pos (by rw [e1]; exact e2), List.filter_cons_of_pos (p := fun n => (nx n).isNone) e2]
          simpa using ih
        · rw [List.filter_cons_of_neg (by rw [e1]; exact e2), List.filter_cons_of_neg (p := fun n => (nx n).isNone) e2]
          exact ih
  intro ds h
  induction ds with
  | nil => simp at h
  | cons x l ih =>
    by_cases e : x = a
    · subst e
      have h1 : hc (Un.upd nx x (some b)) (x :: l) = hc (Un.upd nx x (some b)) l := by
        unfold hc
        rw [List.filter_cons_of_neg (by simp [Un.upd])]
      have h2 : hc nx (x :: l) = hc nx l + 1 := by
        unfold hc
        rw [List.filter_cons_of_pos (by simp [ha])]
        simp
      have := hle l
      omega
    · have := ih ((List.mem_cons.1 h).resolve_left (fun q => e q.symm))
      have e1 : Un.upd nx a (some b) x = nx x := by simp [Un.upd, e]
      unfold hc at this ⊢
      by_cases e2 : (nx x).isNone = true
      · rw [List.filter_cons_of_pos (by rw [e1]; exact e2), List.filter_cons_of_pos (p := fun n => (nx n).isNone) e2]
        simpa using this
      · rw [List.filter_cons_of_neg (by rw [e1]; exact e2), List.filter_cons_of_neg (p := fun n => (nx n).isNone) e2]
        exact this
/-- What joining two nodes comes to. -/
structure JR (str : Str) (nx nx' : Nx) (x y : Nat) (ok : Bool) : Prop where
  eqs : ∀ P E, Un.Eq nx' P E → Un.Eq nx P E
  yes : ok = true → (∀ V, Sol str nx' V ↔ Sol str nx V ∧ V x = V y) ∧ (∀ P, Clo str nx P → Clo str nx' P) ∧ (∀ P E, Un.Eq nx' P E → E x y)
  no : ok = false → ∀ V, Sol str nx V → V x ≠ V y
theorem JR.heads {str : Str} {nx nx2 nx' : Nx} {x y a b : Nat} {ok : Bool} (h : JR str nx2 nx' a b ok) (e : Eqv str nx nx2) (hx : Hd nx x a) (hy : Hd nx y b) : JR str nx nx' x y ok := by
  refine ⟨fun P E q => e.eqs P E (h.eqs P E q), fun hk => ?_, fun hk V hV => ?_⟩
  · obtain ⟨h1, h2, h3⟩ := h.yes hk
    refine ⟨fun V => ?_, fun P q => h2 P (e.clo P q), fun P E q => ?_⟩
    · rw [h1 V, e.sol V]
      constructor
      · rintro ⟨s, t⟩; exact ⟨s, by rw [hx.sol s, hy.sol s]; exact t⟩
      · rintro ⟨s, t⟩; exact ⟨s, by rw [← hx.sol s, ← hy.sol s]; exact t⟩
    · have q1 := e.eqs P E (h.eqs P E q)
      exact q1.trans _ _ _ (hx.eq q1) (q1.trans _ _ _ (h3 P E q) (q1.symm _ _ (hy.eq q1)))
  · have := h.no hk V ((e.sol V).2 hV)
    rw [hx.sol hV, hy.sol hV]
    exact this
theorem JR.same (str : Str) (nx : Nx) (a : Nat) : JR str nx nx a a true := ⟨fun _ _ q => q, fun _ => ⟨fun V => by simp, fun _ q => q, fun P E q => q.refl a⟩, fun h => by cases h⟩
theorem JR.varL {str : Str} {nx : Nx} {a b : Nat} (ha : nx a = none) (hs : str a = none) : JR str nx (Un.upd nx a (some b)) a b true :=
  ⟨fun P E q => (q.of_join ha).1, fun _ => ⟨fun V => Sol.join ha, fun P q => q.var ha hs, fun P E q => (q.of_join ha).2⟩, fun h => by cases h⟩
theorem JR.varR {str : Str} {nx : Nx} {a b : Nat} (hb : nx b = none) (hs : str b = none) : JR str nx (Un.upd nx b (some a)) a b true :=
  ⟨fun P E q => (q.of_join hb).1, fun _ => ⟨fun V => (Sol.join hb).trans (by constructor <;> rintro ⟨s, t⟩ <;> exact ⟨s, t.symm⟩), fun P q => q.var hb hs, fun P E q => q.symm _ _ (q.of_join hb).2⟩, fun h => by cases h⟩
theorem JR.clash {str : Str} {nx : Nx} {a b : Nat} {c c' : ByteArray} {l l' : List Nat} (ha : str a = some (c, l)) (hb : str b = some (c', l')) (h : c ≠ c' ∨ l.length ≠ l'.length) : JR str nx nx a b false := by
  refine ⟨fun _ _ q => q, fun h => (by cases h), fun _ V s e => ?_⟩
  rw [s.made a c l ha, s.made b c' l' hb] at e
  injection e with e1 e2
  rcases h with h | h
  · exact h e1
  · exact h (by have := congrArg List.length e2; simpa using this)
/-- How far the parts of two nodes are joined. -/
structure JL (str : Str) (nxu nxj : Nx) (l l' : List Nat) (j : Nat) : Prop where
  eqs : ∀ P E, Un.Eq nxj P E → Un.Eq nxu P E
  sol : ∀ V, Sol str nxj V ↔ Sol str nxu V ∧ ∀ i (h : i < l.length) (h' : i < l'.length), i < j → V l[i] = V l'[i]
  clo : ∀ P, Clo str nxu P → Clo str nxj P
  prs : ∀ i (h : i < l.length) (h' : i < l'.length), i < j → ∀ P E, Un.Eq nxj P E → E l[i] l'[i]
theorem JL.start (str : Str) (nx : Nx) (l l' : List Nat) : JL str nx nx l l' 0 := by
  refine ⟨fun _ _ q => q, fun V => ⟨fun s => ⟨s, ?_⟩, fun s => s.1⟩, fun _ q => q, ?_⟩
  · exact fun i _ _ h => absurd h (Nat.not_lt_zero _)
  · exact fun i _ _ h => absurd h (Nat.not_lt_zero _)
theorem JL.step {str : Str} {nxu nxj nx' : Nx} {l l' : List Nat} {j : Nat} (h : JL str nxu nxj l l' j) (hj : j < l.length) (hj' : j < l'.length) (k : JR str nxj nx' l[j] l'[j] true) : JL str nxu nx' l l' (j + 1) := by
  obtain ⟨k1, k2, k3⟩ := k.yes rfl
  refine ⟨fun P E q => h.eqs P E (k.eqs P E q), fun V => ?_, fun P q => k2 P (h.clo P q), fun i hi hi' hij P E q => ?_⟩
  · rw [k1 V, h.sol V]
    constructor
    · rintro ⟨⟨s, t⟩, u⟩
      refine ⟨s, fun i hi hi' hij => ?_⟩
      by_cases e : i = j
      · subst e; exact u
      · exact t i hi hi' (by omega)
    · rintro ⟨s, t⟩
      exact ⟨⟨s, fun i hi hi' hij => t i hi hi' (by omega)⟩, t j hj hj' (by omega)⟩
  · by_cases e : i = j
    · subst e; exact k3 P E q
    · exact h.prs i hi hi' (by omega) P E (k.eqs P E q)
theorem map_eq_parts {V : Nat → Ty} {l l' : List Nat} (h : l.map V = l'.map V) (i : Nat) (hi : i < l.length) (hi' : i < l'.length) : V l[i] = V l'[i] := by
  have := congrArg (fun x => x[i]?) h
  simpa [hi, hi'] using this
theorem JL.done {str : Str} {nx nxj : Nx} {a b : Nat} {c : ByteArray} {l l' : List Nat} (ha : nx a = none) (hs : str a = some (c, l)) (hs' : str b = some (c, l')) (hl : l.length = l'.length) (h : JL str (Un.upd nx a (some b)) nxj l l' l.length) : JR str nx nxj a b true := by
  refine ⟨fun P E q => ((h.eqs P E q).of_join ha).1, fun _ => ⟨fun V => ?_, fun P q => ?_, fun P E q => ((h.eqs P E q).of_join ha).2⟩, fun h => by cases h⟩
  · rw [h.sol V, Sol.join ha]
    constructor
    · rintro ⟨⟨s, t⟩, _⟩; exact ⟨s, t⟩
    · rintro ⟨s, t⟩
      refine ⟨⟨s, t⟩, fun i hi hi' _ => ?_⟩
      rw [s.made a c l hs, s.made b c l' hs'] at t
      injection t with _ t
      exact map_eq_parts t i hi hi'
  · have h1 := h.clo _ (q.con ha hs hs' hl)
    refine h1.paid fun E hE m n hm => ?_
    obtain ⟨i, hi, e⟩ := List.getElem_of_mem hm
    have hi1 : i < l.length := by simp at hi; omega
    have hi2 : i < l'.length := by simp at hi; omega
    rw [List.getElem_zip] at e
    injection e with e1 e2
    subst e1
    subst e2
    exact h.prs i hi1 hi2 hi1 P E hE
theorem JL.fail {str : Str} {nx nxj nx' : Nx} {a b : Nat} {c : ByteArray} {l l' : List Nat} {j : Nat} (ha : nx a = none) (hs : str a = some (c, l)) (hs' : str b = some (c, l')) (h : JL str (Un.upd nx a (some b)) nxj l l' j) (hj : j < l.length) (hj' : j < l'.length) (k : JR str nxj nx' l[j] l'[j] false) : JR str nx nx' a b false := by
  refine ⟨fun P E q => ((h.eqs P E (k.eqs P E q)).of_join ha).1, fun h => (by cases h), fun _ V s e => ?_⟩
  have t := e
  rw [s.made a c l hs, s.made b c l' hs'] at t
  injection t with _ t
  have s1 : Sol str nxj V := (h.sol V).2 ⟨(Sol.join ha).2 ⟨s, e⟩, fun i hi hi' _ => map_eq_parts t i hi hi'⟩
  exact k.no rfl V s1 (map_eq_parts t j hj hj')
theorem pn_ne {c : ByteArray} (h : CN c) : (pn c).toList ≠ [] := by
  rcases h with rfl | rfl | h
  · rw [pn_fn, show (ByteArray.mk #[45, 62]).toList = [45, 62] from toList_mk [45, 62]]; simp
  · rw [pn_pr, show (ByteArray.mk #[44]).toList = [44] from toList_mk [44]]; simp
  · rw [pn_up h]; obtain ⟨x, r, e, _⟩ := h; rw [e]; simp
theorem pn_inj {c c' : ByteArray} (h : CN c) (h' : CN c') (e : (pn c).toList = (pn c').toList) : c = c' := by
  have f1 : (ByteArray.mk #[45, 62]).toList = [45, 62] := toList_mk [45, 62]
  have f2 : (ByteArray.mk #[44]).toList = [44] := toList_mk [44]
  rcases h with rfl | rfl | h <;> rcases h' with rfl | rfl | h'
  · rfl
  · rw [pn_fn, pn_pr, f1, f2] at e; simp at e
  · rw [pn_fn, pn_up h', f1] at e; exact absurd e.symm (upN_ne h' 45 [62] (by decide))
  · rw [pn_fn, pn_pr, f1, f2] at e; simp at e
  · rfl
  · rw [pn_pr, pn_up h', f2] at e; exact absurd e.symm (upN_ne h' 44 [] (by decide))
  · rw [pn_fn, pn_up h, f1] at e; exact absurd e (upN_ne h 45 [62] (by decide))
  · rw [pn_pr, pn_up h, f2] at e; exact absurd e (upN_ne h 44 [] (by decide))
  · rw [pn_up h, pn_up h'] at e; exact toList_inj e
theorem nodeInfo' : (Tryz.prog.info? 158).map (fun i => i.size) = some 5 := by kernel_rfl
theorem run_eql_ptr {P : Program} {w : World} {tp te : TypeId} {j : TypeInfo} (hu : P.underlying tp = some (.pointer te)) (hj : P.info? te = some j) (hjs : j.size ≠ 0) {a b : Nat} {ca cb : Array Value} {ta tb : TypeId} (ha : w.heap[a]? = some (.cells ca ta (0, 0))) (hb : w.heap[b]? = some (.cells cb tb (0, 0))) : (binOp .eql tp (nA a) (nA b)).run P w = .ok (.bool (decide (a = b))) w := by
  have hq : (Op.equal tp (nA a) (nA b)).run P w = .ok (decide (a = b)) w := by
    unfold Op.equal Op.maxDepth Op.equalIn
    simp only [Sem.run_bind, run_underlying hu, Result.andThen, Go.sizeOf, Go.typeInfo, hj]
    by_cases e : a = b
    · subst e; simp [hjs, run_sameAddr_same, hj]
    · simp [e, hjs, hj, run_sameAddr_other w (a := ⟨a, 0, none⟩) (b := ⟨b, 0, none⟩) (by intro q; injection q with q; exact e q) ha hb]
  simp only [binOp]
  simp [hq]
theorem run_eqlN {w : World} {a b : Nat} {ca cb : Array Value} {ta tb : TypeId} (ha : w.heap[a]? = some (.cells ca ta (0, 0))) (hb : w.heap[b]? = some (.cells cb tb (0, 0))) : (binOp .eql 89 (nA a) (nA b)).run Tryz.prog w = .ok (.bool (decide (a = b))) w := by
  obtain ⟨j, hj, hjs⟩ := Option.map_eq_some_iff.1 nodeInfo'
  exact run_eql_ptr (by kernel_rfl) hj (by omega) ha hb
def JPost (ds : List Nat) (str : Str) (nx : Nx) (vr : Nat → Nat) (ly : Nat → Option Addr × Nat) (x y : Nat) (w : World) (e : Ending) (w' : World) : Prop :=
  ∃ ok nx', e = .returned (.bool ok) ∧ GN w' ds str nx' vr ly ∧ Fr (fun b => b ∈ ds) w w' ∧ w'.heap.size = w.heap.size ∧ hc nx' ds ≤ hc nx ds ∧ JR str nx nx' x y ok
def JoinC (ds : List Nat) (str : Str) (vr : Nat → Nat) (ly : Nat → Option Addr × Nat) (k : Nat) : Prop := ∀ (w : World) (nx : Nx), GN w ds str nx vr ly → hc nx ds ≤ k → ∀ x y, x ∈ ds → y ∈ ds → Calls Tryz.prog 37 #[nA x, nA y] w (JPost ds str nx vr ly x y w)
end Go.Proofs.YteneoapickhpdaaGreatDoor
namespace Go.Proofs.YteneoapickhpdaaGreatDoor
open Go Go.RowKit Go.ChangeMaps Un
theorem GN.hd_mem {w : World} {ds : List Nat} {str : Str} {nx : Nx} {vr : Nat → Nat} {ly : Nat → Option Addr × Nat} (g : GN w ds str nx vr ly) {n h : Nat} (hn : n ∈ ds) (k : Hd nx n h) : h ∈ ds := by
  induction k with
  | here => exact hn
  | step e _ ih => exact ih ((g.nd _ hn).2.2 _ e)
theorem hc_pos {nx : Nx} {ds : List Nat} {h : Nat} (hm : h ∈ ds) (hn : nx h = none) : 0 < hc nx ds := by
  unfold hc
  apply List.length_pos_of_mem (a := h)
  rw [List.mem_filter]
  exact ⟨hm, by simp [hn]⟩
theorem GN.drewN {w : World} {ds : List Nat} {str : Str} {nx : Nx} {vr : Nat → Nat} {ly : Nat → Option Addr × Nat} (g : GN w ds str nx vr ly) (n : Nat) : GN (w.drewN n) ds str nx vr ly := ⟨g.nd, g.out, g.hd⟩
theorem GN.drew {w : World} {ds : List Nat} {str : Str} {nx : Nx} {vr : Nat → Nat} {ly : Nat → Option Addr × Nat} (g : GN w ds str nx vr ly) : GN w.drew ds str nx vr ly := ⟨g.nd, g.out, g.hd⟩
theorem GN.row {w : World} {ds : List Nat} {str : Str} {nx : Nx} {vr : Nat → Nat} {ly : Nat → Option Addr × Nat} (g : GN w ds str nx vr ly) {a : Nat} (ha : a ∈ ds) {c : ByteArray} {l : List Nat} (hs : str a = some (c, l)) {j : Nat} (hj : j < l.length) : ∃ ga, (ly a).1 = some ⟨ga, 0, none⟩ ∧ w.cell? ⟨ga, j, none⟩ = some (nA l[j]) ∧ ¬ ga ∈ ds := by
  have h := (g.nd a ha).2.1
  rw [hs] at h
  obtain ⟨_, _, _, h0 | ⟨ga, h1, h2, _, h4⟩⟩ := h
  · subst h0; simp at hj
  · exact ⟨ga, h1, h4 j hj, h2⟩
def JoinRel (ds : List Nat) (str : Str) (nx : Nx) (vr : Nat → Nat) (ly : Nat → Option Addr × Nat) (l l' : List Nat) (k : Nat) (w : World) (gk : Nat) (v : Value) (wr : World) : Prop :=
  ∃ j nxj, Hid (gk = l.length - j) ∧ j ≤ l.length ∧ v = .int .i64 (j : Int) ∧ GN wr ds str nxj vr ly ∧ Fr (fun b => b ∈ ds) w wr ∧ wr.heap.size = w.heap.size ∧ hc nxj ds ≤ k ∧ JL str nx nxj l l' j
section
variable {ds : List Nat} {str : Str} {vr : Nat → Nat} {ly : Nat → Option Addr × Nat} {k : Nat}
set_option maxRecDepth 100000 in
set_option maxHeartbeats 4000000 in
theorem join_step (IH : JoinC ds str vr ly k) : JoinC ds str vr ly (k + 1) := by
  intro w nx G hk x y hx hy
  obtain ⟨a, hda⟩ := G.hd x hx
  obtain ⟨b, hdb⟩ := G.hd y hy
  have ha : a ∈ ds := G.hd_mem hx hda
  have hb : b ∈ ds := G.hd_mem hy hdb
  have hnot : ∀ (x : Bool) (w : World), (Op.unary .not (.bool x)).run Tryz.prog w = .ok (.bool (!x)) w := fun _ _ => rfl
  have HC := hide (head_P G hx hda)
  go_enter Tryz.func37, Tryz.ntmps37
  go_wp2_with fail
  refine (unhide HC).mono ?_
  rintro e w1 ⟨rfl, nx1, G1, F1, E1, z1⟩
  have HC2 := hide (head_P G1 hy (E1.hds _ _ hdb))
  clear HC
  go_wp2_with fail
  refine (unhide HC2).mono ?_
  rintro e w2 ⟨rfl, nx2, G2, F2, E2, z2⟩
  have E := E1.trans E2
  have FF := F1.trans F2
  have hca := hc_eqv E ds
  have hna : nx2 a = none := (E.hds _ _ hda).head
  have hnb : nx2 b = none := (E.hds _ _ hdb).head
  have heq := run_eqlN (G2.nd a ha).1 (G2.nd b hb).1
  obtain ⟨ca0, fa0, ca2, _, ca3⟩ := (G2.nd a ha).cells
  obtain ⟨cb0, fb0, cb2, _, cb3⟩ := (G2.nd b hb).cells
  have HG2 := hide G2
  clear HC2
  by_cases hab : a = b
  · subst hab
    simp at heq
    go_wp2_with fail
    go_ret
    exact ⟨true, nx2, rfl, G2, FF, by omega, by omega, (JR.same str nx2 a).heads E hda hdb⟩
  · have hba : ¬ b = a := fun q => hab q.symm
    rw [show decide (a = b) = false by simp [hab]] at heq
    have lb2 := (G2.nd b hb).lvl
    have HL1 := hide (lower_P G2 ha (.here hna) ha)
    go_wp2_with fail
    refine (unhide HL1).mono ?_
    rintro e w3 ⟨rfl, nx3, G3, F3, E3, z3⟩
    have la3 := (G3.nd a ha).lvl
    have HL2 := hide (lower_P G3 hb ((E.trans E3).hds _ _ hdb |> fun q => by have := q.head; exact .here this) hb)
    clear HL1 ca0 fa0 ca2 ca3 cb0 fb0 cb2 cb3 heq lb2 HG2
    go_wp2_with fail
    refine (unhide HL2).mono ?_
    rintro e w4 ⟨rfl, nx4, G4, F4, E4, z4⟩
    have E0 := E
    clear E
    have E := (E0.trans E3).trans E4
    have FF4 := (FF.trans F3).trans F4
    clear hca hna hnb
    have hca := hc_eqv E ds
    have hna : nx4 a = none := (E.hds _ _ hda).head
    have hnb : nx4 b = none := (E.hds _ _ hdb).head
    obtain ⟨ca0, fa0, ca2, _, ca3⟩ := (G4.nd a ha).cells
    obtain ⟨cb0, fb0, cb2, _, cb3⟩ := (G4.nd b hb).cells
    clear HL2 la3 F3 F4 G3 E3 E4
    cases hsa : str a with
    | none =>
      rw [hsa] at ca2
      have ca2' : w4.cell? ⟨a, 3, none⟩ = some (.string ⟨#[]⟩) := ca2
      clear ca2
      go_wp2_with fail
      go_ret
      refine ⟨true, Un.upd nx4 a (some b), rfl, G4.set ha hb (fun z hz => ?_), FF4.set (Or.inl ha) 0 _, by simp [World.setCell]; omega, by have := hc_upd (b := b) hna ha; omega, (JR.varL hna hsa).heads E hda hdb⟩
      obtain ⟨q, hq⟩ := G4.hd z hz
      exact ⟨_, hq.join hna hnb hab⟩
    | some pa =>
      obtain ⟨c, l⟩ := pa
      have hPa := (G4.nd a ha).2.1
      rw [hsa] at ca2 ca3 hPa
      have ca2' : w4.cell? ⟨a, 3, none⟩ = some (.string (pn c)) := ca2
      have ca3' : w4.cell? ⟨a, 4, none⟩ = some (.slice (ly a).1 l.length (ly a).2) := ca3
      obtain ⟨hcn, hll, hlm, hrow⟩ := hPa
      have hea : ((pn c).toList == []) = false := by rw [← Bool.not_eq_true, beq_iff_eq]; exact pn_ne hcn
      clear ca2 ca3
      cases hsb : str b with
      | none =>
        rw [hsb] at cb2
        have cb2' : w4.cell? ⟨b, 3, none⟩ = some (.string ⟨#[]⟩) := cb2
        clear cb2
        go_wp2_with fail
        go_ret
        refine ⟨true, Un.upd nx4 b (some a), rfl, G4.set hb ha (fun z hz => ?_), FF4.set (Or.inl hb) 0 _, by simp [World.setCell]; omega, by have := hc_upd (b := a) hnb hb; omega, (JR.varR hnb hsb).heads E hda hdb⟩
        obtain ⟨q, hq⟩ := G4.hd z hz
        exact ⟨_, hq.join hnb hna hba⟩
      | some pb =>
        obtain ⟨c', l'⟩ := pb
        have hPb := (G4.nd b hb).2.1
        rw [hsb] at cb2 cb3 hPb
        have cb2' : w4.cell? ⟨b, 3, none⟩ = some (.string (pn c')) := cb2
        have cb3' : w4.cell? ⟨b, 4, none⟩ = some (.slice (ly b).1 l'.length (ly b).2) := cb3
        obtain ⟨hcn', hll', hlm', hrow'⟩ := hPb
        have heb : ((pn c').toList == []) = false := by rw [← Bool.not_eq_true, beq_iff_eq]; exact pn_ne hcn'
        clear cb2 cb3
        by_cases hcc : c = c'
        · subst hcc
          have hbb : ((pn c).toList == (pn c).toList) = true := by simp
          by_cases hlen : l.length = l'.length
          · have hle : ((l.length : Int) == (l'.length : Int)) = true := by simp [hlen]
            have hcu := hc_upd (b := b) hna ha
            have hgs : ∀ z, z ∈ ds → ∃ y, Hd (Un.upd nx4 a (some b)) z y := fun z hz => by
              obtain ⟨q, hq⟩ := G4.hd z hz
              exact ⟨_, hq.join hna hnb hab⟩
            clear cb0 fb0 G1 F1 F2 G
            go_wp2_with fail
            go_quiet (fail)
            go_wp2_with fail
            have GS := hide ((G4.drewN nq).set ha hb hgs)
            have FS := hide ((FF4.drewN nq).set (b := a) (Or.inl ha) 0 (nA b))
            have zs : ((w4.drewN nq).setCell ⟨a, 0, none⟩ (nA b)).heap.size = w.heap.size := by simp [World.setCell]; show w4.heap.size = _; omega
            go_loopg [77] l.length (fun gk v wr => JoinRel ds str (Un.upd nx4 a (some b)) vr ly l l' (hc (Un.upd nx4 a (some b)) ds) w gk v wr)
            case atStart => exact ⟨0, Un.upd nx4 a (some b), hide (by simp), Nat.zero_le _, rfl, unhide GS, unhide FS, zs, Nat.le_refl _, JL.start _ _ _ _⟩
            case round =>
              clear GS FS zs
              obtain ⟨j, nxj, hgk, hj, rfl, Gj, Fj, zj, hcj, JLj⟩ := hrel
              by_cases hjl : j < l.length
              · have hd : (j : Int) < (l.length : Int) := by omega
                have hjl' : j < l'.length := by omega
                have hd' : (j : Int) < (l'.length : Int) := by omega
                obtain ⟨ga, ea, ra, _⟩ := Gj.row ha hsa hjl
                obtain ⟨gb, eb, rb, _⟩ := Gj.row hb hsb hjl'
                obtain ⟨_, _, _, _, qa⟩ := (Gj.nd a ha).cells
                obtain ⟨_, _, _, _, qb⟩ := (Gj.nd b hb).cells
                rw [hsa, ea] at qa
                rw [hsb, eb] at qb
                have qa' : wr.cell? ⟨a, 4, none⟩ = some (.slice (some ⟨ga, 0, none⟩) l.length (ly a).2) := qa
                have qb' : wr.cell? ⟨b, 4, none⟩ = some (.slice (some ⟨gb, 0, none⟩) l'.length (ly b).2) := qb
                have HJ : Hid (∀ W, W = wr.drew → Calls Tryz.prog 37 #[nA l[j], nA l'[j]] W fun e w' => ∃ ok nx', e = .returned (.bool ok) ∧ GN w' ds str nx' vr ly ∧ Fr (fun b => b ∈ ds) wr w' ∧ w'.heap.size = wr.heap.size ∧ hc nx' ds ≤ hc (Un.upd nx4 a (some b)) ds ∧ JR str nxj nx' l[j] l'[j] ok ∧ (w'.cell? ⟨a, 4, none⟩ = some (.slice (some ⟨ga, 0, none⟩) l.length (ly a).2) ∧ w'.cell? ⟨b, 4, none⟩ = some (.slice (some ⟨gb, 0, none⟩) l'.length (ly b).2) ∧ w'.cell? ⟨ga, j, none⟩ = some (nA l[j]) ∧ w'.cell? ⟨gb, j, none⟩ = some (nA l'[j]))) := hide (fun W hW => by
                  subst hW
                  refine (IH wr.drew nxj Gj.drew (by omega) l[j] l'[j] (hlm _ (List.getElem_mem _)) (hlm' _ (List.getElem_mem _))).mono ?_
                  rintro e w5 ⟨ok, nx5, rfl, G5, F5, z5, h5, J5⟩
                  obtain ⟨ga5, ea5, ra5, _⟩ := G5.row ha hsa hjl
                  obtain ⟨gb5, eb5, rb5, _⟩ := G5.row hb hsb hjl'
                  obtain ⟨_, _, _, _, pa⟩ := (G5.nd a ha).cells
                  obtain ⟨_, _, _, _, pb⟩ := (G5.nd b hb).cells
                  rw [hsa, ea] at pa
                  rw [hsb, eb] at pb
                  rw [ea] at ea5
                  rw [eb] at eb5
                  cases ea5
                  cases eb5
                  exact ⟨ok, nx5, rfl, G5, (Fr.refl _ wr).drew.trans F5, z5, Nat.le_trans h5 hcj, J5, pa, pb, ra5, rb5⟩)
                clear ea eb qa qb hrow hrow' ca2' cb2' ca3' cb3' heb hea hbb hle IH
                go_wp2_with fail
                go_region_held3 (fun w' => w'.cell? ⟨a, 4, none⟩ = some (.slice (some ⟨ga, 0, none⟩) l.length (ly a).2) ∧ w'.cell? ⟨b, 4, none⟩ = some (.slice (some ⟨gb, 0, none⟩) l'.length (ly b).2) ∧ w'.cell? ⟨ga, j, none⟩ = some (nA l[j]) ∧ w'.cell? ⟨gb, j, none⟩ = some (nA l'[j])) (first | go_keep | (simp [*])) (first | (go_at_call 37; refine (unhide HJ _ rfl).mono ?_; rintro e w5 ⟨ok, nx5, rfl, hG5, hF5, hz5, h5, hJ5, k1, k2, k3, k4⟩; have HG5 := hide hG5; have HF5 := hide hF5; have HZ5 := hide hz5; have HJ5 := hide hJ5; clear hG5 hF5 hz5 hJ5))
                all_goals (
                  cases ok with
                  | true =>
                    go_wp2_with fail
                    go_roundg (l.length - (j + 1))
                    case measure => rw [unhide hgk]; omega
                    case rel => exact ⟨j + 1, nx5, hide rfl, by omega, by go_num, unhide HG5, Fj.trans (unhide HF5), (unhide HZ5).trans zj, h5, JLj.step hjl hjl' (unhide HJ5)⟩
                  | false =>
                    go_wp2_with fail
                    go_ret
                    exact ⟨false, nx5, rfl, unhide HG5, Fj.trans (unhide HF5), (unhide HZ5).trans zj, by omega, (JL.fail hna hsa hsb JLj hjl hjl' (unhide HJ5)).heads E hda hdb⟩)
              · have hd : decide ((j : Int) < (l.length : Int)) = false := by simp; omega
                have ej : j = l.length := by omega
                subst ej
                go_wp2_with fail
                go_ret
                exact ⟨true, nxj, rfl, Gj, Fj, zj, by omega, (JL.done hna hsa hsb hlen JLj).heads E hda hdb⟩
          · have hle : ((l.length : Int) == (l'.length : Int)) = false := by simp; omega
            go_wp2_with fail
            go_quiet (fail)
            go_wp2_with fail
            go_ret
            exact ⟨false, nx4, rfl, G4.drewN _, FF4.drewN _, by show w4.heap.size = _; omega, by omega, (JR.clash hsa hsb (Or.inr hlen)).heads E hda hdb⟩
        · have hbb : ((pn c).toList == (pn c').toList) = false := by rw [← Bool.not_eq_true, beq_iff_eq]; exact fun q => hcc (pn_inj hcn hcn' q)
          go_wp2_with fail
          go_quiet (fail)
          go_wp2_with fail
          go_ret
          exact ⟨false, nx4, rfl, G4.drewN _, FF4.drewN _, by show w4.heap.size = _; omega, by omega, (JR.clash hsa hsb (Or.inl hcc)).heads E hda hdb⟩
theorem Join_P : ∀ k, JoinC ds str vr ly k
  | 0 => fun w nx G hk x y hx hy => by
    obtain ⟨a, hda⟩ := G.hd x hx
    have := hc_pos (G.hd_mem hx hda) hda.head
    omega
  | k + 1 => join_step (Join_P k)
end
end Go.Proofs.YteneoapickhpdaaGreatDoor
namespace Go.Proofs.YteneoapickhpdaaGreatDoor
open Go Go.RowKit Go.ChangeMaps Un
/-- The rows of the map from variables to their nodes. -/
def vlL (vr : Nat → Nat) (vl : List Nat) : List (Int × Value) := vl.map fun n => ((vr n : Int), nA n)
theorem got_vl {vr : Nat → Nat} {v : Nat} : ∀ {vl : List Nat}, (∀ m ∈ vl, vr m ≠ v) → got (v : Int) (vlL vr vl) = none
  | [], _ => rfl
  | m :: l, h => by
    have h1 : ((vr m : Nat) : Int) ≠ (v : Int) := fun e => h m (by simp) (by omega)
    have := got_vl (vr := vr) (v := v) (vl := l) fun x hx => h x (List.mem_cons_of_mem _ hx)
    simp only [vlL] at this
    simp [vlL, got, h1, this]
theorem got_vl_in {vr : Nat → Nat} {n : Nat} : ∀ {vl : List Nat}, n ∈ vl → (∀ m ∈ vl, vr m = vr n → m = n) → got (vr n : Int) (vlL vr vl) = some (nA n)
  | [], h, _ => by simp at h
  | m :: l, h, k => by
    by_cases e : vr m = vr n
    · have := k m (by simp) e
      subst this
      simp [vlL, got]
    · have h1 : ((vr m : Nat) : Int) ≠ (vr n : Int) := fun q => e (by omega)
      have hl : n ∈ l := by
        rcases List.mem_cons.1 h with q | q
        · subst q; exact absurd rfl e
        · exact q
      have := got_vl_in (vr := vr) (n := n) hl fun x hx => k x (List.mem_cons_of_mem _ hx)
      simp only [vlL] at this
      simp [vlL, got, h1, this]
theorem vlL_upd {vr : Nat → Nat} {vl : List Nat} {n v : Nat} (h : ¬ n ∈ vl) : vlL (Un.upd vr n v) vl = vlL vr vl := by
  unfold vlL
  apply List.map_congr_left
  intro m hm
  have : m ≠ n := fun e => h (e ▸ hm)
  simp [Un.upd, this]
section
variable {w w' : World} {ds : List Nat} {str : Str} {nx : Nx} {vr : Nat → Nat} {ly : Nat → Option Addr × Nat}
theorem PartsAt.move {sa : Option Addr} {s : Option (ByteArray × List Nat)} (h : PartsAt w ds sa s) (hs : w.heap.size ≤ w'.heap.size) (hb : ∀ b i v, w.cell? ⟨b, i, none⟩ = some v → w'.heap[b]? = w.heap[b]?) : PartsAt w' ds sa s := by
  cases s with
  | none => trivial
  | some p =>
    obtain ⟨c, l⟩ := p
    obtain ⟨h1, h2, h3, h4⟩ := h
    refine ⟨h1, h2, h3, ?_⟩
    by_cases e : l = []
    · exact Or.inl e
    · obtain ⟨g, q1, q2, q3, q4⟩ := h4.resolve_left e
      refine Or.inr ⟨g, q1, q2, by omega, fun i hi => ?_⟩
      have := q4 i hi
      rw [World.cell?_of_block (a := ⟨g, i, none⟩) (w := w) (hb g i _ this)]
      exact this
theorem GN.move (h : GN w ds str nx vr ly) (hs : w.heap.size ≤ w'.heap.size) (hb : ∀ b i v, w.cell? ⟨b, i, none⟩ = some v → w'.heap[b]? = w.heap[b]?) : GN w' ds str nx vr ly := by
  refine ⟨fun n hn => ?_, h.out, h.hd⟩
  have hc := (h.nd n hn).cells.1
  obtain ⟨h1, h2, h3⟩ := h.nd n hn
  exact ⟨(hb n 0 _ hc).trans h1, h2.move hs hb, h3⟩
theorem PartsAt.more {sa : Option Addr} {s : Option (ByteArray × List Nat)} (h : PartsAt w ds sa s) {n : Nat} (hn : w.heap.size ≤ n) : PartsAt w (n :: ds) sa s := by
  cases s with
  | none => trivial
  | some p =>
    obtain ⟨c, l⟩ := p
    obtain ⟨h1, h2, h3, h4⟩ := h
    refine ⟨h1, h2, fun m hm => List.mem_cons_of_mem _ (h3 m hm), h4.imp id ?_⟩
    rintro ⟨g, q1, q2, q3, q4⟩
    refine ⟨g, q1, fun hg => ?_, q3, q4⟩
    rcases List.mem_cons.1 hg with q | q
    · omega
    · exact q2 q
theorem NodeAt.lt {n : Nat} (h : NodeAt w ds str nx vr ly n) : n < w.heap.size := (Array.getElem?_eq_some_iff.1 h.1).1
/-- A node more. -/
theorem GN.add (h : GN w ds str (fun _ => none) vr ly) (hs : w.heap.size ≤ w'.heap.size) (hb : ∀ b i v, w.cell? ⟨b, i, none⟩ = some v → w'.heap[b]? = w.heap[b]?) {n : Nat} (hn : w.heap.size ≤ n) (s : Option (ByteArray × List Nat)) (v : Nat) (a : Option Addr × Nat)
    (hh : w'.heap[n]? = some (.cells #[.pointer none, .int .i64 0, .int .i64 (v : Int), .string (byS s), .slice a.1 (slN s) a.2] 158 (0, 0))) (hp : PartsAt w' (n :: ds) a.1 s) :
    GN w' (n :: ds) (Un.upd str n s) (fun _ => none) (Un.upd vr n v) (Un.upd ly n a) := by
  refine ⟨fun x hx => ?_, fun x hx => ?_, fun x _ => ⟨x, .here rfl⟩⟩
  · by_cases e : x = n
    · subst e
      refine ⟨by simpa [Un.upd, nP] using hh, by simpa [Un.upd] using hp, fun m hm => by cases hm⟩
    · have hx' : x ∈ ds := (List.mem_cons.1 hx).resolve_left e
      have hc := (h.nd x hx').cells.1
      obtain ⟨h1, h2, h3⟩ := h.nd x hx'
      refine ⟨?_, ?_, fun m hm => by cases hm⟩
      · rw [hb x 0 _ hc, h1]; simp [Un.upd, e]
      · simp only [Un.upd, e, if_false]
        exact (h2.more hn).move hs hb
  · have hx' : x ≠ n ∧ ¬ x ∈ ds := ⟨fun e => hx (by simp [e]), fun e => hx (by simp [e])⟩
    exact ⟨rfl, by simpa [Un.upd, hx'.1] using (h.out x hx'.2).2⟩
end
/-- Nodes that are being made. -/
structure Ns where
  ds : List Nat
  str : Str
  vr : Nat → Nat
  ly : Nat → Option Addr × Nat
  ty : Nat → Ty
  vl : List Nat
def Ns.Le (G G' : Ns) : Prop := ∀ m ∈ G.ds, m ∈ G'.ds ∧ G'.ty m = G.ty m
theorem Ns.Le.refl (G : Ns) : G.Le G := fun _ h => ⟨h, rfl⟩
theorem Ns.Le.trans {A B C : Ns} (h : A.Le B) (k : B.Le C) : A.Le C := fun m hm => ⟨(k m (h m hm).1).1, (k m (h m hm).1).2.trans (h m hm).2⟩
/-- What is new: new blocks. -/
def Ns.New (b : Nat) (G G' : Ns) : Prop := ∀ m ∈ G'.ds, (m ∈ G.ds ∧ G'.ly m = G.ly m ∧ G'.str m = G.str m) ∨ (b ≤ m ∧ ∀ g, (G'.ly m).1 = some ⟨g, 0, none⟩ → b ≤ g)
theorem Ns.New.refl (b : Nat) (G : Ns) : Ns.New b G G := fun m hm => Or.inl ⟨hm, rfl, rfl⟩
theorem Ns.New.trans {b b' : Nat} {A B C : Ns} (h : Ns.New b A B) (k : Ns.New b' B C) (hb : b ≤ b') : Ns.New b A C := fun m hm => by
  rcases k m hm with ⟨k1, k2, k3⟩ | ⟨k1, k2⟩
  · rcases h m k1 with ⟨h1, h2, h3⟩ | ⟨h1, h2⟩
    · exact Or.inl ⟨h1, k2.trans h2, k3.trans h3⟩
    · exact Or.inr ⟨h1, fun g e => h2 g (by rw [← k2]; exact e)⟩
  · exact Or.inr ⟨by omega, fun g e => by have := k2 g e; omega⟩
/-- The block in which the level lies that variables' nodes are made at. -/
def lvB (kb : Nat) : Nat := kb - 2
/-- The closure of variables' nodes, and all nodes that were made so far. -/
structure VN (w : World) (kb mb : Nat) (G : Ns) : Prop where
  bk : Bx w kb #[.map (some mb)]
  mp : MS (fun n : Int => Value.int .i64 n) w mb (vlL G.vr G.vl)
  gn : GN w G.ds G.str (fun _ => none) G.vr G.ly
  of : Un.Of G.str G.vr (fun n => n ∈ G.ds) G.ty
  vs : ∀ n, n ∈ G.vl ↔ n ∈ G.ds ∧ G.str n = none
  kd : ¬ kb ∈ G.ds
  wf : ∀ n ∈ G.ds, Wf (G.ty n)
  lv : Bx w (lvB kb) #[.int .i64 0]
  ld : ¬ lvB kb ∈ G.ds
  lm : lvB kb ≠ mb
theorem MS.nocell {κ : Type} [DecidableEq κ] {enc : κ → Value} {w : World} {b : Nat} {L : List (κ × Value)} (h : MS enc w b L) (i : Nat) : w.cell? ⟨b, i, none⟩ = none := by
  obtain ⟨es, c, hb, _⟩ := h
  simp [World.cell?, hb]
def IsM (mb : Nat) (b : Nat) : Prop := b = mb
theorem cell_lt {w : World} {b i : Nat} {v : Value} (h : w.cell? ⟨b, i, none⟩ = some v) : b < w.heap.size := by
  by_cases e : b < w.heap.size
  · exact e
  · have : w.heap[b]? = none := Array.getElem?_eq_none (by omega)
    simp [World.cell?, this] at h
theorem VN.keep {w w' : World} {kb mb : Nat} {G : Ns} (h : VN w kb mb G) (hf : Fr (IsM mb) w w') : ∀ b i v, w.cell? ⟨b, i, none⟩ = some v → w'.heap[b]? = w.heap[b]? := by
  intro b i v hc
  refine hf.block b (cell_lt hc) (fun e => ?_)
  have e : b = mb := e
  subst e
  rw [h.mp.nocell i] at hc
  cases hc
/-- All stays where but new blocks are written. -/
theorem VN.fr {S : Nat → Prop} {w w' : World} {kb mb : Nat} {G : Ns} (h : VN w kb mb G) (hf : Fr S w w') (hS : ∀ b, S b → w.heap.size ≤ b) : VN w' kb mb G := by
  have hb : ∀ b, b < w.heap.size → w'.heap[b]? = w.heap[b]? := fun b hz => hf.block b hz (fun q => by have := hS b q; omega)
  exact ⟨h.bk.same hf.size (hb kb h.bk.z), h.mp.same (hb mb h.mp.lt), h.gn.move hf.size (fun b i v hc => hb b (cell_lt hc)), h.of, h.vs, h.kd, h.wf, h.lv.same hf.size (hb (lvB kb) h.lv.z), h.ld, h.lm⟩
theorem VN.one {w w' : World} {kb mb b : Nat} {G : Ns} (h : VN w kb mb G) (o : One b w w') (h1 : ¬ b ∈ G.ds) (h2 : kb ≠ b) (h3 : mb ≠ b) (h6 : lvB kb ≠ b) (h4 : ∀ m ∈ G.ds, ∀ c l g, G.str m = some (c, l) → l ≠ [] → (G.ly m).1 = some ⟨g, 0, none⟩ → g ≠ b) : VN w' kb mb G := by
  refine ⟨h.bk.one o h2, h.mp.one o h3, ⟨fun n hn => ?_, h.gn.out, h.gn.hd⟩, h.of, h.vs, h.kd, h.wf, h.lv.one o h6, h.ld, h.lm⟩
  obtain ⟨p1, p2, p3⟩ := h.gn.nd n hn
  have hne : n ≠ b := fun e => h1 (e ▸ hn)
  refine ⟨(o.block n hne).trans p1, ?_, p3⟩
  have h5 := h4 n hn
  cases hs : G.str n with
  | none => trivial
  | some p =>
    obtain ⟨c, l⟩ := p
    rw [hs] at p2
    obtain ⟨q1, q2, q3, q4⟩ := p2
    refine ⟨q1, q2, q3, ?_⟩
    by_cases e : l = []
    · exact Or.inl e
    · obtain ⟨g, r1, r2, r3, r4⟩ := q4.resolve_left e
      have hg := h5 c l g hs e r1
      refine Or.inr ⟨g, r1, r2, by rw [o.size]; exact r3, fun i hi => ?_⟩
      rw [World.cell?_of_block (a := ⟨g, i, none⟩) (w := w) (o.block g hg)]
      exact r4 i hi
/-- Rows that were there. -/
theorem VN.row {w : World} {kb mb : Nat} {G : Ns} (h : VN w kb mb G) {m : Nat} (hm : m ∈ G.ds) {c : ByteArray} {l : List Nat} {g : Nat} (hs : G.str m = some (c, l)) (hl : l ≠ []) (hg : (G.ly m).1 = some ⟨g, 0, none⟩) : g < w.heap.size := by
  obtain ⟨_, p2, _⟩ := h.gn.nd m hm
  rw [hs] at p2
  obtain ⟨g', r1, _, r3, _⟩ := p2.2.2.2.resolve_left hl
  rw [hg] at r1
  injection r1 with r1
  injection r1 with r1
  subst r1
  exact r3
theorem Of.addVar {str : Str} {vr : Nat → Nat} {ds : List Nat} {ty : Nat → Ty} (h : Un.Of str vr (fun n => n ∈ ds) ty) {n v : Nat} (hn : ¬ n ∈ ds) (hv : ∀ m ∈ ds, str m = none → vr m ≠ v) : Un.Of (Un.upd str n none) (Un.upd vr n v) (fun x => x ∈ n :: ds) (Un.upd ty n (.var v)) := by
  refine ⟨fun x hx e => ?_, fun x c l e => ?_, fun x y hx hy e1 e2 e3 => ?_⟩
  · by_cases q : x = n
    · subst q; simp [Un.upd]
    · simp only [Un.upd, q, if_false] at e ⊢
      exact h.var x ((List.mem_cons.1 hx).resolve_left q) e
  · by_cases q : x = n
    · subst q; simp [Un.upd] at e
    · simp only [Un.upd, q, if_false] at e ⊢
      obtain ⟨a, b, d⟩ := h.con x c l e
      refine ⟨List.mem_cons_of_mem _ a, ?_, fun y hy => List.mem_cons_of_mem _ (d y hy)⟩
      rw [b]
      congr 1
      apply List.map_congr_left
      intro y hy
      have : y ≠ n := fun q => hn (q ▸ d y hy)
      simp [Un.upd, this]
  · by_cases q : x = n <;> by_cases r : y = n
    · rw [q, r]
    · subst q
      simp only [Un.upd, r, if_true, if_false] at e2 e3
      exact absurd e3.symm (hv y ((List.mem_cons.1 hy).resolve_left r) e2)
    · subst r
      simp only [Un.upd, q, if_true, if_false] at e1 e3
      exact absurd e3 (hv x ((List.mem_cons.1 hx).resolve_left q) e1)
    · simp only [Un.upd, q, r, if_false] at e1 e2 e3
      exact h.one x y ((List.mem_cons.1 hx).resolve_left q) ((List.mem_cons.1 hy).resolve_left r) e1 e2 e3
theorem Of.addCon {str : Str} {vr : Nat → Nat} {ds : List Nat} {ty : Nat → Ty} (h : Un.Of str vr (fun n => n ∈ ds) ty) {n : Nat} (hn : ¬ n ∈ ds) (c : ByteArray) (l : List Nat) (hl : ∀ m ∈ l, m ∈ ds) (v : Nat) : Un.Of (Un.upd str n (some (c, l))) (Un.upd vr n v) (fun x => x ∈ n :: ds) (Un.upd ty n (.con c (l.map ty))) := by
  have hmap : ∀ l : List Nat, (∀ m ∈ l, m ∈ ds) → l.map (Un.upd ty n (.con c (l.map ty))) = l.map ty := by
    intro l hl
    apply List.map_congr_left
    intro y hy
    have : y ≠ n := fun q => hn (q ▸ hl y hy)
    simp [Un.upd, this]
  have hmap' : ∀ (T : Ty) (l : List Nat), (∀ m ∈ l, m ∈ ds) → l.map (Un.upd ty n T) = l.map ty := by
    intro T l hl
    apply List.map_congr_left
    intro y hy
    have : y ≠ n := fun q => hn (q ▸ hl y hy)
    simp [Un.upd, this]
  refine ⟨fun x hx e => ?_, fun x c' l' e => ?_, fun x y hx hy e1 e2 e3 => ?_⟩
  · by_cases q : x = n
    · subst q; simp [Un.upd] at e
    · simp only [Un.upd, q, if_false] at e ⊢
      exact h.var x ((List.mem_cons.1 hx).resolve_left q) e
  · by_cases q : x = n
    · subst q
      simp [Un.upd] at e
      obtain ⟨rfl, rfl⟩ := e
      refine ⟨by simp, ?_, fun y hy => List.mem_cons_of_mem _ (hl y hy)⟩
      rw [hmap' _ _ hl]
      simp [Un.upd]
    · have e' : str x = some (c', l') := by simpa [Un.upd, q] using e
      obtain ⟨a, b, d⟩ := h.con x c' l' e'
      refine ⟨List.mem_cons_of_mem _ a, ?_, fun y hy => List.mem_cons_of_mem _ (d y hy)⟩
      rw [hmap' _ _ d, ← b]
      simp [Un.upd, q]
  · have q : x ≠ n := fun q => by subst q; simp [Un.upd] at e1
    have r : y ≠ n := fun q => by subst q; simp [Un.upd] at e2
    simp only [Un.upd, q, r, if_false] at e1 e2 e3
    exact h.one x y ((List.mem_cons.1 hx).resolve_left q) ((List.mem_cons.1 hy).resolve_left r) e1 e2 e3
end Go.Proofs.YteneoapickhpdaaGreatDoor
namespace Go.Proofs.YteneoapickhpdaaGreatDoor
open Go Go.RowKit Go.ChangeMaps Un
section
variable {w : World} {kb mb : Nat} {G : Ns}
theorem zeroNode (w : World) : (zeroValue 89).run Tryz.prog w = .ok (.pointer none) w := by kernel_rfl
def VarPost (kb mb : Nat) (G : Ns) (T : Ty) (w : World) (e : Ending) (w' : World) : Prop :=
  ∃ n G', e = .returned (nA n) ∧ VN w' kb mb G' ∧ G.Le G' ∧ n ∈ G'.ds ∧ G'.ty n = T ∧ Fr (IsM mb) w w' ∧ Ns.New w.heap.size G G'
set_option maxRecDepth 100000 in
set_option maxHeartbeats 1000000 in
theorem varOf_C (h : VN w kb mb G) (v : Nat) : Calls Tryz.prog 55 #[.int .i64 (v : Int), .pointer (some ⟨kb, 0, none⟩), .pointer (some ⟨lvB kb, 0, none⟩)] w (VarPost kb mb G (.var v) w) := by
  have hl := h.mp.look (KL.num Tryz.underlying79) Tryz.underlying150 (zeroNode w) (v : Int) trivial (fun _ _ => trivial) true
  obtain ⟨c, f, z⟩ := h.bk
  have hnot : ∀ (x : Bool) (w : World), (Op.unary .not (.bool x)).run Tryz.prog w = .ok (.bool (!x)) w := fun _ _ => rfl
  have hcc : w.cell? ⟨kb, 0, none⟩ = some (.map (some mb)) := c 0
  have hcl : w.cell? ⟨lvB kb, 0, none⟩ = some (.int .i64 0) := h.lv.c 0
  have hzl : lvB kb < w.heap.size := h.lv.z
  by_cases hm : ∃ n, n ∈ G.vl ∧ G.vr n = v
  · obtain ⟨n, hn, rfl⟩ := hm
    obtain ⟨n1, n2⟩ := (h.vs n).1 hn
    rw [got_vl_in hn (fun m hm e => h.of.one m n ((h.vs m).1 hm).1 n1 ((h.vs m).1 hm).2 n2 e)] at hl
    simp at hl
    have H := hide h
    clear h
    go_enter Tryz.func55, Tryz.ntmps55
    go_wp2_with fail
    go_ret
    exact ⟨n, G, rfl, unhide H, Ns.Le.refl _, n1, (unhide H).of.var n n1 n2, Fr.refl _ _, Ns.New.refl _ _⟩
  · have hv : ∀ m ∈ G.vl, G.vr m ≠ v := fun m h1 h2 => hm ⟨m, h1, h2⟩
    have hg := got_vl hv
    rw [hg] at hl
    simp at hl
    have HM := hide (h.mp.below ((Below.refl _ _).alloc (Nat.le_refl _) (.cells #[.pointer none, .int .i64 0, .int .i64 (v : Int), .string ⟨#[]⟩, .slice none 0 0] 158)))
    have BK := h.bk.alloc (.cells #[.pointer none, .int .i64 0, .int .i64 (v : Int), .string ⟨#[]⟩, .slice none 0 0] 158)
    obtain ⟨c1, f1, z1⟩ := BK
    have hcc1 : (w.alloc (.cells #[.pointer none, .int .i64 0, .int .i64 (v : Int), .string ⟨#[]⟩, .slice none 0 0] 158)).cell? ⟨kb, 0, none⟩ = some (.map (some mb)) := c1 0
    have H := hide h
    clear h c1 f1 z1
    go_enter Tryz.func55, Tryz.ntmps55
    go_wp2_with (first | (go_at_call 56; go_in) | (refine wpList_put _ rfl _ _ _ _ (Or.inr rfl) (KL.num Tryz.underlying79) Tryz.underlying150 _ _ rfl (unhide HM) (v : Int) (nA w.heap.size) rfl rfl trivial (fun _ _ => trivial) ?_; intro w' H' O'; have HM2 := hide H'; have O2 := hide O'; clear H' O'))
    go_ret
    have O := unhide O2
    have h := unhide H
    have zm := h.mp.lt
    have hz : ¬ w.heap.size ∈ G.ds := fun q => by have := (h.gn.nd _ q).lt; omega
    have hzv : ¬ w.heap.size ∈ G.vl := fun q => hz ((h.vs _).1 q).1
    have hsz : w'.heap.size = w.heap.size + 1 := O.size.trans (Array.size_push ..)
    have F1 : Fr (IsM mb) w w' := by
      have f1 : Fr (IsM mb) w (w.alloc (.cells #[.pointer none, .int .i64 0, .int .i64 (v : Int), .string ⟨#[]⟩, .slice none 0 0] 158)) := Fr.of ((Below.refl _ _).alloc (Nat.le_refl _) _)
      exact ⟨O.os.trans f1.os, O.tape.trans f1.tape, O.output.trans f1.output, by omega, fun k hk hn => (O.block k (fun e => hn e)).trans (f1.block k hk hn)⟩
    have hnode : w'.heap[w.heap.size]? = some (.cells #[.pointer none, .int .i64 0, .int .i64 (v : Int), .string ⟨#[]⟩, .slice none 0 0] 158 (0, 0)) := by
      rw [O.block _ (by omega)]
      exact (MapKept.heap_alloc w _).1
    have kz : kb ≠ mb := fun e => by subst e; have := h.mp.nocell 0; rw [hcc] at this; cases this
    refine ⟨w.heap.size, ⟨w.heap.size :: G.ds, Un.upd G.str w.heap.size none, Un.upd G.vr w.heap.size v, Un.upd G.ly w.heap.size (none, 0), Un.upd G.ty w.heap.size (.var v), G.vl ++ [w.heap.size]⟩, rfl, ⟨?_, ?_, ?_, ?_, ?_, ?_, ?_, h.lv.fr F1 (fun e => h.lm e), fun q => (List.mem_cons.1 q).elim (fun q => by omega) h.ld, h.lm⟩, ?_, by simp, by simp [Un.upd], F1, fun m hm => ?_⟩
    · exact h.bk.fr F1 (fun e => kz e)
    · have := unhide HM2
      rw [putL_new _ _ _ hg] at this
      have e1 : vlL (Un.upd G.vr w.heap.size v) (G.vl ++ [w.heap.size]) = vlL G.vr G.vl ++ [((v : Int), nA w.heap.size)] := by
        rw [← vlL_upd (v := v) hzv]
        simp [vlL, Un.upd]
      show MS _ w' mb (vlL (Un.upd G.vr w.heap.size v) (G.vl ++ [w.heap.size]))
      rw [e1]
      exact this
    · exact h.gn.add F1.size (h.keep F1) (Nat.le_refl _) none v (none, 0) hnode trivial
    · refine Of.addVar h.of hz (fun m hm e => hv m ((h.vs m).2 ⟨hm, e⟩))
    · intro x
      show x ∈ G.vl ++ [w.heap.size] ↔ x ∈ w.heap.size :: G.ds ∧ Un.upd G.str w.heap.size none x = none
      by_cases e : x = w.heap.size
      · simp [e, Un.upd]
      · simp [e, Un.upd, h.vs x]
    · show ¬ kb ∈ w.heap.size :: G.ds
      intro q
      rcases List.mem_cons.1 q with q | q
      · omega
      · exact h.kd q
    · intro x hx
      by_cases e : x = w.heap.size
      · subst e; simp [Un.upd, Wf]
      · simp only [Un.upd, e, if_false]
        exact h.wf x ((List.mem_cons.1 hx).resolve_left e)
    · intro m hm
      have : m ≠ w.heap.size := fun e => hz (e ▸ hm)
      exact ⟨List.mem_cons_of_mem _ hm, by simp [Un.upd, this]⟩
    · by_cases e : m = w.heap.size
      · subst e
        exact Or.inr ⟨Nat.le_refl _, fun g q => by simp [Un.upd] at q⟩
      · have hm' : m ∈ G.ds := (List.mem_cons.1 hm).resolve_left e
        exact Or.inl ⟨hm', by simp [Un.upd, e], by simp [Un.upd, e]⟩
end
end Go.Proofs.YteneoapickhpdaaGreatDoor

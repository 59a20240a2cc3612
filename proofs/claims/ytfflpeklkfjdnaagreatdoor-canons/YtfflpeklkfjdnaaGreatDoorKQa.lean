import Derived.Deep.LoopGhost
import Derived.Laws.MakeOwn
import Derived.Test.YtfflpeklkfjdnaaGreatDoorKTf
import Derived.Test.YtfflpeklkfjdnaaGreatDoorKPk
set_option linter.unusedSimpArgs false
set_option linter.unusedVariables false
set_option linter.unusedSectionVars false
namespace Go.Proofs.YtfflpeklkfjdnaaGreatDoor
open Go Go.RowKit Go.ChangeMaps Un
/-- A variable's name without its sign. -/
def tl (s : ByteArray) : ByteArray := s.extract 1 s.size
def Quo (s : ByteArray) : Prop := ∃ r, s.toList = 39 :: r
theorem tl_list {s : ByteArray} {r : List UInt8} (h : s.toList = 39 :: r) : (tl s).toList = r := by
  unfold tl
  rw [ByteArray.toList_eq] at h ⊢
  rw [ByteArray.data_extract]
  simp
  rw [h]
  have : s.size = (39 :: r).length := by rw [← h]; simp
  rw [this]
  simp
theorem tl_inj {s t : ByteArray} (hs : Quo s) (ht : Quo t) (h : tl s = tl t) : s = t := by
  obtain ⟨r, hr⟩ := hs
  obtain ⟨q, hq⟩ := ht
  have : r = q := by rw [← tl_list hr, ← tl_list hq, h]
  exact toList_inj (by rw [hr, hq, this])
/-- The names that have come so far, each with its variable. -/
def nmF : Nat → List ByteArray → List (ByteArray × Value)
  | _, [] => []
  | i, a :: l => (tl a, .int .i64 ((i : Int) + 1)) :: nmF (i + 1) l
theorem nmF_snoc (s : ByteArray) : ∀ l i, nmF i (l ++ [s]) = nmF i l ++ [(tl s, .int .i64 (((i + l.length : Nat) : Int) + 1))]
  | [], i => by simp [nmF]
  | a :: l, i => by
    simp only [List.cons_append, nmF, nmF_snoc s l (i + 1)]
    simp
    omega
theorem got_in {s : ByteArray} (hs : Quo s) : ∀ l i, (∀ a ∈ l, Quo a) → s ∈ l → got (tl s) (nmF i l) = some (.int .i64 (((i + ix s l : Nat) : Int) + 1))
  | [], i, _, h => by simp at h
  | a :: l, i, h, hm => by
    unfold nmF got
    by_cases e : tl a = tl s
    · have : a = s := tl_inj (h a (by simp)) hs e
      subst this
      simp [ix]
    · have hne : ¬ s = a := fun q => e (by rw [q])
      have hx : ix s (a :: l) = ix s l + 1 := by
        show (if a.toList = s.toList then 0 else ix s l + 1) = _
        rw [if_neg (fun q => hne (toList_inj q).symm)]
      rw [if_neg e, got_in hs l (i + 1) (fun b hb => h b (List.mem_cons_of_mem _ hb)) ((List.mem_cons.1 hm).resolve_left hne), hx]
      congr 2
      omega
theorem got_out {s : ByteArray} (hs : Quo s) : ∀ l i, (∀ a ∈ l, Quo a) → ¬ s ∈ l → got (tl s) (nmF i l) = none
  | [], i, _, _ => rfl
  | a :: l, i, h, hm => by
    unfold nmF got
    have e : ¬ tl a = tl s := fun q => hm (List.mem_cons.2 (Or.inl (tl_inj (h a (by simp)) hs q).symm))
    rw [if_neg e]
    exact got_out hs l (i + 1) (fun b hb => h b (List.mem_cons_of_mem _ hb)) (fun q => hm (List.mem_cons_of_mem _ q))
/-- What tells the variable of a name, in memory. -/
structure NM (w : World) (kb fb cb mb : Nat) (ns : List ByteArray) : Prop where
  bk : Bx w kb #[.map (some mb)]
  bf : Bx w fb #[.func (.func 62) #[] #[.pointer (some ⟨cb, 0, none⟩)]]
  bc : Bx w cb #[.int .i64 (ns.length : Int)]
  mp : MS Value.string w mb (nmF 0 ns)
  qo : ∀ a ∈ ns, Quo a
  nd : ns.Nodup
  d1 : cb ≠ kb ∧ cb ≠ fb ∧ cb ≠ mb ∧ mb ≠ kb ∧ mb ≠ fb
abbrev nmV (kb fb : Nat) : Value := .func (.func 61) #[] #[.pointer (some ⟨kb, 0, none⟩), .pointer (some ⟨fb, 0, none⟩)]
def Two (cb mb : Nat) (b : Nat) : Prop := b = cb ∨ b = mb
theorem NM.fr {S : Nat → Prop} {w w' : World} {kb fb cb mb : Nat} {ns : List ByteArray} (h : NM w kb fb cb mb ns) (hf : Fr S w w') (hS : ∀ b, S b → b ≠ kb ∧ b ≠ fb ∧ b ≠ cb ∧ b ≠ mb) : NM w' kb fb cb mb ns :=
  ⟨h.bk.fr hf (fun q => (hS _ q).1 rfl), h.bf.fr hf (fun q => (hS _ q).2.1 rfl), h.bc.fr hf (fun q => (hS _ q).2.2.1 rfl), h.mp.same (hf.block mb h.mp.lt (fun q => (hS _ q).2.2.2 rfl)), h.qo, h.nd, h.d1⟩
theorem NM.bel {w w' : World} {kb fb cb mb : Nat} {ns : List ByteArray} (h : NM w kb fb cb mb ns) (hb : Below w.heap.size w w') : NM w' kb fb cb mb ns := h.fr (S := fun _ => False) (Fr.of hb) (fun _ q => q.elim)
theorem NM.set {w : World} {kb fb cb mb : Nat} {ns : List ByteArray} (h : NM w kb fb cb mb ns) {b : Nat} (hb : b ≠ kb ∧ b ≠ fb ∧ b ≠ cb ∧ b ≠ mb) (j : Nat) (v : Value) : NM (w.setCell ⟨b, j, none⟩ v) kb fb cb mb ns :=
  h.fr (S := fun x => x = b) ((Fr.refl (fun x => x = b) w).set (Or.inl rfl) j v) (fun x q => by subst q; exact hb)
section
variable {w : World} {kb fb cb mb : Nat} {ns : List ByteArray}
theorem zeroVar (w : World) : (zeroValue 157).run Tryz.prog w = .ok (.int .i64 0) w := by kernel_rfl
set_option maxRecDepth 100000 in
set_option maxHeartbeats 1000000 in
theorem freshOne_C (n : Nat) (hn : n ≤ 1000) (h : Bx w cb #[.int .i64 (n : Int)]) : Calls Tryz.prog 62 #[.pointer (some ⟨cb, 0, none⟩)] w fun e w' => e = .returned (.int .i64 ((n : Int) + 1)) ∧ w' = w.setCell ⟨cb, 0, none⟩ (.int .i64 ((n : Int) + 1)) := by
  obtain ⟨c, f, z⟩ := h
  go_enter Tryz.func62, Tryz.ntmps62
  go_wp2_with fail
  go_ret
  exact ⟨rfl, rfl⟩
def NameOf (kb fb cb mb : Nat) (ns : List ByteArray) (s : ByteArray) (w : World) (e : Ending) (w' : World) : Prop :=
  e = .returned (.iface 157 (.int .i64 ((ix s (addN s ns) : Int) + 1))) ∧ NM w' kb fb cb mb (addN s ns) ∧ Fr (Two cb mb) w w'
set_option maxRecDepth 100000 in
set_option maxHeartbeats 1000000 in
theorem nameOf_C (h : NM w kb fb cb mb ns) (s : ByteArray) (hs : Quo s) (hn : ns.length ≤ 1000) : Calls Tryz.prog 61 #[.string (tl s), .pointer (some ⟨kb, 0, none⟩), .pointer (some ⟨fb, 0, none⟩)] w (NameOf kb fb cb mb ns s w) := by
  have hl := h.mp.look (KL.str Tryz.underlying9) Tryz.underlying156 (zeroVar w) (tl s) trivial (fun _ _ => trivial) true
  obtain ⟨c, f, z⟩ := h.bk
  obtain ⟨cf, ff, zf⟩ := h.bf
  have hnot : ∀ (x : Bool) (w : World), (Op.unary .not (.bool x)).run Tryz.prog w = .ok (.bool (!x)) w := fun _ _ => rfl
  by_cases hm : s ∈ ns
  · rw [got_in hs ns 0 h.qo hm] at hl
    simp at hl
    go_enter Tryz.func61, Tryz.ntmps61
    go_wp2_with fail
    go_ret
    unfold NameOf
    rw [addN_in hm]
    exact ⟨rfl, h, Fr.refl _ _⟩
  · have hg := got_out hs ns 0 h.qo hm
    rw [hg] at hl
    simp at hl
    have hd := h.d1
    have hcc : w.cell? ⟨kb, 0, none⟩ = some (.map (some mb)) := c 0
    have HM := hide (h.mp.setC hd.2.2.1.symm 0 (.int .i64 ((ns.length : Int) + 1)))
    have BK := hide (h.bk.setO'' hd.1.symm 0 (.int .i64 ((ns.length : Int) + 1)))
    have BF := hide (h.bf.setO'' hd.2.1.symm 0 (.int .i64 ((ns.length : Int) + 1)))
    have BC := hide (h.bc.setS' 0 (.int .i64 ((ns.length : Int) + 1)) #[.int .i64 ((ns.length : Int) + 1)] rfl (by simp))
    have F1 := hide ((Fr.refl (Two cb mb) w).set (b := cb) (Or.inl (Or.inl rfl)) 0 (.int .i64 ((ns.length : Int) + 1)))
    obtain ⟨c1, f1, z1⟩ := unhide BK
    go_enter Tryz.func61, Tryz.ntmps61
    go_wp2_with (first | (go_at_call 62; refine (freshOne_C ns.length (by omega) h.bc).mono ?_; rintro e w' ⟨rfl, rfl⟩) | (refine wpList_put _ rfl _ _ _ _ (Or.inr rfl) (KL.str Tryz.underlying9) Tryz.underlying156 _ _ rfl (unhide HM) (tl s) (.int .i64 ((ns.length : Int) + 1)) rfl rfl trivial (fun _ _ => trivial) ?_; intro w' H' O'; have HM2 := hide H'; have O2 := hide O'; clear H' O'))
    go_ret
    have e1 : addN s ns = ns ++ [s] := addN_out hm
    have e2 : ix s (ns ++ [s]) = ns.length := ix_snoc hm
    unfold NameOf
    rw [e1, e2]
    have O := unhide O2
    refine ⟨rfl, ⟨(unhide BK).one O hd.2.2.2.1.symm, (unhide BF).one O hd.2.2.2.2.symm, ?_, ?_, ?_, ?_, hd⟩, ?_⟩
    · have := (unhide BC).one O hd.2.2.1
      simpa using this
    · have := unhide HM2
      rw [putL_new _ _ _ hg] at this
      rw [nmF_snoc]
      simpa using this
    · intro a ha
      rcases List.mem_append.1 ha with q | q
      · exact h.qo a q
      · simp at q; subst q; exact hs
    · rw [List.nodup_append]
      refine ⟨h.nd, by simp, fun a ha b hb => ?_⟩
      simp at hb
      subst hb
      intro e
      subst e
      exact hm ha
    · have f1 := unhide F1
      exact ⟨O.os.trans f1.os, O.tape.trans f1.tape, O.output.trans f1.output, by rw [O.size]; exact f1.size, fun k hk hn => (O.block k (fun e => hn (Or.inr e))).trans (f1.block k hk hn)⟩
end
end Go.Proofs.YtfflpeklkfjdnaaGreatDoor
namespace Go.Proofs.YtfflpeklkfjdnaaGreatDoor
open Go Go.RowKit Go.ChangeMaps Un
/-- What the project calls what a type is made by. -/
def pn (c : ByteArray) : ByteArray := if c.toList = [62] then ⟨#[45, 62]⟩ else c
/-- What a type can be made by. -/
def CN (c : ByteArray) : Prop := c = nFn ∨ c = nPr ∨ UpN c
theorem pn_fn : pn nFn = ⟨#[45, 62]⟩ := by unfold pn; rw [if_pos (toList_mk [62])]
theorem pn_pr : pn nPr = ⟨#[44]⟩ := by unfold pn; rw [if_neg (by rw [show nPr.toList = [44] from toList_mk [44]]; decide)]
theorem upN_ne {c : ByteArray} (h : UpN c) (x : UInt8) (r : List UInt8) (hx : Pu.upB x.toNat = false) : c.toList ≠ x :: r := by
  obtain ⟨y, q, h1, h2⟩ := h
  intro e
  rw [h1] at e
  injection e with e1 _
  subst e1
  rw [hx] at h2
  cases h2
theorem pn_up {c : ByteArray} (h : UpN c) : pn c = c := by unfold pn; rw [if_neg (upN_ne h 62 [] (by decide))]
/-- A type apart from any source, as it lies in memory. -/
inductive TyV (w : World) (P : Nat → Prop) : Ty → Value → Prop where
  | var (n : Nat) : TyV w P (.var n) (.iface 157 (.int .i64 (n : Int)))
  | con (c : ByteArray) (L : List Ty) (sa : Option Addr) (sc : Nat) (vs : Nat → Value) (hc : CN c) (hrow : L = [] ∨ ∃ g, sa = some ⟨g, 0, none⟩ ∧ P g ∧ g < w.heap.size ∧ ∀ i, i < L.length → w.cell? ⟨g, i, none⟩ = some (vs i)) (hr : ∀ i (h : i < L.length), TyV w P L[i] (vs i)) :
      TyV w P (.con c L) (.iface 275 (.agg #[.string (pn c), .slice sa L.length sc]))
theorem TyV.move {w w' : World} {P Q : Nat → Prop} {t : Ty} {v : Value} (h : TyV w P t v) (hs : w.heap.size ≤ w'.heap.size) (hb : ∀ b, P b → b < w.heap.size → w'.heap[b]? = w.heap[b]?) (hq : ∀ b, P b → b < w.heap.size → Q b) : TyV w' Q t v := by
  induction h with
  | var n => exact .var n
  | con c L sa sc vs hc hrow hr ih =>
    refine .con c L sa sc vs hc ?_ ih
    rcases hrow with h0 | ⟨g, h1, hP, hz, hc⟩
    · exact Or.inl h0
    · refine Or.inr ⟨g, h1, hq g hP hz, Nat.lt_of_lt_of_le hz hs, fun i hi => ?_⟩
      rw [World.cell?_of_block (a := ⟨g, i, none⟩) (w := w) (hb g hP hz)]
      exact hc i hi
theorem TyV.bel {w w' : World} {P : Nat → Prop} {t : Ty} {v : Value} (h : TyV w P t v) (hb : Below w.heap.size w w') : TyV w' P t v := h.move hb.size (fun b _ hz => hb.block b hz) (fun _ p _ => p)
theorem TyV.wide {w : World} {P Q : Nat → Prop} {t : Ty} {v : Value} (h : TyV w P t v) (hq : ∀ b, P b → Q b) : TyV w Q t v := h.move (Nat.le_refl _) (fun _ _ _ => rfl) (fun b p _ => hq b p)
theorem TyV.fr {S : Nat → Prop} {w w' : World} {P : Nat → Prop} {t : Ty} {v : Value} (h : TyV w P t v) (hf : Fr S w w') (hS : ∀ b, P b → b < w.heap.size → ¬ S b) : TyV w' P t v := h.move hf.size (fun b p z => hf.block b z (hS b p z)) (fun _ p _ => p)
theorem TyV.low {w : World} {P : Nat → Prop} {t : Ty} {v : Value} (h : TyV w P t v) : TyV w (fun b => P b ∧ b < w.heap.size) t v := h.move (Nat.le_refl _) (fun _ _ _ => rfl) (fun _ p z => ⟨p, z⟩)
theorem TyV.iface {w : World} {P : Nat → Prop} {t : Ty} {v : Value} (h : TyV w P t v) : ∃ a x, v = .iface a x := by
  cases h <;> exact ⟨_, _, rfl⟩
theorem PT.fr {S : Nat → Prop} {w w' : World} {P : Nat → Prop} {nd : Nd} {v : Value} (h : PT w P nd v) (hf : Fr S w w') (hS : ∀ b, P b → b < w.heap.size → ¬ S b) : PT w' P nd v := h.move hf.size (fun b p z => hf.block b z (hS b p z)) (fun _ p _ => p)
theorem PT.iface' {w : World} {P : Nat → Prop} {a : Nd} {v : Value} (h : PT w P a v) : ∃ t x, v = .iface t (.agg x) := by
  cases h <;> exact ⟨_, _, rfl⟩
theorem made_replicate (z : Value) (n : Nat) : madeCells #[z] n = Array.replicate n z := by
  unfold madeCells
  apply Array.ext
  · simp
  · intro i h1 h2; simp [Nat.mod_one]
/-- 'make([]T, n)', T of one cell. -/
theorem run_make1 {P : Program} {t e : TypeId} {i : TypeInfo} {z : Value} {by_ : Nat} (ht : P.underlying t = some (.slice e)) (hi : P.info? e = some i) (hz : i.zero = some z) (hzc : z.cells = #[z]) (h1 : i.size = 1) (h2 : i.bytes = by_) (hby : by_ ≤ 16) (n : Nat) (hn : n ≤ 1001) (w : World) :
    (Instr.makeSlice t (.int .i64 (n : Int)) (.int .i64 (n : Int))).run P w = .ok (.slice (some ⟨w.heap.size, 0, none⟩) n n) (w.alloc (.cells (Array.replicate n z) e)) := by
  have hb : (i.bytes : Int) * (n : Int) ≤ 281474976710656 := by
    rw [h2]
    have : by_ * n ≤ 16 * 1001 := Nat.mul_le_mul hby hn
    have h3 : ((by_ * n : Nat) : Int) ≤ 281474976710656 := by omega
    rwa [Int.natCast_mul] at h3
  rw [run_make w t e i z ht hi hz .i64 .i64 n n (by omega) (Int.le_refl _) hb (by omega), hzc, h1]
  simp [made_replicate]
theorem refTypeInfo' : (Tryz.prog.info? 66).map (fun i => (i.zero, i.size, i.bytes)) = some (some .nilIface, 1, 16) := by kernel_rfl
theorem typesUnder' : Tryz.prog.underlying 273 = some (.slice 66) := by kernel_rfl
def OfPost' (kb fb cb mb : Nat) (ns : List ByteArray) (T : Ty) (ns' : List ByteArray) (w : World) (e : Ending) (w' : World) : Prop :=
  ∃ u, e = .returned u ∧ TyV w' (fun b => w.heap.size ≤ b) T u ∧ NM w' kb fb cb mb ns' ∧ Fr (Two cb mb) w w'
/-- That types.Of keeps its promise. -/
def OfC (nd : Nd) : Prop := ∀ (w : World) (kb fb cb mb : Nat) (ns : List ByteArray) (Q : Nat → Prop) (v : Value), NM w kb fb cb mb ns → PT w Q nd v → (∀ b, Q b → b ≠ cb ∧ b ≠ mb) → (mean ns nd).2.length ≤ 1000 →
  Calls Tryz.prog 59 #[v, nmV kb fb] w (OfPost' kb fb cb mb ns (mean ns nd).1 (mean ns nd).2 w)
theorem NM.lt {w : World} {kb fb cb mb : Nat} {ns : List ByteArray} (h : NM w kb fb cb mb ns) : kb < w.heap.size ∧ fb < w.heap.size ∧ cb < w.heap.size ∧ mb < w.heap.size := ⟨h.bk.z, h.bf.z, h.bc.z, h.mp.lt⟩
theorem meanL_takeQ (ns : List ByteArray) : ∀ (L : List Nd) (i : Nat) (h : i < L.length), (meanL ns (L.take (i + 1))).1 = (meanL ns (L.take i)).1 ++ [(mean (meanL ns (L.take i)).2 L[i]).1] ∧ (meanL ns (L.take (i + 1))).2 = (mean (meanL ns (L.take i)).2 L[i]).2 := by
  intro L
  induction L generalizing ns with
  | nil => intro i h; simp at h
  | cons x l ih =>
    intro i h
    cases i with
    | zero => simp [meanL]
    | succ i =>
      have := ih (mean ns x).2 i (by simpa using h)
      simp only [List.take_succ_cons, meanL, this, List.getElem_cons_succ]
      simp
/-- What holds ahead of each round of madeOf. -/
def MadeRel (kb fb cb mb : Nat) (ns : List ByteArray) (L : List Nd) (w : World) (gk : Nat) (v : Value) (wr : World) : Prop :=
  ∃ (j : Nat) (C : Array Value), Hid (gk = L.length - j) ∧ j ≤ L.length ∧ v = .int .i64 (j : Int) ∧ NM wr kb fb cb mb (meanL ns (L.take j)).2 ∧ Fr (Two cb mb) w wr ∧ Bx wr w.heap.size C ∧ Hid (C.size = L.length) ∧
    Hid (∀ i (h : i < (meanL ns (L.take j)).1.length), ∃ u, C[i]? = some u ∧ TyV wr (fun b => w.heap.size < b ∧ b < wr.heap.size) (meanL ns (L.take j)).1[i] u)
section
variable {w : World} {kb fb cb mb : Nat} {ns : List ByteArray} {Q : Nat → Prop}
theorem meanL_len' (ns : List ByteArray) : ∀ (L : List Nd), (meanL ns L).1.length = L.length := by
  intro L
  induction L generalizing ns with
  | nil => rfl
  | cons x l ih => simp [meanL, ih]
theorem meanL_take_le (ns : List ByteArray) (L : List Nd) (i : Nat) : (meanL ns (L.take i)).2.length ≤ (meanL ns L).2.length := by
  induction L generalizing ns i with
  | nil => simp
  | cons x l ih =>
    cases i with
    | zero => simp only [List.take_zero]; exact meanL_len (x :: l) ns
    | succ i => simp only [List.take_succ_cons, meanL]; exact ih _ i
set_option maxRecDepth 100000 in
set_option maxHeartbeats 2000000 in
theorem madeOf_C (c : ByteArray) (hcn : CN c) (L : List Nd) (sa : Option Addr) (sc : Nat) (vs : Nat → Value) (hL : L.length ≤ 1001) (h : NM w kb fb cb mb ns) (hQ : ∀ b, Q b → b ≠ cb ∧ b ≠ mb)
    (hrow : L = [] ∨ ∃ g, sa = some ⟨g, 0, none⟩ ∧ Q g ∧ g < w.heap.size ∧ ∀ i, i < L.length → w.cell? ⟨g, i, none⟩ = some (vs i)) (hr : ∀ i (h : i < L.length), PT w Q L[i] (vs i)) (IH : ∀ i (h : i < L.length), OfC L[i]) (hn : (meanL ns L).2.length ≤ 1000) :
    Calls Tryz.prog 123 #[.string (pn c), nmV kb fb, .slice sa L.length sc] w (OfPost' kb fb cb mb ns (.con c (meanL ns L).1) (meanL ns L).2 w) := by
  obtain ⟨i0, hi0, hz0, hz1, hz2⟩ := info_parts refTypeInfo'
  have hmk := run_make1 (by_ := 16) typesUnder' hi0 hz0 rfl hz1 hz2 (by decide) L.length hL
  have hlt := h.lt
  have HN := hide h
  have HR := hide hr
  have HI := hide IH
  have HW := hide hrow
  clear h hr IH hrow
  go_enter Tryz.func123, Tryz.ntmps123
  go_wp2_with fail
  go_loopg [15] L.length (fun gk v wr => MadeRel kb fb cb mb ns L w gk v wr)
  case atStart =>
    refine ⟨0, Array.replicate L.length .nilIface, hide (by simp), Nat.zero_le _, rfl, ?_, Fr.of ((Below.refl _ _).alloc (Nat.le_refl _) _), Bx.new w _ _, hide (by simp), hide (fun i hi => absurd hi (by simp [meanL]))⟩
    simpa [meanL] using (unhide HN).bel ((Below.refl _ _).alloc (Nat.le_refl _) _)
  case round =>
    obtain ⟨j, C, hgk, hj, rfl, N1, F1, B1, hC, hT⟩ := hrel
    have zw := F1.size
    have n1 := N1.lt
    by_cases hjl : j < L.length
    · have hd : (j : Int) < (L.length : Int) := by omega
      obtain ⟨g, rfl, hg, hgz, hcell⟩ : ∃ g, sa = some ⟨g, 0, none⟩ ∧ Q g ∧ g < w.heap.size ∧ ∀ i, i < L.length → w.cell? ⟨g, i, none⟩ = some (vs i) := by
        rcases unhide HW with h0 | h0
        · subst h0; simp at hjl
        · exact h0
      have hQg := hQ g hg
      have cg : wr.cell? ⟨g, j, none⟩ = some (vs j) := by
        rw [World.cell?_of_block (a := ⟨g, j, none⟩) (w := w) (F1.block g hgz (fun q => by rcases q with q | q; exact hQg.1 q; exact hQg.2 q))]
        exact hcell j hjl
      have PJ := (unhide HR j hjl).fr F1 (fun b p _ q => by rcases q with q | q; exact (hQ b p).1 q; exact (hQ b p).2 q)
      obtain ⟨tv, xv, hv⟩ := PJ.iface'
      obtain ⟨mt1, mt2⟩ := meanL_takeQ ns L j hjl
      have hnj : (mean (meanL ns (L.take j)).2 L[j]).2.length ≤ 1000 := by rw [← mt2]; exact Nat.le_trans (meanL_take_le ns L (j + 1)) hn
      have HC := unhide HI j hjl wr kb fb cb mb _ Q (vs j) N1 PJ hQ hnj
      rw [hv] at cg HC
      go_wp2_with fail
      refine HC.mono ?_
      rintro e w1 ⟨u, rfl, hU, N2, F2⟩
      obtain ⟨tu, xu, rfl⟩ := hU.iface
      have hpb : ¬ Two cb mb w.heap.size := fun q => by rcases q with q | q <;> omega
      have B2 := B1.fr F2 hpb
      have hjC : j < C.size := by rw [unhide hC]; exact hjl
      have cj : w1.cell? ⟨w.heap.size, j, none⟩ = some C[j] := (B2.c j).trans (Array.getElem?_eq_getElem hjC)
      have fj := B2.f j
      have B3 := hide (B2.setS' j (.iface tu xu) (C.setIfInBounds j (.iface tu xu)) rfl hjC)
      have HU := hide hU
      have HN2 := hide N2
      have HF2 := hide (F1.trans F2)
      have HF := hide F2
      have z2 := F2.size
      clear HC hU N2 F2 B2 cg PJ
      go_wp2_with fail
      go_roundg (L.length - (j + 1))
      case measure => rw [unhide hgk]; omega
      case rel =>
        have lenT : (meanL ns (L.take j)).1.length = j := by rw [meanL_len']; simp; omega
        refine ⟨j + 1, C.setIfInBounds j (.iface tu xu), hide rfl, by omega, by go_num, ?_, ?_, unhide B3, hide (by simp; exact unhide hC), hide (fun i hi => ?_)⟩
        · rw [mt2]
          exact (unhide HN2).set (by omega) j _
        · exact (unhide HF2).set (Or.inr (Nat.le_refl _)) j _
        · have hst : ∀ b, w.heap.size < b → b < w1.heap.size → (w1.setCell ⟨w.heap.size, j, none⟩ (.iface tu xu)).heap[b]? = w1.heap[b]? := fun b hb _ => Below.heap_setCell _ _ _ _ (by show b ≠ w.heap.size; omega)
          have hss : (w1.setCell ⟨w.heap.size, j, none⟩ (.iface tu xu)).heap.size = w1.heap.size := by simp [World.setCell]
          have hi' : i < j + 1 := by rw [mt1] at hi; simp [lenT] at hi; omega
          by_cases e : i = j
          · subst e
            refine ⟨.iface tu xu, by simp [hjC], ?_⟩
            have e1 : (meanL ns (L.take (i + 1))).1[i]'hi = (mean (meanL ns (L.take i)).2 L[i]).1 := by
              have : (meanL ns (L.take (i + 1))).1[i]? = some (mean (meanL ns (L.take i)).2 L[i]).1 := by rw [mt1, List.getElem?_append_right (by omega)]; simp [lenT]
              rw [List.getElem?_eq_getElem hi] at this
              exact Option.some.inj this
            rw [e1]
            refine (unhide HU).low.move (by omega) (fun b p z => hst b (by have : wr.heap.size ≤ b := p.1; have := B1.z; omega) z) (fun b p z => ⟨by have : wr.heap.size ≤ b := p.1; have := B1.z; omega, by omega⟩)
          · have hi2 : i < (meanL ns (L.take j)).1.length := by omega
            obtain ⟨u', hu1, hu2⟩ := unhide hT i hi2
            have e1 : (meanL ns (L.take (j + 1))).1[i]'hi = (meanL ns (L.take j)).1[i]'hi2 := by
              have : (meanL ns (L.take (j + 1))).1[i]? = some ((meanL ns (L.take j)).1[i]'hi2) := by rw [mt1, List.getElem?_append_left hi2, List.getElem?_eq_getElem hi2]
              rw [List.getElem?_eq_getElem hi] at this
              exact Option.some.inj this
            refine ⟨u', by rw [Array.getElem?_setIfInBounds_ne (by omega)]; exact hu1, ?_⟩
            rw [e1]
            have h3 := hu2.fr (unhide HF) (fun b p _ q => by rcases q with q | q <;> omega)
            exact h3.move (by omega) (fun b p z => hst b p.1 z) (fun b p z => ⟨p.1, by omega⟩)
    · have hd : decide ((j : Int) < (L.length : Int)) = false := by simp; omega
      have ej : j = L.length := by omega
      subst ej
      go_wp2_with fail
      go_ret
      refine ⟨_, rfl, ?_, ?_, F1⟩
      · have ht : L.take L.length = L := List.take_length
        rw [ht] at hT
        have hml := meanL_len' ns L
        rw [← hml]
        refine .con c _ _ _ (fun i => C.getD i .nilIface) hcn (Or.inr ⟨w.heap.size, rfl, Nat.le_refl _, B1.z, fun i hi => ?_⟩) (fun i hi => ?_)
        · obtain ⟨u, hu, _⟩ := unhide hT i hi
          rw [B1.c i, hu]
          simp [Array.getD_eq_getD_getElem?, hu]
        · obtain ⟨u, hu, hty⟩ := unhide hT i hi
          have : C.getD i .nilIface = u := by simp [Array.getD_eq_getD_getElem?, hu]
          rw [this]
          exact hty.wide fun b p => by show w.heap.size ≤ b; omega
      · rw [List.take_length] at N1
        exact N1
end
end Go.Proofs.YtfflpeklkfjdnaaGreatDoor
namespace Go.Proofs.YtfflpeklkfjdnaaGreatDoor
open Go Go.RowKit Go.ChangeMaps Un
theorem taVV (a0 a1 a2 : Value) (w : World) : (Instr.typeAssert (.iface 265 (.agg #[a0, a1, a2])) 151 265 true).run Tryz.prog w = .ok (.tuple #[.agg #[a0, a1, a2], .bool true]) w := by kernel_rfl
theorem taVA (a0 a1 a2 : Value) (w : World) : (Instr.typeAssert (.iface 265 (.agg #[a0, a1, a2])) 151 267 true).run Tryz.prog w = .ok (.tuple #[.agg #[.int .i64 0, .int .i64 0, .nilIface, .nilIface], .bool false]) w := by kernel_rfl
theorem taVN (a0 a1 a2 : Value) (w : World) : (Instr.typeAssert (.iface 265 (.agg #[a0, a1, a2])) 151 272 true).run Tryz.prog w = .ok (.tuple #[.agg #[.int .i64 0, .int .i64 0, .int .i64 0, .int .i64 0, .string ⟨#[]⟩, .slice none 0 0], .bool false]) w := by kernel_rfl
theorem taAV (a0 a1 a2 a3 : Value) (w : World) : (Instr.typeAssert (.iface 267 (.agg #[a0, a1, a2, a3])) 151 265 true).run Tryz.prog w = .ok (.tuple #[.agg #[.int .i64 0, .int .i64 0, .string ⟨#[]⟩], .bool false]) w := by kernel_rfl
theorem taAA (a0 a1 a2 a3 : Value) (w : World) : (Instr.typeAssert (.iface 267 (.agg #[a0, a1, a2, a3])) 151 267 true).run Tryz.prog w = .ok (.tuple #[.agg #[a0, a1, a2, a3], .bool true]) w := by kernel_rfl
theorem taAP (a0 a1 a2 a3 : Value) (w : World) : (Instr.typeAssert (.iface 267 (.agg #[a0, a1, a2, a3])) 151 269 true).run Tryz.prog w = .ok (.tuple #[.agg #[.int .i64 0, .int .i64 0, .nilIface, .nilIface], .bool false]) w := by kernel_rfl
theorem taAN (a0 a1 a2 a3 : Value) (w : World) : (Instr.typeAssert (.iface 267 (.agg #[a0, a1, a2, a3])) 151 272 true).run Tryz.prog w = .ok (.tuple #[.agg #[.int .i64 0, .int .i64 0, .int .i64 0, .int .i64 0, .string ⟨#[]⟩, .slice none 0 0], .bool false]) w := by kernel_rfl
theorem taPV (a0 a1 a2 a3 : Value) (w : World) : (Instr.typeAssert (.iface 269 (.agg #[a0, a1, a2, a3])) 151 265 true).run Tryz.prog w = .ok (.tuple #[.agg #[.int .i64 0, .int .i64 0, .string ⟨#[]⟩], .bool false]) w := by kernel_rfl
theorem taPA (a0 a1 a2 a3 : Value) (w : World) : (Instr.typeAssert (.iface 269 (.agg #[a0, a1, a2, a3])) 151 267 true).run Tryz.prog w = .ok (.tuple #[.agg #[.int .i64 0, .int .i64 0, .nilIface, .nilIface], .bool false]) w := by kernel_rfl
theorem taPP (a0 a1 a2 a3 : Value) (w : World) : (Instr.typeAssert (.iface 269 (.agg #[a0, a1, a2, a3])) 151 269 true).run Tryz.prog w = .ok (.tuple #[.agg #[a0, a1, a2, a3], .bool true]) w := by kernel_rfl
theorem taPN (a0 a1 a2 a3 : Value) (w : World) : (Instr.typeAssert (.iface 269 (.agg #[a0, a1, a2, a3])) 151 272 true).run Tryz.prog w = .ok (.tuple #[.agg #[.int .i64 0, .int .i64 0, .int .i64 0, .int .i64 0, .string ⟨#[]⟩, .slice none 0 0], .bool false]) w := by kernel_rfl
theorem taNV (a0 a1 a2 a3 a4 a5 : Value) (w : World) : (Instr.typeAssert (.iface 272 (.agg #[a0, a1, a2, a3, a4, a5])) 151 265 true).run Tryz.prog w = .ok (.tuple #[.agg #[.int .i64 0, .int .i64 0, .string ⟨#[]⟩], .bool false]) w := by kernel_rfl
theorem taNA (a0 a1 a2 a3 a4 a5 : Value) (w : World) : (Instr.typeAssert (.iface 272 (.agg #[a0, a1, a2, a3, a4, a5])) 151 267 true).run Tryz.prog w = .ok (.tuple #[.agg #[.int .i64 0, .int .i64 0, .nilIface, .nilIface], .bool false]) w := by kernel_rfl
theorem taNP (a0 a1 a2 a3 a4 a5 : Value) (w : World) : (Instr.typeAssert (.iface 272 (.agg #[a0, a1, a2, a3, a4, a5])) 151 269 true).run Tryz.prog w = .ok (.tuple #[.agg #[.int .i64 0, .int .i64 0, .nilIface, .nilIface], .bool false]) w := by kernel_rfl
theorem taNN (a0 a1 a2 a3 a4 a5 : Value) (w : World) : (Instr.typeAssert (.iface 272 (.agg #[a0, a1, a2, a3, a4, a5])) 151 272 true).run Tryz.prog w = .ok (.tuple #[.agg #[a0, a1, a2, a3, a4, a5], .bool true]) w := by kernel_rfl
theorem OfPost'.up {kb fb cb mb : Nat} {ns : List ByteArray} {T : Ty} {ns' : List ByteArray} {w w0 : World} {e : Ending} {w' : World} (h : OfPost' kb fb cb mb ns T ns' w0 e w') (hb : Below w.heap.size w w0) : OfPost' kb fb cb mb ns T ns' w e w' := by
  obtain ⟨u, h1, h2, h3, h4⟩ := h
  exact ⟨u, h1, h2.wide fun b p => Nat.le_trans hb.size p, h3, (Fr.of hb).trans h4⟩
section
variable {w : World} {kb fb cb mb : Nat} {ns : List ByteArray} {Q : Nat → Prop}
set_option maxRecDepth 100000 in
set_option maxHeartbeats 1000000 in
theorem of_var (s : ByteArray) (n f t a : Nat) : OfC (.mk 16 s n [] f t a) := by
  intro w kb fb cb mb ns Q v h hp hQ hn
  have e : mean ns (.mk 16 s n [] f t a) = (.var (ix s (addN s ns) + 1), addN s ns) := by simp [mean]
  rw [e] at hn ⊢
  have hn' : ns.length ≤ 1000 := by have := addN_len s ns; simp at hn; omega
  cases hp with
  | var s n f t a x y hq hx hy =>
  clear hx hy
  have h1 := taVV
  have hb0 : Below w.heap.size w (w.alloc (.cells #[.int .i64 x, .int .i64 y, .string (s.extract 1 s.size)] 265)) := (Below.refl _ _).alloc (Nat.le_refl _) _
  have HC := nameOf_C (h.bel hb0) s hq hn'
  go_enter Tryz.func59, Tryz.ntmps59
  go_wp2_with fail
  refine HC.mono ?_
  rintro e w1 ⟨rfl, N1, F1⟩
  go_wp2_with fail
  go_ret
  exact ⟨_, rfl, .var _, N1, (Fr.of hb0).trans F1⟩
set_option maxRecDepth 100000 in
set_option maxHeartbeats 1000000 in
theorem of_fn (s : ByteArray) (n : Nat) (x y : Nd) (f t a : Nat) (hx : OfC x) (hy : OfC y) : OfC (.mk 17 s n [x, y] f t a) := by
  intro w kb fb cb mb ns Q v h hp hQ hn
  have e : mean ns (.mk 17 s n [x, y] f t a) = (.con nFn (meanL ns [x, y]).1, (meanL ns [x, y]).2) := by simp [mean, conN]
  rw [e] at hn ⊢
  cases hp with
  | fn s n a b f t at_ x1 y1 va vb ha hb =>
  obtain ⟨ta, xa, rfl⟩ := ha.iface'
  obtain ⟨tb, xb, rfl⟩ := hb.iface'
  have h0 := taAV
  have h1 := taAA
  have hlt := h.lt
  have hb0 : Below w.heap.size w ((w.alloc (.cells #[.int .i64 x1, .int .i64 y1, .iface ta (.agg xa), .iface tb (.agg xb)] 267)).alloc (.cells #[.iface ta (.agg xa), .iface tb (.agg xb)] 151)) := ((Below.refl _ _).alloc (Nat.le_refl _) _).alloc (by simp) _
  have BR := (Bx.new (w.alloc (.cells #[.int .i64 x1, .int .i64 y1, .iface ta (.agg xa), .iface tb (.agg xb)] 267)) #[.iface ta (.agg xa), .iface tb (.agg xb)] 151)
  have hsz : (w.alloc (.cells #[.int .i64 x1, .int .i64 y1, .iface ta (.agg xa), .iface tb (.agg xb)] 267)).heap.size = w.heap.size + 1 := by simp
  rw [hsz] at BR
  have HC := hide (madeOf_C (Q := fun b => Q b ∨ b = w.heap.size + 1) nFn (Or.inl rfl) [x, y] (some ⟨w.heap.size + 1, 0, none⟩) 2 (fun i => if i = 0 then .iface ta (.agg xa) else .iface tb (.agg xb)) (by simp) (h.bel hb0) (fun b q => by rcases q with q | q; exact hQ b q; omega)
    (Or.inr ⟨w.heap.size + 1, rfl, Or.inr rfl, by simp, fun i hi => by
      have hi2 : i = 0 ∨ i = 1 := by simp at hi; omega
      rw [BR.c i]
      rcases hi2 with rfl | rfl <;> rfl⟩)
    (fun i hi => by
      have hi2 : i = 0 ∨ i = 1 := by simp at hi; omega
      rcases hi2 with rfl | rfl
      · exact (ha.bel hb0).wide fun b p => Or.inl p
      · exact (hb.bel hb0).wide fun b p => Or.inl p)
    (fun i hi => by
      have hi2 : i = 0 ∨ i = 1 := by simp at hi; omega
      rcases hi2 with rfl | rfl
      · exact hx
      · exact hy) hn)
  rw [pn_fn] at HC
  clear BR hsz ha hb
  go_enter Tryz.func59, Tryz.ntmps59
  go_wp2_with fail
  refine (unhide HC).mono ?_
  intro e w1 hp
  have hp2 := hp.up hb0
  obtain ⟨u, rfl, _⟩ := hp
  go_wp2_with fail
  go_ret
  exact hp2
set_option maxRecDepth 100000 in
set_option maxHeartbeats 1000000 in
theorem of_pr (s : ByteArray) (n : Nat) (x y : Nd) (f t a : Nat) (hx : OfC x) (hy : OfC y) : OfC (.mk 6 s n [x, y] f t a) := by
  intro w kb fb cb mb ns Q v h hp hQ hn
  have e : mean ns (.mk 6 s n [x, y] f t a) = (.con nPr (meanL ns [x, y]).1, (meanL ns [x, y]).2) := by simp [mean, conN]
  rw [e] at hn ⊢
  cases hp with
  | pr s n a b f t at_ x1 y1 va vb ha hb =>
  obtain ⟨ta, xa, rfl⟩ := ha.iface'
  obtain ⟨tb, xb, rfl⟩ := hb.iface'
  have h0 := taPV
  have h1 := taPA
  have h2 := taPP
  have hlt := h.lt
  have hb0 : Below w.heap.size w ((w.alloc (.cells #[.int .i64 x1, .int .i64 y1, .iface ta (.agg xa), .iface tb (.agg xb)] 269)).alloc (.cells #[.iface ta (.agg xa), .iface tb (.agg xb)] 151)) := ((Below.refl _ _).alloc (Nat.le_refl _) _).alloc (by simp) _
  have BR := (Bx.new (w.alloc (.cells #[.int .i64 x1, .int .i64 y1, .iface ta (.agg xa), .iface tb (.agg xb)] 269)) #[.iface ta (.agg xa), .iface tb (.agg xb)] 151)
  have hsz : (w.alloc (.cells #[.int .i64 x1, .int .i64 y1, .iface ta (.agg xa), .iface tb (.agg xb)] 269)).heap.size = w.heap.size + 1 := by simp
  rw [hsz] at BR
  have HC := hide (madeOf_C (Q := fun b => Q b ∨ b = w.heap.size + 1) nPr (Or.inr (Or.inl rfl)) [x, y] (some ⟨w.heap.size + 1, 0, none⟩) 2 (fun i => if i = 0 then .iface ta (.agg xa) else .iface tb (.agg xb)) (by simp) (h.bel hb0) (fun b q => by rcases q with q | q; exact hQ b q; omega)
    (Or.inr ⟨w.heap.size + 1, rfl, Or.inr rfl, by simp, fun i hi => by
      have hi2 : i = 0 ∨ i = 1 := by simp at hi; omega
      rw [BR.c i]
      rcases hi2 with rfl | rfl <;> rfl⟩)
    (fun i hi => by
      have hi2 : i = 0 ∨ i = 1 := by simp at hi; omega
      rcases hi2 with rfl | rfl
      · exact (ha.bel hb0).wide fun b p => Or.inl p
      · exact (hb.bel hb0).wide fun b p => Or.inl p)
    (fun i hi => by
      have hi2 : i = 0 ∨ i = 1 := by simp at hi; omega
      rcases hi2 with rfl | rfl
      · exact hx
      · exact hy) hn)
  rw [pn_pr] at HC
  clear BR hsz ha hb
  go_enter Tryz.func59, Tryz.ntmps59
  go_wp2_with fail
  refine (unhide HC).mono ?_
  intro e w1 hp
  have hp2 := hp.up hb0
  obtain ⟨u, rfl, _⟩ := hp
  go_wp2_with fail
  go_ret
  exact hp2
set_option maxRecDepth 100000 in
set_option maxHeartbeats 1000000 in
theorem of_up (s : ByteArray) (n : Nat) (L : List Nd) (f t a : Nat) (hl : L.length ≤ 1001) (hL : ∀ i (h : i < L.length), OfC L[i]) : OfC (.mk 2 s n L f t a) := by
  intro w kb fb cb mb ns Q v h hp hQ hn
  have e : mean ns (.mk 2 s n L f t a) = (.con s (meanL ns L).1, (meanL ns L).2) := by simp [mean, conN]
  rw [e] at hn ⊢
  cases hp with
  | up s n L f t at_ x y x' y' sa sc vs hu hrow hr hx hy =>
  clear hx hy
  have h0 := taNV
  have h1 := taNA
  have h2 := taNP
  have h3 := taNN
  have hb0 : Below w.heap.size w (w.alloc (.cells #[.int .i64 x, .int .i64 y, .int .i64 x', .int .i64 y', .string s, .slice sa L.length sc] 272)) := (Below.refl _ _).alloc (Nat.le_refl _) _
  have HC := hide (madeOf_C (Q := Q) s (Or.inr (Or.inr hu)) L sa sc vs hl (h.bel hb0) hQ
    (hrow.imp id fun q => by
      obtain ⟨g, q1, q2, q3, q4⟩ := q
      exact ⟨g, q1, q2, by simp; omega, fun i hi => (World.cell?_of_block (a := ⟨g, i, none⟩) (hb0.block g q3)).trans (q4 i hi)⟩)
    (fun i hi => (hr i hi).bel hb0) hL hn)
  rw [pn_up hu] at HC
  clear hrow hr
  go_enter Tryz.func59, Tryz.ntmps59
  go_wp2_with fail
  refine (unhide HC).mono ?_
  intro e w1 hp
  have hp2 := hp.up hb0
  obtain ⟨u, rfl, _⟩ := hp
  go_wp2_with fail
  go_ret
  exact hp2
theorem of_C' (nd : Nd) (h : TyNd nd) : OfC nd := by
  induction h with
  | var s n f t a => exact of_var s n f t a
  | two k s n x y f t a hk hx hy ihx ihy =>
    rcases hk with rfl | rfl
    · exact of_fn s n x y f t a ihx ihy
    · exact of_pr s n x y f t a ihx ihy
  | up s n L f t a hw hl hL ih => exact of_up s n L f t a hl ih
end
end Go.Proofs.YtfflpeklkfjdnaaGreatDoor

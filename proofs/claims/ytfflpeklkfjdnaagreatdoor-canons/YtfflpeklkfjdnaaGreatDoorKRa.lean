import Derived.BigQuiet
import Derived.BigRegion
import Derived.Deep.LoopGhost
import Derived.Deep.QuietTactic
import Derived.Test.YtfflpeklkfjdnaaGreatDoorKPure
import Derived.Test.YtfflpeklkfjdnaaGreatDoorKWh
set_option linter.unusedSimpArgs false
set_option linter.unusedVariables false
set_option linter.unusedSectionVars false
namespace Go.Proofs.YtfflpeklkfjdnaaGreatDoor
open Go Go.RowKit

/-- A fault: its kind, from where to where. -/
structure Fl where
  kind : Nat
  frm : Nat
  to : Nat
def noFl : Fl := ⟨0, 0, 0⟩
/-- The fault of a token that may not stand where it stands. -/
def flOf (t : Pu.Tok) : Fl := if t.kind = 6 then ⟨2, t.frm, t.to⟩ else ⟨3, t.frm, t.to⟩

/-- The document's reader as it lies in memory: the tokens T, the place k, what is wrong f. -/
structure RS (w : World) (rb g cap : Nat) (T : List Pu.Tok) (k : Nat) (f : Fl) : Prop where
  c0 : w.cell? ⟨rb, 0, none⟩ = some (.slice (some ⟨g, 0, none⟩) T.length cap)
  c1 : w.cell? ⟨rb, 1, none⟩ = some (.int .i64 (k : Int))
  c2 : w.cell? ⟨rb, 2, none⟩ = some (.int .i64 (f.kind : Int))
  c3 : w.cell? ⟨rb, 3, none⟩ = some (.int .i64 (f.frm : Int))
  c4 : w.cell? ⟨rb, 4, none⟩ = some (.int .i64 (f.to : Int))
  fz : ∀ j, w.frozen? ⟨rb, j, none⟩ = false
  tk : ∀ i (h : i < T.length), w.cell? ⟨g, i * 4, none⟩ = some (.int .i64 (T[i].kind : Int)) ∧ w.cell? ⟨g, i * 4 + 1, none⟩ = some (.string T[i].text) ∧ w.cell? ⟨g, i * 4 + 2, none⟩ = some (.int .i64 (T[i].frm : Int)) ∧ w.cell? ⟨g, i * 4 + 3, none⟩ = some (.int .i64 (T[i].to : Int))
  hr : rb < w.heap.size
  hg : g < w.heap.size
  ne : g ≠ rb
  hk : k < T.length
  hT : T.length ≤ 1001
  en : ∀ i (h : i < T.length), T[i].kind ≠ 7 → i + 1 < T.length

/-- Nothing old has turned but the block rb. -/
structure Ke (rb : Nat) (w w' : World) : Prop where
  os : w'.os = w.os
  tape : w'.tape = w.tape
  output : w'.output = w.output
  size : w.heap.size ≤ w'.heap.size
  block : ∀ k, k < w.heap.size → k ≠ rb → w'.heap[k]? = w.heap[k]?
theorem Ke.refl (rb : Nat) (w : World) : Ke rb w w := ⟨rfl, rfl, rfl, Nat.le_refl _, fun _ _ _ => rfl⟩
theorem Ke.of {rb : Nat} {w w' : World} (h : Below w.heap.size w w') : Ke rb w w' := ⟨h.os, h.tape, h.output, h.size, fun k hk _ => h.block k hk⟩
theorem Ke.trans {rb : Nat} {a b c : World} (h : Ke rb a b) (k : Ke rb b c) : Ke rb a c :=
  ⟨k.os.trans h.os, k.tape.trans h.tape, k.output.trans h.output, Nat.le_trans h.size k.size, fun i hi hn => (k.block i (Nat.lt_of_lt_of_le hi h.size) hn).trans (h.block i hi hn)⟩
theorem Ke.drew {rb : Nat} {a w : World} (h : Ke rb a w) : Ke rb a w.drew := ⟨h.os, h.tape, h.output, h.size, h.block⟩
theorem Ke.alloc {rb : Nat} {a w : World} (h : Ke rb a w) (o : Obj) : Ke rb a (w.alloc o) := h.trans (Ke.of ((Below.refl _ _).alloc (Nat.le_refl _) o))
theorem Ke.set {rb : Nat} {a w : World} (h : Ke rb a w) (j : Nat) (u : Value) : Ke rb a (w.setCell ⟨rb, j, none⟩ u) :=
  h.trans ⟨rfl, rfl, rfl, by simp [World.setCell], fun k _ hn => Below.heap_setCell _ _ _ _ hn⟩
theorem Ke.cell {rb : Nat} {w w' : World} (h : Ke rb w w') {b o : Nat} (hb : b < w.heap.size) (hn : b ≠ rb) : w'.cell? ⟨b, o, none⟩ = w.cell? ⟨b, o, none⟩ := World.cell?_of_block (a := ⟨b, o, none⟩) (h.block b hb hn)

theorem RS.below {w w' : World} {rb g cap : Nat} {T : List Pu.Tok} {k : Nat} {f : Fl} (h : RS w rb g cap T k f) (hb : Below w.heap.size w w') : RS w' rb g cap T k f := by
  have hc := oldCell hb
  have hf := oldMark hb
  have hs := hb.size
  refine ⟨by rw [hc _ _ h.hr]; exact h.c0, by rw [hc _ _ h.hr]; exact h.c1, by rw [hc _ _ h.hr]; exact h.c2, by rw [hc _ _ h.hr]; exact h.c3, by rw [hc _ _ h.hr]; exact h.c4, fun j => by rw [hf _ _ h.hr]; exact h.fz j, fun i hi => ?_, Nat.lt_of_lt_of_le h.hr hs, Nat.lt_of_lt_of_le h.hg hs, h.ne, h.hk, h.hT, h.en⟩
  rw [hc _ _ h.hg, hc _ _ h.hg, hc _ _ h.hg, hc _ _ h.hg]
  exact h.tk i hi

theorem RS.setAt {w : World} {rb g cap : Nat} {T : List Pu.Tok} {k : Nat} {f : Fl} (h : RS w rb g cap T k f) (k' : Nat) (v : Int) (hv : v = (k' : Int)) (hk : k' < T.length) : RS (w.setCell ⟨rb, 1, none⟩ (.int .i64 v)) rb g cap T k' f := by
  subst hv
  have o : ∀ j, j ≠ 1 → (w.setCell ⟨rb, 1, none⟩ (.int .i64 (k' : Int))).cell? ⟨rb, j, none⟩ = w.cell? ⟨rb, j, none⟩ := fun j hj => World.cell?_setCell_other _ _ _ _ (by intro e; injection e with _ e; exact hj e.symm)
  have q : ∀ j, (w.setCell ⟨rb, 1, none⟩ (.int .i64 (k' : Int))).cell? ⟨g, j, none⟩ = w.cell? ⟨g, j, none⟩ := fun j => World.cell?_setCell_other _ _ _ _ (by intro e; injection e with e; exact h.ne e.symm)
  refine ⟨by rw [o 0 (by omega)]; exact h.c0, World.cell?_setCell_same _ _ _ h.c1, by rw [o 2 (by omega)]; exact h.c2, by rw [o 3 (by omega)]; exact h.c3, by rw [o 4 (by omega)]; exact h.c4, fun j => by simp; exact h.fz j, fun i hi => ?_, by simpa [World.setCell] using h.hr, by simpa [World.setCell] using h.hg, h.ne, hk, h.hT, h.en⟩
  rw [q, q, q, q]
  exact h.tk i hi

/-- The three cells of the fault, written. -/
theorem RS.setFl {w : World} {rb g cap : Nat} {T : List Pu.Tok} {k : Nat} {f : Fl} (h : RS w rb g cap T k f) (f' : Fl) : RS (((w.setCell ⟨rb, 2, none⟩ (.int .i64 (f'.kind : Int))).setCell ⟨rb, 3, none⟩ (.int .i64 (f'.frm : Int))).setCell ⟨rb, 4, none⟩ (.int .i64 (f'.to : Int))) rb g cap T k f' := by
  have o : ∀ (w : World) (i j : Nat) (v : Value), j ≠ i → (w.setCell ⟨rb, i, none⟩ v).cell? ⟨rb, j, none⟩ = w.cell? ⟨rb, j, none⟩ := fun w i j v hj => World.cell?_setCell_other _ _ _ _ (by intro e; injection e with _ e; exact hj e.symm)
  have q : ∀ (w : World) (i j : Nat) (v : Value), (w.setCell ⟨rb, i, none⟩ v).cell? ⟨g, j, none⟩ = w.cell? ⟨g, j, none⟩ := fun w i j v => World.cell?_setCell_other _ _ _ _ (by intro e; injection e with e; exact h.ne e.symm)
  refine ⟨?_, ?_, ?_, ?_, ?_, fun j => by simp; exact h.fz j, fun i hi => ?_, by simpa [World.setCell] using h.hr, by simpa [World.setCell] using h.hg, h.ne, h.hk, h.hT, h.en⟩
  · rw [o _ _ _ _ (by omega), o _ _ _ _ (by omega), o _ _ _ _ (by omega)]; exact h.c0
  · rw [o _ _ _ _ (by omega), o _ _ _ _ (by omega), o _ _ _ _ (by omega)]; exact h.c1
  · rw [o _ _ _ _ (by omega), o _ _ _ _ (by omega)]; exact World.cell?_setCell_same _ _ _ h.c2
  · rw [o _ _ _ _ (by omega)]; exact World.cell?_setCell_same (u := .int .i64 (f.frm : Int)) _ _ _ (by rw [o _ _ _ _ (by omega)]; exact h.c3)
  · exact World.cell?_setCell_same (u := .int .i64 (f.to : Int)) _ _ _ (by rw [o _ _ _ _ (by omega), o _ _ _ _ (by omega)]; exact h.c4)
  · simp only [q]
    exact h.tk i hi

set_option maxRecDepth 100000 in
set_option maxHeartbeats 1000000 in
theorem next_any {rb g cap : Nat} {T : List Pu.Tok} {k : Nat} {f : Fl} {w : World} (h : RS w rb g cap T k f) :
    Calls Tryz.prog 201 #[.pointer (some ⟨rb, 0, none⟩)] w fun e w' => e = .returned (tokV (T[k]'h.hk)) ∧ Below w.heap.size w w' := by
  obtain ⟨t0, t1, t2, t3⟩ := h.tk k h.hk
  have h0 := h.c0
  have h1 := h.c1
  have hrb := h.hr
  have hg := h.hg
  have hk : (k : Int) < (T.length : Int) := by have := h.hk; omega
  have H := hide h.hk
  generalize T[k]'h.hk = t at *
  clear h
  go_enter Tryz.func201, Tryz.ntmps201
  go_wp2
  go_region
  go_wp2
  refine bodyPost_ret (v := tokV t) (by simp [results, Tryz.results201, go_sem, tokV]; try rfl) rfl ⟨rfl, ?_⟩
  exact ((Below.refl _ _).alloc (Nat.le_refl _) _).drew
end Go.Proofs.YtfflpeklkfjdnaaGreatDoor
namespace Go.Proofs.YtfflpeklkfjdnaaGreatDoor
open Go Go.RowKit

theorem ok_any {rb g cap : Nat} {T : List Pu.Tok} {k : Nat} {f : Fl} {w : World} (h : RS w rb g cap T k f) :
    Calls Tryz.prog 51 #[.pointer (some ⟨rb, 0, none⟩)] w fun e w' => e = .returned (.bool (decide (f.kind = 0))) ∧ w' = w := by
  have h2 := h.c2
  clear h
  go_enter Tryz.func51, Tryz.ntmps51
  go_wp2
  go_ret
  exact ⟨retBool (by rw [Bool.eq_iff_iff]; simp <;> omega), rfl⟩

def isB (f : Fl) (t : Pu.Tok) (s : ByteArray) : Bool := f.kind == 0 && t.kind == 5 && t.text.toList == s.toList
def ofB (f : Fl) (t : Pu.Tok) (n : Nat) : Bool := f.kind == 0 && t.kind == n

set_option maxRecDepth 100000 in
set_option maxHeartbeats 1000000 in
theorem is_any {rb g cap : Nat} {T : List Pu.Tok} {k : Nat} {f : Fl} {w : World} (h : RS w rb g cap T k f) (s : ByteArray) :
    Calls Tryz.prog 53 #[.pointer (some ⟨rb, 0, none⟩), .string s] w fun e w' => e = .returned (.bool (isB f (T[k]'h.hk) s)) ∧ Below w.heap.size w w' := by
  obtain ⟨t0, t1, t2, t3⟩ := h.tk k h.hk
  have h0 := h.c0
  have h1 := h.c1
  have h2 := h.c2
  have hrb := h.hr
  have hg := h.hg
  have hk : (k : Int) < (T.length : Int) := by have := h.hk; omega
  have H := hide h.hk
  generalize T[k]'h.hk = t at *
  clear h t2 t3
  by_cases a : f.kind = 0
  · have a1 : ((f.kind : Int) == 0) = true := by rw [a]; rfl
    by_cases b : t.kind = 5
    · have b1 : ((t.kind : Int) == 5) = true := by rw [b]; rfl
      have R := hide (show isB f t s = (t.text.toList == s.toList) by simp [isB, a, b])
      clear a b
      go_enter Tryz.func53, Tryz.ntmps53
      go_wp2
      go_quiet (fail)
      go_wp2
      go_ret
      exact ⟨retBool (unhide R).symm, ⟨rfl, rfl, rfl, Nat.le_refl _, fun _ _ => rfl⟩⟩
    · have b1 : ((t.kind : Int) == 5) = false := by simp; omega
      have R := hide (show isB f t s = false by simp [isB, b])
      clear a b
      go_enter Tryz.func53, Tryz.ntmps53
      go_wp2
      go_quiet (fail)
      go_wp2
      go_ret
      exact ⟨retBool (unhide R).symm, ⟨rfl, rfl, rfl, Nat.le_refl _, fun _ _ => rfl⟩⟩
  · have a1 : ((f.kind : Int) == 0) = false := by simp; omega
    have R := hide (show isB f t s = false by simp [isB, a])
    clear a
    go_enter Tryz.func53, Tryz.ntmps53
    go_wp2
    go_quiet (fail)
    go_wp2
    go_ret
    exact ⟨retBool (unhide R).symm, ⟨rfl, rfl, rfl, Nat.le_refl _, fun _ _ => rfl⟩⟩

set_option maxRecDepth 100000 in
set_option maxHeartbeats 1000000 in
theorem of_any {rb g cap : Nat} {T : List Pu.Tok} {k : Nat} {f : Fl} {w : World} (h : RS w rb g cap T k f) (n : Nat) :
    Calls Tryz.prog 52 #[.pointer (some ⟨rb, 0, none⟩), .int .i64 (n : Int)] w fun e w' => e = .returned (.bool (ofB f (T[k]'h.hk) n)) ∧ Below w.heap.size w w' := by
  obtain ⟨t0, t1, t2, t3⟩ := h.tk k h.hk
  have h0 := h.c0
  have h1 := h.c1
  have h2 := h.c2
  have hrb := h.hr
  have hg := h.hg
  have hk : (k : Int) < (T.length : Int) := by have := h.hk; omega
  have H := hide h.hk
  generalize T[k]'h.hk = t at *
  clear h t2 t3
  by_cases a : f.kind = 0
  · have a1 : ((f.kind : Int) == 0) = true := by rw [a]; rfl
    have R := hide (show ofB f t n = ((t.kind : Int) == (n : Int)) by rw [Bool.eq_iff_iff]; simp [ofB, a]; try omega)
    clear a
    go_enter Tryz.func52, Tryz.ntmps52
    go_wp2
    go_quiet (fail)
    go_wp2
    go_ret
    exact ⟨retBool (unhide R).symm, ⟨rfl, rfl, rfl, Nat.le_refl _, fun _ _ => rfl⟩⟩
  · have a1 : ((f.kind : Int) == 0) = false := by simp; omega
    have R := hide (show ofB f t n = false by simp [ofB, a])
    clear a
    go_enter Tryz.func52, Tryz.ntmps52
    go_wp2
    go_quiet (fail)
    go_wp2
    go_ret
    exact ⟨retBool (unhide R).symm, ⟨rfl, rfl, rfl, Nat.le_refl _, fun _ _ => rfl⟩⟩
end Go.Proofs.YtfflpeklkfjdnaaGreatDoor
namespace Go.Proofs.YtfflpeklkfjdnaaGreatDoor
open Go Go.RowKit

/-- The place behind the next token. -/
def nextK (T : List Pu.Tok) (k : Nat) : Nat := if (T[k]?.map (·.kind)) = some 7 then k else k + 1

set_option maxRecDepth 100000 in
set_option maxHeartbeats 1000000 in
theorem pass_on {rb g cap : Nat} {T : List Pu.Tok} {k : Nat} {f : Fl} {w : World} (h : RS w rb g cap T k f) (hn : (T[k]'h.hk).kind ≠ 7) :
    Calls Tryz.prog 112 #[.pointer (some ⟨rb, 0, none⟩)] w fun e w' => e = .returned (tokV (T[k]'h.hk)) ∧ RS w' rb g cap T (k + 1) f ∧ Ke rb w w' := by
  obtain ⟨t0, t1, t2, t3⟩ := h.tk k h.hk
  have h0 := h.c0
  have h1 := h.c1
  have hrb := h.hr
  have hg := h.hg
  have hk : (k : Int) < (T.length : Int) := by have := h.hk; omega
  have hk1 : (k : Int) ≤ 1001 := by have := h.hk; have := h.hT; omega
  have hz := h.fz 1
  have hL := h.en k h.hk hn
  have HR := hide h
  generalize T[k]'h.hk = t at *
  clear h
  have n7 : ((t.kind : Int) != 7) = true := by simp; omega
  go_enter Tryz.func112, Tryz.ntmps112
  go_wp2
  go_region
  go_wp2
  refine bodyPost_ret (v := tokV t) (by simp [results, Tryz.results112, go_sem, tokV]; try rfl) rfl ⟨rfl, ?_, ?_⟩
  · exact ((unhide HR).setAt (k + 1) _ (by simp) hL).below (((Below.refl _ _).alloc (Nat.le_refl _) _).alloc (by simp) _).drew
  · exact ((((Ke.refl rb w).set 1 _).alloc _).alloc _).drew

theorem RS.setKind {w : World} {rb g cap : Nat} {T : List Pu.Tok} {k : Nat} {f : Fl} (h : RS w rb g cap T k f) (n : Nat) : RS (w.setCell ⟨rb, 2, none⟩ (.int .i64 (n : Int))) rb g cap T k ⟨n, f.frm, f.to⟩ := by
  have o : ∀ j, j ≠ 2 → (w.setCell ⟨rb, 2, none⟩ (.int .i64 (n : Int))).cell? ⟨rb, j, none⟩ = w.cell? ⟨rb, j, none⟩ := fun j hj => World.cell?_setCell_other _ _ _ _ (by intro e; injection e with _ e; exact hj e.symm)
  have q : ∀ j, (w.setCell ⟨rb, 2, none⟩ (.int .i64 (n : Int))).cell? ⟨g, j, none⟩ = w.cell? ⟨g, j, none⟩ := fun j => World.cell?_setCell_other _ _ _ _ (by intro e; injection e with e; exact h.ne e.symm)
  refine ⟨by rw [o 0 (by omega)]; exact h.c0, by rw [o 1 (by omega)]; exact h.c1, World.cell?_setCell_same _ _ _ h.c2, by rw [o 3 (by omega)]; exact h.c3, by rw [o 4 (by omega)]; exact h.c4, fun j => by simp; exact h.fz j, fun i hi => ?_, by simpa [World.setCell] using h.hr, by simpa [World.setCell] using h.hg, h.ne, h.hk, h.hT, h.en⟩
  rw [q, q, q, q]
  exact h.tk i hi

set_option maxRecDepth 100000 in
set_option maxHeartbeats 1000000 in
theorem wrong_set {rb g cap : Nat} {T : List Pu.Tok} {k : Nat} {f : Fl} {w : World} (h : RS w rb g cap T k f) (hf : f.kind ≠ 0) :
    Calls Tryz.prog 113 #[.pointer (some ⟨rb, 0, none⟩)] w fun e w' => e = .returned (.tuple #[]) ∧ w' = w := by
  have h2 := h.c2
  clear h
  have a1 : ((f.kind : Int) != 0) = true := by simp; omega
  go_enter Tryz.func113, Tryz.ntmps113
  go_wp2
  exact bodyPost_ret (v := .tuple #[]) (by simp [results, Tryz.results113, go_sem]) rfl ⟨rfl, rfl⟩

set_option maxRecDepth 100000 in
set_option maxHeartbeats 1000000 in
theorem wrong_new {rb g cap : Nat} {T : List Pu.Tok} {k : Nat} {f : Fl} {w : World} (h : RS w rb g cap T k f) (hf : f.kind = 0) :
    Calls Tryz.prog 113 #[.pointer (some ⟨rb, 0, none⟩)] w fun e w' => e = .returned (.tuple #[]) ∧ RS w' rb g cap T k (flOf (T[k]'h.hk)) ∧ Ke rb w w' := by
  obtain ⟨t0, t1, t2, t3⟩ := h.tk k h.hk
  have h0 := h.c0
  have h1 := h.c1
  have h2 := h.c2
  have h3 := h.c3
  have h4 := h.c4
  have hrb := h.hr
  have hg := h.hg
  have hk : (k : Int) < (T.length : Int) := by have := h.hk; omega
  have z2 := h.fz 2
  have z3 := h.fz 3
  have z4 := h.fz 4
  have HR := hide h
  generalize T[k]'h.hk = t at *
  clear h
  have a1 : ((f.kind : Int) != 0) = false := by simp; omega
  clear hf
  by_cases b : t.kind = 6
  · have b1 : ((t.kind : Int) == 6) = true := by rw [b]; rfl
    have F := hide (show flOf t = ⟨2, t.frm, t.to⟩ by simp [flOf, b])
    clear b
    go_enter Tryz.func113, Tryz.ntmps113
    go_wp2
    go_region
    go_wp2
    go_end0
    refine ⟨rfl, ?_, ?_⟩
    · rw [unhide F]
      exact (((unhide HR).setFl ⟨3, t.frm, t.to⟩).setKind 2).below ((Below.refl _ _).alloc (Nat.le_refl _) _).drew
    · exact ((((((Ke.refl rb w).set 2 _).set 3 _).set 4 _).set 2 _).alloc _).drew
  · have b1 : ((t.kind : Int) == 6) = false := by simp; omega
    have F := hide (show flOf t = ⟨3, t.frm, t.to⟩ by simp [flOf, b])
    clear b
    go_enter Tryz.func113, Tryz.ntmps113
    go_wp2
    go_region
    go_wp2
    go_end0
    refine ⟨rfl, ?_, ?_⟩
    · rw [unhide F]
      exact ((unhide HR).setFl ⟨3, t.frm, t.to⟩).below ((Below.refl _ _).alloc (Nat.le_refl _) _).drew
    · exact (((((Ke.refl rb w).set 2 _).set 3 _).set 4 _).alloc _).drew

end Go.Proofs.YtfflpeklkfjdnaaGreatDoor
namespace Go.Proofs.YtfflpeklkfjdnaaGreatDoor
open Go Go.RowKit

/-- The token at a place. -/
def tk (T : List Pu.Tok) (k : Nat) : Pu.Tok := T.getD k ⟨7, ⟨#[]⟩, 0, 0⟩
theorem tk_eq {T : List Pu.Tok} {k : Nat} (h : k < T.length) : T[k]'h = tk T k := by
  unfold tk; rw [List.getD_eq_getElem?_getD, List.getElem?_eq_getElem h]; rfl
def isT (t : Pu.Tok) (s : ByteArray) : Bool := t.kind == 5 && t.text.toList == s.toList
/-- A place, or what is wrong. -/
abbrev St := Except Fl Nat
/-- What reads from a place on: what it is and the place behind it, or what is wrong. -/
abbrev M (α : Type) := Nat → Except Fl (α × Nat)
def nx {α : Type} (σ : St) (m : M α) : St := match σ with
  | .error e => .error e
  | .ok k => match m k with
    | .error e => .error e
    | .ok (_, k') => .ok k'
def isS (T : List Pu.Tok) (σ : St) (s : ByteArray) : Bool := match σ with
  | .ok k => isT (tk T k) s
  | .error _ => false
def ofS (T : List Pu.Tok) (σ : St) (n : Nat) : Bool := match σ with
  | .ok k => (tk T k).kind == n
  | .error _ => false
def okS (σ : St) : Bool := match σ with
  | .ok _ => true
  | .error _ => false
def wrongM {α : Type} (T : List Pu.Tok) : M α := fun k => .error (flOf (tk T k))
def wantM (T : List Pu.Tok) (s : ByteArray) : M Unit := fun k => if isT (tk T k) s = true then .ok ((), k + 1) else .error (flOf (tk T k))
def nameM (T : List Pu.Tok) (n : Nat) : M Pu.Tok := fun k => if (tk T k).kind == n then .ok (tk T k, k + 1) else .error (flOf (tk T k))
def lastK (T : List Pu.Tok) (k : Nat) : Nat := if k = 0 then 0 else (tk T (k - 1)).to
theorem flOf_kind (t : Pu.Tok) : (flOf t).kind ≠ 0 := by unfold flOf; split <;> simp

/-- The reader in memory at a state. -/
def SS (w : World) (rb g cap : Nat) (T : List Pu.Tok) (σ : St) : Prop := match σ with
  | .ok k => RS w rb g cap T k noFl
  | .error f => f.kind ≠ 0 ∧ ∃ k, RS w rb g cap T k f
theorem SS.any {w : World} {rb g cap : Nat} {T : List Pu.Tok} {σ : St} (h : SS w rb g cap T σ) : ∃ k f, RS w rb g cap T k f ∧ (σ = .ok k ∧ f = noFl ∨ (σ = .error f ∧ f.kind ≠ 0)) := by
  cases σ with
  | ok k => exact ⟨k, noFl, h, Or.inl ⟨rfl, rfl⟩⟩
  | error f => obtain ⟨hf, k, h⟩ := h; exact ⟨k, f, h, Or.inr ⟨rfl, hf⟩⟩
theorem SS.below {w w' : World} {rb g cap : Nat} {T : List Pu.Tok} {σ : St} (h : SS w rb g cap T σ) (hb : Below w.heap.size w w') : SS w' rb g cap T σ := by
  cases σ with
  | ok k => exact RS.below h hb
  | error f => obtain ⟨hf, k, h⟩ := h; exact ⟨hf, k, h.below hb⟩
theorem SS.hr {w : World} {rb g cap : Nat} {T : List Pu.Tok} {σ : St} (h : SS w rb g cap T σ) : rb < w.heap.size := by
  obtain ⟨k, f, h, _⟩ := h.any; exact h.hr

section
variable {rb g cap : Nat} {T : List Pu.Tok} {σ : St} {w : World}

theorem next_S (h : SS w rb g cap T σ) :
    Calls Tryz.prog 201 #[.pointer (some ⟨rb, 0, none⟩)] w fun e w' => ∃ t, e = .returned (tokV t) ∧ Below w.heap.size w w' ∧ (∀ k, σ = .ok k → t = tk T k) := by
  obtain ⟨k, f, h, hs⟩ := h.any
  refine (next_any h).mono ?_
  rintro e w' ⟨rfl, hb⟩
  refine ⟨_, rfl, hb, fun j hj => ?_⟩
  rcases hs with ⟨rfl, _⟩ | ⟨rfl, _⟩
  · cases hj; exact tk_eq _
  · cases hj
theorem ok_S (h : SS w rb g cap T σ) :
    Calls Tryz.prog 51 #[.pointer (some ⟨rb, 0, none⟩)] w fun e w' => e = .returned (.bool (okS σ)) ∧ w' = w := by
  obtain ⟨k, f, h, hs⟩ := h.any
  refine (ok_any h).mono ?_
  rintro e w' ⟨rfl, rfl⟩
  refine ⟨?_, rfl⟩
  rcases hs with ⟨rfl, rfl⟩ | ⟨rfl, hf⟩
  · rfl
  · simp [hf, okS]
theorem is_S (h : SS w rb g cap T σ) (s : ByteArray) :
    Calls Tryz.prog 53 #[.pointer (some ⟨rb, 0, none⟩), .string s] w fun e w' => e = .returned (.bool (isS T σ s)) ∧ Below w.heap.size w w' := by
  obtain ⟨k, f, h, hs⟩ := h.any
  refine (is_any h s).mono ?_
  rintro e w' ⟨rfl, hb⟩
  refine ⟨retBool ?_, hb⟩
  rcases hs with ⟨rfl, rfl⟩ | ⟨rfl, hf⟩
  · simp [isB, isS, isT, noFl, tk_eq]
  · simp [isB, isS, hf]
theorem of_S (h : SS w rb g cap T σ) (n : Nat) :
    Calls Tryz.prog 52 #[.pointer (some ⟨rb, 0, none⟩), .int .i64 (n : Int)] w fun e w' => e = .returned (.bool (ofS T σ n)) ∧ Below w.heap.size w w' := by
  obtain ⟨k, f, h, hs⟩ := h.any
  refine (of_any h n).mono ?_
  rintro e w' ⟨rfl, hb⟩
  refine ⟨retBool ?_, hb⟩
  rcases hs with ⟨rfl, rfl⟩ | ⟨rfl, hf⟩
  · simp [ofB, ofS, noFl, tk_eq]
  · simp [ofB, ofS, hf]
theorem wrong_S {α : Type} (h : SS w rb g cap T σ) :
    Calls Tryz.prog 113 #[.pointer (some ⟨rb, 0, none⟩)] w fun e w' => e = .returned (.tuple #[]) ∧ Ke rb w w' ∧ SS w' rb g cap T (nx σ (wrongM (α := α) T)) := by
  obtain ⟨k, f, hR, hs⟩ := h.any
  rcases hs with ⟨rfl, rfl⟩ | ⟨rfl, hf⟩
  · refine (wrong_new hR rfl).mono ?_
    rintro e w' ⟨rfl, h1, h2⟩
    exact ⟨rfl, h2, by show SS w' rb g cap T (.error (flOf (tk T k))); rw [tk_eq] at h1; exact ⟨flOf_kind _, k, h1⟩⟩
  · refine (wrong_set hR hf).mono ?_
    rintro e w' ⟨rfl, rfl⟩
    exact ⟨rfl, Ke.refl _ _, ⟨hf, k, hR⟩⟩
theorem pass_S {k : Nat} (h : SS w rb g cap T (.ok k)) (hn : (tk T k).kind ≠ 7) :
    Calls Tryz.prog 112 #[.pointer (some ⟨rb, 0, none⟩)] w fun e w' => e = .returned (tokV (tk T k)) ∧ Ke rb w w' ∧ SS w' rb g cap T (.ok (k + 1)) := by
  have h' : RS w rb g cap T k noFl := h
  refine (pass_on h' (by rw [tk_eq]; exact hn)).mono ?_
  rintro e w' ⟨rfl, h1, h2⟩
  exact ⟨by rw [tk_eq], h2, h1⟩
end
end Go.Proofs.YtfflpeklkfjdnaaGreatDoor
namespace Go.Proofs.YtfflpeklkfjdnaaGreatDoor
open Go Go.RowKit

/-- A block of the caller's own, with these cells. -/
structure Bx (w : World) (b : Nat) (C : Array Value) : Prop where
  c : ∀ o, w.cell? ⟨b, o, none⟩ = C[o]?
  f : ∀ o, w.frozen? ⟨b, o, none⟩ = false
  z : b < w.heap.size
theorem Bx.new (w : World) (C : Array Value) (t : TypeId) : Bx (w.alloc (.cells C t)) w.heap.size C := ⟨fun o => by simp, fun o => by simp, by simp⟩
theorem Bx.same {w w' : World} {b : Nat} {C : Array Value} (h : Bx w b C) (hs : w.heap.size ≤ w'.heap.size) (hb : w'.heap[b]? = w.heap[b]?) : Bx w' b C :=
  ⟨fun o => by rw [World.cell?_of_block (a := ⟨b, o, none⟩) (w := w) hb]; exact h.c o, fun o => by rw [World.frozen?_of_block (a := ⟨b, o, none⟩) (w := w) hb]; exact h.f o, Nat.lt_of_lt_of_le h.z hs⟩
theorem Bx.below {w w' : World} {b : Nat} {C : Array Value} (h : Bx w b C) (hb : Below w.heap.size w w') : Bx w' b C := h.same hb.size (hb.block b h.z)
theorem Bx.ke {rb : Nat} {w w' : World} {b : Nat} {C : Array Value} (h : Bx w b C) (hb : Ke rb w w') (hn : b ≠ rb) : Bx w' b C := h.same hb.size (hb.block b h.z hn)
theorem Bx.alloc {w : World} {b : Nat} {C : Array Value} (h : Bx w b C) (o : Obj) : Bx (w.alloc o) b C := h.below ((Below.refl _ _).alloc (Nat.le_refl _) o)

theorem Ke.setNew {rb : Nat} {a w : World} (h : Ke rb a w) {b : Nat} (hb : a.heap.size ≤ b) (j : Nat) (u : Value) : Ke rb a (w.setCell ⟨b, j, none⟩ u) :=
  ⟨h.os, h.tape, h.output, by simpa [World.setCell] using h.size, fun k hk hn => by rw [Below.heap_setCell _ _ _ _ (by show k ≠ b; omega)]; exact h.block k hk hn⟩
theorem RS.same {w w' : World} {rb g cap : Nat} {T : List Pu.Tok} {k : Nat} {f : Fl} (h : RS w rb g cap T k f) (hs : w.heap.size ≤ w'.heap.size) (h1 : w'.heap[rb]? = w.heap[rb]?) (h2 : w'.heap[g]? = w.heap[g]?) : RS w' rb g cap T k f := by
  have hc : ∀ o, w'.cell? ⟨rb, o, none⟩ = w.cell? ⟨rb, o, none⟩ := fun o => World.cell?_of_block (a := ⟨rb, o, none⟩) (w := w) h1
  have hf : ∀ o, w'.frozen? ⟨rb, o, none⟩ = w.frozen? ⟨rb, o, none⟩ := fun o => World.frozen?_of_block (a := ⟨rb, o, none⟩) (w := w) h1
  have hd : ∀ o, w'.cell? ⟨g, o, none⟩ = w.cell? ⟨g, o, none⟩ := fun o => World.cell?_of_block (a := ⟨g, o, none⟩) (w := w) h2
  refine ⟨by rw [hc]; exact h.c0, by rw [hc]; exact h.c1, by rw [hc]; exact h.c2, by rw [hc]; exact h.c3, by rw [hc]; exact h.c4, fun j => by rw [hf]; exact h.fz j, fun i hi => ?_, Nat.lt_of_lt_of_le h.hr hs, Nat.lt_of_lt_of_le h.hg hs, h.ne, h.hk, h.hT, h.en⟩
  rw [hd, hd, hd, hd]
  exact h.tk i hi
theorem SS.same {w w' : World} {rb g cap : Nat} {T : List Pu.Tok} {σ : St} (h : SS w rb g cap T σ) (hs : w.heap.size ≤ w'.heap.size) (h1 : w'.heap[rb]? = w.heap[rb]?) (h2 : w'.heap[g]? = w.heap[g]?) : SS w' rb g cap T σ := by
  cases σ with
  | ok k => exact RS.same h hs h1 h2
  | error f => obtain ⟨hf, k, h⟩ := h; exact ⟨hf, k, h.same hs h1 h2⟩
theorem SS.hg {w : World} {rb g cap : Nat} {T : List Pu.Tok} {σ : St} (h : SS w rb g cap T σ) : g < w.heap.size := by
  obtain ⟨k, f, h, _⟩ := h.any; exact h.hg
theorem SS.set {w : World} {rb g cap : Nat} {T : List Pu.Tok} {σ : St} (h : SS w rb g cap T σ) {b : Nat} (h1 : rb ≠ b) (h2 : g ≠ b) (j : Nat) (u : Value) : SS (w.setCell ⟨b, j, none⟩ u) rb g cap T σ :=
  h.same (by simp [World.setCell]) (Below.heap_setCell _ _ _ _ h1) (Below.heap_setCell _ _ _ _ h2)
theorem SS.alloc {w : World} {rb g cap : Nat} {T : List Pu.Tok} {σ : St} (h : SS w rb g cap T σ) (o : Obj) : SS (w.alloc o) rb g cap T σ := h.below ((Below.refl _ _).alloc (Nat.le_refl _) o)
theorem SS.drew {w : World} {rb g cap : Nat} {T : List Pu.Tok} {σ : St} (h : SS w rb g cap T σ) : SS w.drew rb g cap T σ := h.below (Below.refl _ _).drew
end Go.Proofs.YtfflpeklkfjdnaaGreatDoor
namespace Go.Proofs.YtfflpeklkfjdnaaGreatDoor
open Go Go.RowKit
/-- What the project's reader calls each kind of token. -/
def kindB (t : Pu.Tok) : ByteArray :=
  if t.kind = 1 then ⟨#[108, 111, 119, 32, 110, 97, 109, 101]⟩ else if t.kind = 2 then ⟨#[117, 112, 32, 110, 97, 109, 101]⟩ else if t.kind = 3 then ⟨#[97, 32, 118, 97, 114, 105, 97, 98, 108, 101]⟩
  else if t.kind = 4 then ⟨#[97, 32, 110, 117, 109, 98, 101, 114]⟩ else if t.kind = 7 then ⟨#[116, 104, 101, 32, 101, 110, 100]⟩ else t.text
def ptokV (t : Pu.Tok) : Value := .agg #[.int .i64 (t.frm : Int), .int .i64 (t.to : Int), .string (kindB t), .string t.text]
theorem idx13_0 (a0 a1 a2 a3 a4 a5 a6 a7 a8 a9 a10 a11 a12 : ByteArray) (w : World) : (Instr.index 518 (.agg #[.string a0, .string a1, .string a2, .string a3, .string a4, .string a5, .string a6, .string a7, .string a8, .string a9, .string a10, .string a11, .string a12]) (.int .i64 0)).run Tryz.prog w = .ok (.string a0) w := by kernel_rfl
theorem idx13_1 (a0 a1 a2 a3 a4 a5 a6 a7 a8 a9 a10 a11 a12 : ByteArray) (w : World) : (Instr.index 518 (.agg #[.string a0, .string a1, .string a2, .string a3, .string a4, .string a5, .string a6, .string a7, .string a8, .string a9, .string a10, .string a11, .string a12]) (.int .i64 1)).run Tryz.prog w = .ok (.string a1) w := by kernel_rfl
theorem idx13_2 (a0 a1 a2 a3 a4 a5 a6 a7 a8 a9 a10 a11 a12 : ByteArray) (w : World) : (Instr.index 518 (.agg #[.string a0, .string a1, .string a2, .string a3, .string a4, .string a5, .string a6, .string a7, .string a8, .string a9, .string a10, .string a11, .string a12]) (.int .i64 2)).run Tryz.prog w = .ok (.string a2) w := by kernel_rfl
theorem idx13_3 (a0 a1 a2 a3 a4 a5 a6 a7 a8 a9 a10 a11 a12 : ByteArray) (w : World) : (Instr.index 518 (.agg #[.string a0, .string a1, .string a2, .string a3, .string a4, .string a5, .string a6, .string a7, .string a8, .string a9, .string a10, .string a11, .string a12]) (.int .i64 3)).run Tryz.prog w = .ok (.string a3) w := by kernel_rfl
theorem idx13_4 (a0 a1 a2 a3 a4 a5 a6 a7 a8 a9 a10 a11 a12 : ByteArray) (w : World) : (Instr.index 518 (.agg #[.string a0, .string a1, .string a2, .string a3, .string a4, .string a5, .string a6, .string a7, .string a8, .string a9, .string a10, .string a11, .string a12]) (.int .i64 4)).run Tryz.prog w = .ok (.string a4) w := by kernel_rfl
theorem idx13_5 (a0 a1 a2 a3 a4 a5 a6 a7 a8 a9 a10 a11 a12 : ByteArray) (w : World) : (Instr.index 518 (.agg #[.string a0, .string a1, .string a2, .string a3, .string a4, .string a5, .string a6, .string a7, .string a8, .string a9, .string a10, .string a11, .string a12]) (.int .i64 5)).run Tryz.prog w = .ok (.string a5) w := by kernel_rfl
theorem idx13_6 (a0 a1 a2 a3 a4 a5 a6 a7 a8 a9 a10 a11 a12 : ByteArray) (w : World) : (Instr.index 518 (.agg #[.string a0, .string a1, .string a2, .string a3, .string a4, .string a5, .string a6, .string a7, .string a8, .string a9, .string a10, .string a11, .string a12]) (.int .i64 6)).run Tryz.prog w = .ok (.string a6) w := by kernel_rfl
theorem idx13_7 (a0 a1 a2 a3 a4 a5 a6 a7 a8 a9 a10 a11 a12 : ByteArray) (w : World) : (Instr.index 518 (.agg #[.string a0, .string a1, .string a2, .string a3, .string a4, .string a5, .string a6, .string a7, .string a8, .string a9, .string a10, .string a11, .string a12]) (.int .i64 7)).run Tryz.prog w = .ok (.string a7) w := by kernel_rfl
theorem idx13_8 (a0 a1 a2 a3 a4 a5 a6 a7 a8 a9 a10 a11 a12 : ByteArray) (w : World) : (Instr.index 518 (.agg #[.string a0, .string a1, .string a2, .string a3, .string a4, .string a5, .string a6, .string a7, .string a8, .string a9, .string a10, .string a11, .string a12]) (.int .i64 8)).run Tryz.prog w = .ok (.string a8) w := by kernel_rfl
theorem idx13_9 (a0 a1 a2 a3 a4 a5 a6 a7 a8 a9 a10 a11 a12 : ByteArray) (w : World) : (Instr.index 518 (.agg #[.string a0, .string a1, .string a2, .string a3, .string a4, .string a5, .string a6, .string a7, .string a8, .string a9, .string a10, .string a11, .string a12]) (.int .i64 9)).run Tryz.prog w = .ok (.string a9) w := by kernel_rfl
theorem idx13_10 (a0 a1 a2 a3 a4 a5 a6 a7 a8 a9 a10 a11 a12 : ByteArray) (w : World) : (Instr.index 518 (.agg #[.string a0, .string a1, .string a2, .string a3, .string a4, .string a5, .string a6, .string a7, .string a8, .string a9, .string a10, .string a11, .string a12]) (.int .i64 10)).run Tryz.prog w = .ok (.string a10) w := by kernel_rfl
theorem idx13_11 (a0 a1 a2 a3 a4 a5 a6 a7 a8 a9 a10 a11 a12 : ByteArray) (w : World) : (Instr.index 518 (.agg #[.string a0, .string a1, .string a2, .string a3, .string a4, .string a5, .string a6, .string a7, .string a8, .string a9, .string a10, .string a11, .string a12]) (.int .i64 11)).run Tryz.prog w = .ok (.string a11) w := by kernel_rfl
theorem idx13_12 (a0 a1 a2 a3 a4 a5 a6 a7 a8 a9 a10 a11 a12 : ByteArray) (w : World) : (Instr.index 518 (.agg #[.string a0, .string a1, .string a2, .string a3, .string a4, .string a5, .string a6, .string a7, .string a8, .string a9, .string a10, .string a11, .string a12]) (.int .i64 12)).run Tryz.prog w = .ok (.string a12) w := by kernel_rfl
theorem beq_comm' {a b : List UInt8} : (a == b) = (b == a) := by
  rw [Bool.eq_iff_iff, beq_iff_eq, beq_iff_eq]
  exact ⟨Eq.symm, Eq.symm⟩
theorem Bx.setS' {w : World} {b : Nat} {C : Array Value} (h : Bx w b C) (j : Nat) (v : Value) (C' : Array Value) (hC : C' = C.setIfInBounds j v) (hj : j < C.size) : Bx (w.setCell ⟨b, j, none⟩ v) b C' := by
  subst hC
  refine ⟨fun o => ?_, fun o => by simp; exact h.f o, by simpa [World.setCell] using h.z⟩
  by_cases e : o = j
  · subst e
    rw [World.cell?_setCell_same _ _ _ ((h.c o).trans (Array.getElem?_eq_getElem hj))]
    simp [hj]
  · rw [World.cell?_setCell_other _ _ _ _ (by intro q; injection q with _ q; exact e q.symm), h.c o, Array.getElem?_setIfInBounds_ne (by omega)]
def signs : List ByteArray := [⟨#[45, 62]⟩, ⟨#[40]⟩, ⟨#[41]⟩, ⟨#[44]⟩, ⟨#[59]⟩, ⟨#[58]⟩, ⟨#[61]⟩, ⟨#[124]⟩, ⟨#[43]⟩, ⟨#[45]⟩, ⟨#[42]⟩, ⟨#[60]⟩, ⟨#[95]⟩]
def signAt (k : Nat) : ByteArray := signs.getD k ⟨#[]⟩
theorem oldCell' {w u : World} (h : Below w.heap.size w u) (b o : Nat) (hb : b < w.heap.size) : u.cell? ⟨b, o, none⟩ = w.cell? ⟨b, o, none⟩ := World.cell?_of_block (a := ⟨b, o, none⟩) (h.block b hb)
section
variable {w : World}
set_option maxRecDepth 100000 in
set_option maxHeartbeats 400000 in
theorem cut_C (s : ByteArray) (i j : Nat) (k : ByteArray) (hij : i ≤ j) (hj : j ≤ s.size) (hs : s.size ≤ 1000) :
    Calls Tryz.prog 286 #[.string s, .int .i64 (i : Int), .int .i64 (j : Int), .string k] w fun e w' => e = .returned (.agg #[.int .i64 (i : Int), .int .i64 (j : Int), .string k, .string (s.extract i j)]) ∧ Below w.heap.size w w' := by
  have h1 : (i : Int) ≤ (j : Int) := by omega
  have h2 : (j : Int) ≤ (s.size : Int) := by omega
  go_enter Tryz.func286, Tryz.ntmps286
  go_wp2_with fail
  exact bodyPost_ret (v := .agg #[.int .i64 (i : Int), .int .i64 (j : Int), .string k, .string (s.extract i j)]) (by simp [results, Tryz.results286, go_sem]) rfl ⟨rfl, (Below.refl _ _).alloc (Nat.le_refl _) _⟩
set_option maxRecDepth 100000 in
set_option maxHeartbeats 400000 in
theorem noToken_C (i j : Int) : Calls Tryz.prog 345 #[.int .i64 i, .int .i64 j] w fun e w' => e = .returned (.agg #[.int .i64 2, .int .i64 i, .int .i64 j]) ∧ Below w.heap.size w w' := by
  go_enter Tryz.func345, Tryz.ntmps345
  go_wp2_with fail
  exact bodyPost_ret (v := .agg #[.int .i64 2, .int .i64 i, .int .i64 j]) (by simp [results, Tryz.results345, go_sem]) rfl ⟨rfl, (Below.refl _ _).alloc (Nat.le_refl _) _⟩
/-- The project's two tables lie as they were laid: the signs in the first block, the words in the second. -/
structure Laid (w : World) : Prop where
  words : ∀ j, j < 13 → w.cell? ⟨1, j, none⟩ = some (.string (Pu.wordAt j))
  signs : ∀ j, j < 13 → w.cell? ⟨0, j, none⟩ = some (.string (signAt j))
  hz : 2 ≤ w.heap.size
theorem Laid.bel {w w' : World} (h : Laid w) (hb : Below w.heap.size w w') : Laid w' :=
  ⟨fun j hj => (oldCell' hb 1 j (by have := h.hz; omega)).trans (h.words j hj), fun j hj => (oldCell' hb 0 j (by have := h.hz; omega)).trans (h.signs j hj), Nat.le_trans h.hz hb.size⟩
set_option maxRecDepth 100000 in
set_option maxHeartbeats 1000000 in
theorem isWord_C (h : Laid w) (s : ByteArray) : Calls Tryz.prog 344 #[.string s] w fun e w' => e = .returned (.bool (Pu.wordB s)) ∧ w' = w := by
  have g0 := h.words 0 (by omega)
  have g1 := h.words 1 (by omega)
  have g2 := h.words 2 (by omega)
  have g3 := h.words 3 (by omega)
  have g4 := h.words 4 (by omega)
  have g5 := h.words 5 (by omega)
  have g6 := h.words 6 (by omega)
  have g7 := h.words 7 (by omega)
  have g8 := h.words 8 (by omega)
  have g9 := h.words 9 (by omega)
  have g10 := h.words 10 (by omega)
  have g11 := h.words 11 (by omega)
  have g12 := h.words 12 (by omega)
  clear h
  go_enter Tryz.func344, Tryz.ntmps344
  go_wp2_with fail
  go_loop [6] (fun v => ∃ j : Nat, j ≤ 13 ∧ v = .int .i64 (j : Int) ∧ Hid (∀ i, i < j → (s.toList == (Pu.wordAt i).toList) = false)) (fun v => 13 - (intOf v).toNat)
  case atStart => exact ⟨0, by omega, rfl, fun i h => by omega⟩
  case round =>
    obtain ⟨j, hj, rfl, hno⟩ := hrel
    by_cases hlt : j < 13
    · have hcase : j = 0 ∨ j = 1 ∨ j = 2 ∨ j = 3 ∨ j = 4 ∨ j = 5 ∨ j = 6 ∨ j = 7 ∨ j = 8 ∨ j = 9 ∨ j = 10 ∨ j = 11 ∨ j = 12 := by omega
      rcases hcase with rfl | rfl | rfl | rfl | rfl | rfl | rfl | rfl | rfl | rfl | rfl | rfl | rfl
      · have hix := idx13_0 (Pu.wordAt 0) (Pu.wordAt 1) (Pu.wordAt 2) (Pu.wordAt 3) (Pu.wordAt 4) (Pu.wordAt 5) (Pu.wordAt 6) (Pu.wordAt 7) (Pu.wordAt 8) (Pu.wordAt 9) (Pu.wordAt 10) (Pu.wordAt 11) (Pu.wordAt 12)
        cases he : (s.toList == (Pu.wordAt 0).toList) with
        | true =>
          have hb : Hid (Pu.wordB s = true) := Pu.wordB_at (k := 0) (by omega) (by rw [beq_comm']; exact he)
          go_wp2_with fail
          go_ret
          exact ⟨retBool (unhide hb).symm, rfl⟩
        | false =>
          have hn2 : Hid (∀ i, i < 1 → (s.toList == (Pu.wordAt i).toList) = false) := fun i hi => by
            by_cases e : i = 0
            · subst e; exact he
            · exact unhide hno i (by omega)
          go_wp2_with fail
          go_round
          case rel => exact ⟨1, by omega, by go_num, hn2⟩
          case measure => simp [intOf]
      · have hix := idx13_1 (Pu.wordAt 0) (Pu.wordAt 1) (Pu.wordAt 2) (Pu.wordAt 3) (Pu.wordAt 4) (Pu.wordAt 5) (Pu.wordAt 6) (Pu.wordAt 7) (Pu.wordAt 8) (Pu.wordAt 9) (Pu.wordAt 10) (Pu.wordAt 11) (Pu.wordAt 12)
        cases he : (s.toList == (Pu.wordAt 1).toList) with
        | true =>
          have hb : Hid (Pu.wordB s = true) := Pu.wordB_at (k := 1) (by omega) (by rw [beq_comm']; exact he)
          go_wp2_with fail
          go_ret
          exact ⟨retBool (unhide hb).symm, rfl⟩
        | false =>
          have hn2 : Hid (∀ i, i < 2 → (s.toList == (Pu.wordAt i).toList) = false) := fun i hi => by
            by_cases e : i = 1
            · subst e; exact he
            · exact unhide hno i (by omega)
          go_wp2_with fail
          go_round
          case rel => exact ⟨2, by omega, by go_num, hn2⟩
          case measure => simp [intOf]
      · have hix := idx13_2 (Pu.wordAt 0) (Pu.wordAt 1) (Pu.wordAt 2) (Pu.wordAt 3) (Pu.wordAt 4) (Pu.wordAt 5) (Pu.wordAt 6) (Pu.wordAt 7) (Pu.wordAt 8) (Pu.wordAt 9) (Pu.wordAt 10) (Pu.wordAt 11) (Pu.wordAt 12)
        cases he : (s.toList == (Pu.wordAt 2).toList) with
        | true =>
          have hb : Hid (Pu.wordB s = true) := Pu.wordB_at (k := 2) (by omega) (by rw [beq_comm']; exact he)
          go_wp2_with fail
          go_ret
          exact ⟨retBool (unhide hb).symm, rfl⟩
        | false =>
          have hn2 : Hid (∀ i, i < 3 → (s.toList == (Pu.wordAt i).toList) = false) := fun i hi => by
            by_cases e : i = 2
            · subst e; exact he
            · exact unhide hno i (by omega)
          go_wp2_with fail
          go_round
          case rel => exact ⟨3, by omega, by go_num, hn2⟩
          case measure => simp [intOf]
      · have hix := idx13_3 (Pu.wordAt 0) (Pu.wordAt 1) (Pu.wordAt 2) (Pu.wordAt 3) (Pu.wordAt 4) (Pu.wordAt 5) (Pu.wordAt 6) (Pu.wordAt 7) (Pu.wordAt 8) (Pu.wordAt 9) (Pu.wordAt 10) (Pu.wordAt 11) (Pu.wordAt 12)
        cases he : (s.toList == (Pu.wordAt 3).toList) with
        | true =>
          have hb : Hid (Pu.wordB s = true) := Pu.wordB_at (k := 3) (by omega) (by rw [beq_comm']; exact he)
          go_wp2_with fail
          go_ret
          exact ⟨retBool (unhide hb).symm, rfl⟩
        | false =>
          have hn2 : Hid (∀ i, i < 4 → (s.toList == (Pu.wordAt i).toList) = false) := fun i hi => by
            by_cases e : i = 3
            · subst e; exact he
            · exact unhide hno i (by omega)
          go_wp2_with fail
          go_round
          case rel => exact ⟨4, by omega, by go_num, hn2⟩
          case measure => simp [intOf]
      · have hix := idx13_4 (Pu.wordAt 0) (Pu.wordAt 1) (Pu.wordAt 2) (Pu.wordAt 3) (Pu.wordAt 4) (Pu.wordAt 5) (Pu.wordAt 6) (Pu.wordAt 7) (Pu.wordAt 8) (Pu.wordAt 9) (Pu.wordAt 10) (Pu.wordAt 11) (Pu.wordAt 12)
        cases he : (s.toList == (Pu.wordAt 4).toList) with
        | true =>
          have hb : Hid (Pu.wordB s = true) := Pu.wordB_at (k := 4) (by omega) (by rw [beq_comm']; exact he)
          go_wp2_with fail
          go_ret
          exact ⟨retBool (unhide hb).symm, rfl⟩
        | false =>
          have hn2 : Hid (∀ i, i < 5 → (s.toList == (Pu.wordAt i).toList) = false) := fun i hi => by
            by_cases e : i = 4
            · subst e; exact he
            · exact unhide hno i (by omega)
          go_wp2_with fail
          go_round
          case rel => exact ⟨5, by omega, by go_num, hn2⟩
          case measure => simp [intOf]
      · have hix := idx13_5 (Pu.wordAt 0) (Pu.wordAt 1) (Pu.wordAt 2) (Pu.wordAt 3) (Pu.wordAt 4) (Pu.wordAt 5) (Pu.wordAt 6) (Pu.wordAt 7) (Pu.wordAt 8) (Pu.wordAt 9) (Pu.wordAt 10) (Pu.wordAt 11) (Pu.wordAt 12)
        cases he : (s.toList == (Pu.wordAt 5).toList) with
        | true =>
          have hb : Hid (Pu.wordB s = true) := Pu.wordB_at (k := 5) (by omega) (by rw [beq_comm']; exact he)
          go_wp2_with fail
          go_ret
          exact ⟨retBool (unhide hb).symm, rfl⟩
        | false =>
          have hn2 : Hid (∀ i, i < 6 → (s.toList == (Pu.wordAt i).toList) = false) := fun i hi => by
            by_cases e : i = 5
            · subst e; exact he
            · exact unhide hno i (by omega)
          go_wp2_with fail
          go_round
          case rel => exact ⟨6, by omega, by go_num, hn2⟩
          case measure => simp [intOf]
      · have hix := idx13_6 (Pu.wordAt 0) (Pu.wordAt 1) (Pu.wordAt 2) (Pu.wordAt 3) (Pu.wordAt 4) (Pu.wordAt 5) (Pu.wordAt 6) (Pu.wordAt 7) (Pu.wordAt 8) (Pu.wordAt 9) (Pu.wordAt 10) (Pu.wordAt 11) (Pu.wordAt 12)
        cases he : (s.toList == (Pu.wordAt 6).toList) with
        | true =>
          have hb : Hid (Pu.wordB s = true) := Pu.wordB_at (k := 6) (by omega) (by rw [beq_comm']; exact he)
          go_wp2_with fail
          go_ret
          exact ⟨retBool (unhide hb).symm, rfl⟩
        | false =>
          have hn2 : Hid (∀ i, i < 7 → (s.toList == (Pu.wordAt i).toList) = false) := fun i hi => by
            by_cases e : i = 6
            · subst e; exact he
            · exact unhide hno i (by omega)
          go_wp2_with fail
          go_round
          case rel => exact ⟨7, by omega, by go_num, hn2⟩
          case measure => simp [intOf]
      · have hix := idx13_7 (Pu.wordAt 0) (Pu.wordAt 1) (Pu.wordAt 2) (Pu.wordAt 3) (Pu.wordAt 4) (Pu.wordAt 5) (Pu.wordAt 6) (Pu.wordAt 7) (Pu.wordAt 8) (Pu.wordAt 9) (Pu.wordAt 10) (Pu.wordAt 11) (Pu.wordAt 12)
        cases he : (s.toList == (Pu.wordAt 7).toList) with
        | true =>
          have hb : Hid (Pu.wordB s = true) := Pu.wordB_at (k := 7) (by omega) (by rw [beq_comm']; exact he)
          go_wp2_with fail
          go_ret
          exact ⟨retBool (unhide hb).symm, rfl⟩
        | false =>
          have hn2 : Hid (∀ i, i < 8 → (s.toList == (Pu.wordAt i).toList) = false) := fun i hi => by
            by_cases e : i = 7
            · subst e; exact he
            · exact unhide hno i (by omega)
          go_wp2_with fail
          go_round
          case rel => exact ⟨8, by omega, by go_num, hn2⟩
          case measure => simp [intOf]
      · have hix := idx13_8 (Pu.wordAt 0) (Pu.wordAt 1) (Pu.wordAt 2) (Pu.wordAt 3) (Pu.wordAt 4) (Pu.wordAt 5) (Pu.wordAt 6) (Pu.wordAt 7) (Pu.wordAt 8) (Pu.wordAt 9) (Pu.wordAt 10) (Pu.wordAt 11) (Pu.wordAt 12)
        cases he : (s.toList == (Pu.wordAt 8).toList) with
        | true =>
          have hb : Hid (Pu.wordB s = true) := Pu.wordB_at (k := 8) (by omega) (by rw [beq_comm']; exact he)
          go_wp2_with fail
          go_ret
          exact ⟨retBool (unhide hb).symm, rfl⟩
        | false =>
          have hn2 : Hid (∀ i, i < 9 → (s.toList == (Pu.wordAt i).toList) = false) := fun i hi => by
            by_cases e : i = 8
            · subst e; exact he
            · exact unhide hno i (by omega)
          go_wp2_with fail
          go_round
          case rel => exact ⟨9, by omega, by go_num, hn2⟩
          case measure => simp [intOf]
      · have hix := idx13_9 (Pu.wordAt 0) (Pu.wordAt 1) (Pu.wordAt 2) (Pu.wordAt 3) (Pu.wordAt 4) (Pu.wordAt 5) (Pu.wordAt 6) (Pu.wordAt 7) (Pu.wordAt 8) (Pu.wordAt 9) (Pu.wordAt 10) (Pu.wordAt 11) (Pu.wordAt 12)
        cases he : (s.toList == (Pu.wordAt 9).toList) with
        | true =>
          have hb : Hid (Pu.wordB s = true) := Pu.wordB_at (k := 9) (by omega) (by rw [beq_comm']; exact he)
          go_wp2_with fail
          go_ret
          exact ⟨retBool (unhide hb).symm, rfl⟩
        | false =>
          have hn2 : Hid (∀ i, i < 10 → (s.toList == (Pu.wordAt i).toList) = false) := fun i hi => by
            by_cases e : i = 9
            · subst e; exact he
            · exact unhide hno i (by omega)
          go_wp2_with fail
          go_round
          case rel => exact ⟨10, by omega, by go_num, hn2⟩
          case measure => simp [intOf]
      · have hix := idx13_10 (Pu.wordAt 0) (Pu.wordAt 1) (Pu.wordAt 2) (Pu.wordAt 3) (Pu.wordAt 4) (Pu.wordAt 5) (Pu.wordAt 6) (Pu.wordAt 7) (Pu.wordAt 8) (Pu.wordAt 9) (Pu.wordAt 10) (Pu.wordAt 11) (Pu.wordAt 12)
        cases he : (s.toList == (Pu.wordAt 10).toList) with
        | true =>
          have hb : Hid (Pu.wordB s = true) := Pu.wordB_at (k := 10) (by omega) (by rw [beq_comm']; exact he)
          go_wp2_with fail
          go_ret
          exact ⟨retBool (unhide hb).symm, rfl⟩
        | false =>
          have hn2 : Hid (∀ i, i < 11 → (s.toList == (Pu.wordAt i).toList) = false) := fun i hi => by
            by_cases e : i = 10
            · subst e; exact he
            · exact unhide hno i (by omega)
          go_wp2_with fail
          go_round
          case rel => exact ⟨11, by omega, by go_num, hn2⟩
          case measure => simp [intOf]
      · have hix := idx13_11 (Pu.wordAt 0) (Pu.wordAt 1) (Pu.wordAt 2) (Pu.wordAt 3) (Pu.wordAt 4) (Pu.wordAt 5) (Pu.wordAt 6) (Pu.wordAt 7) (Pu.wordAt 8) (Pu.wordAt 9) (Pu.wordAt 10) (Pu.wordAt 11) (Pu.wordAt 12)
        cases he : (s.toList == (Pu.wordAt 11).toList) with
        | true =>
          have hb : Hid (Pu.wordB s = true) := Pu.wordB_at (k := 11) (by omega) (by rw [beq_comm']; exact he)
          go_wp2_with fail
          go_ret
          exact ⟨retBool (unhide hb).symm, rfl⟩
        | false =>
          have hn2 : Hid (∀ i, i < 12 → (s.toList == (Pu.wordAt i).toList) = false) := fun i hi => by
            by_cases e : i = 11
            · subst e; exact he
            · exact unhide hno i (by omega)
          go_wp2_with fail
          go_round
          case rel => exact ⟨12, by omega, by go_num, hn2⟩
          case measure => simp [intOf]
      · have hix := idx13_12 (Pu.wordAt 0) (Pu.wordAt 1) (Pu.wordAt 2) (Pu.wordAt 3) (Pu.wordAt 4) (Pu.wordAt 5) (Pu.wordAt 6) (Pu.wordAt 7) (Pu.wordAt 8) (Pu.wordAt 9) (Pu.wordAt 10) (Pu.wordAt 11) (Pu.wordAt 12)
        cases he : (s.toList == (Pu.wordAt 12).toList) with
        | true =>
          have hb : Hid (Pu.wordB s = true) := Pu.wordB_at (k := 12) (by omega) (by rw [beq_comm']; exact he)
          go_wp2_with fail
          go_ret
          exact ⟨retBool (unhide hb).symm, rfl⟩
        | false =>
          have hn2 : Hid (∀ i, i < 13 → (s.toList == (Pu.wordAt i).toList) = false) := fun i hi => by
            by_cases e : i = 12
            · subst e; exact he
            · exact unhide hno i (by omega)
          go_wp2_with fail
          go_round
          case rel => exact ⟨13, by omega, by go_num, hn2⟩
          case measure => simp [intOf]
    · have hb : Hid (Pu.wordB s = false) := Pu.wordB_none (fun i hi => by rw [beq_comm']; exact unhide hno i (by omega))
      go_wp2_with fail
      go_ret
      exact ⟨retBool (unhide hb).symm, rfl⟩
end
end Go.Proofs.YtfflpeklkfjdnaaGreatDoor
namespace Go.Proofs.YtfflpeklkfjdnaaGreatDoor
open Go Go.RowKit
section
variable {w : World}
abbrev zPt : Array Value := #[.int .i64 0, .int .i64 0, .string ⟨#[]⟩, .string ⟨#[]⟩]
/-- The four stores of a token into the result's box. -/
theorem Bx.set4 {w : World} {b : Nat} {C : Array Value} (h : Bx w b C) (hC : C.size = 4) (v0 v1 v2 v3 : Value) : Bx ((((w.setCell ⟨b, 0, none⟩ v0).setCell ⟨b, 1, none⟩ v1).setCell ⟨b, 2, none⟩ v2).setCell ⟨b, 3, none⟩ v3) b #[v0, v1, v2, v3] := by
  obtain ⟨a0, a1, a2, a3, rfl⟩ : ∃ a0 a1 a2 a3, C = #[a0, a1, a2, a3] := by
    obtain ⟨l⟩ := C
    match l, hC with
    | [a, b, c, d], _ => exact ⟨a, b, c, d, rfl⟩
  exact (((h.setS' 0 v0 #[v0, a1, a2, a3] rfl (by simp)).setS' 1 v1 #[v0, v1, a2, a3] rfl (by simp)).setS' 2 v2 #[v0, v1, v2, a3] rfl (by simp)).setS' 3 v3 #[v0, v1, v2, v3] rfl (by simp)
theorem _root_.Go.RowKit.Below.set4 {B : Nat} {a w : World} (h : Below B a w) {b : Nat} (hb : B ≤ b) (v0 v1 v2 v3 : Value) : Below B a ((((w.setCell ⟨b, 0, none⟩ v0).setCell ⟨b, 1, none⟩ v1).setCell ⟨b, 2, none⟩ v2).setCell ⟨b, 3, none⟩ v3) :=
  (((h.setCell (p := ⟨b, 0, none⟩) hb v0).setCell (p := ⟨b, 1, none⟩) hb v1).setCell (p := ⟨b, 2, none⟩) hb v2).setCell (p := ⟨b, 3, none⟩) hb v3
set_option maxRecDepth 100000 in
set_option maxHeartbeats 1000000 in
theorem lowOrWord_C (h : Laid w) (s : ByteArray) (i : Nat) (hi : i < s.size) (hs : s.size ≤ 1000) :
    Calls Tryz.prog 284 #[.string s, .int .i64 (i : Int)] w fun e w' => e = .returned (ptokV (if Pu.wordB (s.extract i (Pu.endTo s Pu.nameB i)) = true then Pu.mkT s i 5 (Pu.endTo s Pu.nameB i) else Pu.mkT s i 1 (Pu.endTo s Pu.nameB i))) ∧ Below w.heap.size w w' := by
  have hle := Pu.endTo_le (s := s) Pu.nameB (i := i) (by omega)
  have hge := Pu.endTo_ge s Pu.nameB i
  have H := hide (h.bel ((Below.refl w.heap.size w).alloc (Nat.le_refl _) (.cells zPt 236)))
  have B0 := hide (Bx.new w zPt 236)
  have HB := hide ((Below.refl w.heap.size w).alloc (Nat.le_refl _) (.cells zPt 236))
  have h1 : (i : Int) ≤ ((Pu.endTo s Pu.nameB i : Nat) : Int) := by omega
  have h2 : ((Pu.endTo s Pu.nameB i : Nat) : Int) ≤ (s.size : Int) := by omega
  clear h
  cases hw : Pu.wordB (s.extract i (Pu.endTo s Pu.nameB i)) with
  | true =>
    go_enter Tryz.func284, Tryz.ntmps284
    go_wp2_with (first | (go_at_call 281; refine (endName_any s i _ hs (by omega)).mono ?_; rintro e w' ⟨rfl, rfl⟩) | (go_at_call 344; refine (isWord_C (unhide H) _).mono ?_; rintro e w' ⟨rfl, rfl⟩) | (go_at_call 286; refine (cut_C s i _ _ hge hle hs).mono ?_; rintro e w1 ⟨rfl, hb⟩; have B1 := hide ((unhide B0).below hb); have HB1 := hide ((unhide HB).trans (hb.mono (by simp))); obtain ⟨c1, f1, y1⟩ := unhide B1; clear hb))
    have BF := hide ((unhide B1).set4 rfl (.int .i64 (i : Int)) (.int .i64 ((Pu.endTo s Pu.nameB i : Nat) : Int)) (.string (s.extract i (Pu.endTo s Pu.nameB i))) (.string (s.extract i (Pu.endTo s Pu.nameB i))))
    obtain ⟨cF, fF, zF⟩ := unhide BF
    refine bodyPost_ret (v := ptokV (Pu.mkT s i 5 (Pu.endTo s Pu.nameB i))) (by simp [results, Tryz.results284, go_sem, cF, ptokV, Pu.mkT, kindB]) rfl ⟨by simp, (unhide HB1).set4 (Nat.le_refl _) _ _ _ _⟩
  | false =>
    go_enter Tryz.func284, Tryz.ntmps284
    go_wp2_with (first | (go_at_call 281; refine (endName_any s i _ hs (by omega)).mono ?_; rintro e w' ⟨rfl, rfl⟩) | (go_at_call 344; refine (isWord_C (unhide H) _).mono ?_; rintro e w' ⟨rfl, rfl⟩) | (go_at_call 286; refine (cut_C s i _ _ hge hle hs).mono ?_; rintro e w1 ⟨rfl, hb⟩; have B1 := hide ((unhide B0).below hb); have HB1 := hide ((unhide HB).trans (hb.mono (by simp))); obtain ⟨c1, f1, y1⟩ := unhide B1; clear hb))
    have BF := hide ((unhide B1).set4 rfl (.int .i64 (i : Int)) (.int .i64 ((Pu.endTo s Pu.nameB i : Nat) : Int)) (.string ⟨#[108, 111, 119, 32, 110, 97, 109, 101]⟩) (.string (s.extract i (Pu.endTo s Pu.nameB i))))
    obtain ⟨cF, fF, zF⟩ := unhide BF
    refine bodyPost_ret (v := ptokV (Pu.mkT s i 1 (Pu.endTo s Pu.nameB i))) (by simp [results, Tryz.results284, go_sem, cF, ptokV, Pu.mkT, kindB]) rfl ⟨by simp, (unhide HB1).set4 (Nat.le_refl _) _ _ _ _⟩
/-- What reading a token promises: the token, or a panic with its fault where it is none. -/
def TokPost (t : Pu.Tok) (w : World) (e : Ending) (w' : World) : Prop :=
  Below w.heap.size w w' ∧ ((t.kind ≠ 6 ∧ e = .returned (ptokV t)) ∨ (t.kind = 6 ∧ e = .panicked [{ v := .iface 231 (.agg #[.int .i64 2, .int .i64 (t.frm : Int), .int .i64 (t.to : Int)]), recovered := false }]))
set_option maxRecDepth 100000 in
set_option maxHeartbeats 1000000 in
theorem number_C (s : ByteArray) (i : Nat) (hi : i < s.size) (hs : s.size ≤ 1000) :
    Calls Tryz.prog 289 #[.string s, .int .i64 (i : Int)] w (TokPost (if Pu.endTo s Pu.digB i - i ≤ 9 then Pu.mkT s i 4 (Pu.endTo s Pu.digB i) else Pu.mkT s i 6 (Pu.endTo s Pu.digB i)) w) := by
  have hle := Pu.endTo_le (s := s) Pu.digB (i := i) (by omega)
  have hge := Pu.endTo_ge s Pu.digB i
  have B0 := hide (Bx.new w zPt 236)
  have HB := hide ((Below.refl w.heap.size w).alloc (Nat.le_refl _) (.cells zPt 236))
  by_cases hd : Pu.endTo s Pu.digB i - i ≤ 9
  · have h1 : ¬ (9 : Int) < ((Pu.endTo s Pu.digB i : Nat) : Int) - (i : Int) := by omega
    rw [if_pos hd]
    clear hd
    go_enter Tryz.func289, Tryz.ntmps289
    go_wp2_with (first | (go_at_call 281; refine (endDig_any s i _ hs (by omega)).mono ?_; rintro e w' ⟨rfl, rfl⟩) | (go_at_call 286; refine (cut_C s i _ _ hge hle hs).mono ?_; rintro e w1 ⟨rfl, hb⟩; have B1 := hide ((unhide B0).below hb); have HB1 := hide ((unhide HB).trans (hb.mono (by simp))); obtain ⟨c1, f1, y1⟩ := unhide B1; clear hb))
    have BF := hide ((unhide B1).set4 rfl (.int .i64 (i : Int)) (.int .i64 ((Pu.endTo s Pu.digB i : Nat) : Int)) (.string ⟨#[97, 32, 110, 117, 109, 98, 101, 114]⟩) (.string (s.extract i (Pu.endTo s Pu.digB i))))
    obtain ⟨cF, fF, zF⟩ := unhide BF
    exact bodyPost_ret (v := ptokV (Pu.mkT s i 4 (Pu.endTo s Pu.digB i))) (by simp [results, Tryz.results289, go_sem, cF, ptokV, Pu.mkT, kindB]) rfl ⟨(unhide HB1).set4 (Nat.le_refl _) _ _ _ _, Or.inl ⟨by simp [Pu.mkT], rfl⟩⟩
  · have h1 : (9 : Int) < ((Pu.endTo s Pu.digB i : Nat) : Int) - (i : Int) := by omega
    rw [if_neg hd]
    clear hd
    go_enter Tryz.func289, Tryz.ntmps289
    go_wp2_with (first | (go_at_call 281; refine (endDig_any s i _ hs (by omega)).mono ?_; rintro e w' ⟨rfl, rfl⟩) | (go_at_call 345; refine (noToken_C _ _).mono ?_; rintro e w1 ⟨rfl, hb⟩; have HB1 := hide ((unhide HB).trans (hb.mono (by simp))); clear hb))
    exact ⟨rfl, unhide HB1, Or.inr ⟨rfl, rfl⟩⟩
/-- The token that begins with an apostrophe. -/
def varTok (s : ByteArray) (i : Nat) : Pu.Tok :=
  if Pu.lowB (Pu.at_ s (i + 1)) = true then (if Pu.wordB (s.extract (i + 1) (Pu.endTo s Pu.nameB (i + 1))) = true then Pu.mkT s i 6 (Pu.endTo s Pu.nameB (i + 1)) else Pu.mkT s i 3 (Pu.endTo s Pu.nameB (i + 1))) else Pu.mkT s i 6 (i + 1)
set_option maxRecDepth 100000 in
set_option maxHeartbeats 1000000 in
theorem var_C (h : Laid w) (s : ByteArray) (i : Nat) (hi : i < s.size) (hs : s.size ≤ 1000) :
    Calls Tryz.prog 290 #[.string s, .int .i64 (i : Int)] w (TokPost (varTok s i) w) := by
  have B0 := hide (Bx.new w zPt 236)
  have HB := hide ((Below.refl w.heap.size w).alloc (Nat.le_refl _) (.cells zPt 236))
  have H := hide (h.bel (unhide HB))
  clear h
  by_cases hn : i + 1 < s.size
  · have he : (((i : Int) + 1) == (s.size : Int)) = false := by simp; omega
    have hat : Pu.at_ s (i + 1) = s[i + 1].toNat := Pu.at_lt hn
    cases hlo : Pu.lowB s[i + 1].toNat with
    | false =>
      have ht : varTok s i = Pu.mkT s i 6 (i + 1) := by unfold varTok; rw [hat, hlo]; simp
      rw [ht]
      clear ht hat
      go_enter Tryz.func290, Tryz.ntmps290
      go_wp2_with (first | (go_at_call 283; refine (pLow_any _ _).mono ?_; rintro e w' ⟨rfl, rfl⟩) | (go_at_call 345; refine (noToken_C _ _).mono ?_; rintro e w1 ⟨rfl, hb⟩; have HB1 := hide ((unhide HB).trans (hb.mono (by simp))); clear hb))
      exact ⟨rfl, unhide HB1, Or.inr ⟨rfl, rfl⟩⟩
    | true =>
      have hle := Pu.endTo_le (s := s) Pu.nameB (i := i + 1) (by omega)
      have hge := Pu.endTo_ge s Pu.nameB (i + 1)
      have h1 : (i : Int) + 1 ≤ ((Pu.endTo s Pu.nameB (i + 1) : Nat) : Int) := by omega
      have h2 : ((Pu.endTo s Pu.nameB (i + 1) : Nat) : Int) ≤ (s.size : Int) := by omega
      cases hw : Pu.wordB (s.extract (i + 1) (Pu.endTo s Pu.nameB (i + 1))) with
      | true =>
        have ht : varTok s i = Pu.mkT s i 6 (Pu.endTo s Pu.nameB (i + 1)) := by unfold varTok; rw [hat, hlo, hw]; simp
        rw [ht]
        clear ht hat
        go_enter Tryz.func290, Tryz.ntmps290
        go_wp2_with (first | (go_at_call 283; refine (pLow_any _ _).mono ?_; rintro e w' ⟨rfl, rfl⟩) | (go_at_call 281; refine (endName_any s (i + 1) _ hs (by omega)).mono ?_; rintro e w' ⟨rfl, rfl⟩) | (go_at_call 344; refine (isWord_C (unhide H) _).mono ?_; rintro e w' ⟨rfl, rfl⟩) | (go_at_call 345; refine (noToken_C _ _).mono ?_; rintro e w1 ⟨rfl, hb⟩; have HB1 := hide ((unhide HB).trans (hb.mono (by simp))); clear hb))
        exact ⟨rfl, unhide HB1, Or.inr ⟨rfl, rfl⟩⟩
      | false =>
        have ht : varTok s i = Pu.mkT s i 3 (Pu.endTo s Pu.nameB (i + 1)) := by unfold varTok; rw [hat, hlo, hw]; simp
        rw [ht]
        clear ht hat
        go_enter Tryz.func290, Tryz.ntmps290
        go_wp2_with (first | (go_at_call 283; refine (pLow_any _ _).mono ?_; rintro e w' ⟨rfl, rfl⟩) | (go_at_call 281; refine (endName_any s (i + 1) _ hs (by omega)).mono ?_; rintro e w' ⟨rfl, rfl⟩) | (go_at_call 344; refine (isWord_C (unhide H) _).mono ?_; rintro e w' ⟨rfl, rfl⟩) | (go_at_call 286; refine (cut_C s i _ _ (by omega) hle hs).mono ?_; rintro e w1 ⟨rfl, hb⟩; have B1 := hide ((unhide B0).below hb); have HB1 := hide ((unhide HB).trans (hb.mono (by simp))); obtain ⟨c1, f1, y1⟩ := unhide B1; clear hb))
        have BF := hide ((unhide B1).set4 rfl (.int .i64 (i : Int)) (.int .i64 ((Pu.endTo s Pu.nameB (i + 1) : Nat) : Int)) (.string ⟨#[97, 32, 118, 97, 114, 105, 97, 98, 108, 101]⟩) (.string (s.extract i (Pu.endTo s Pu.nameB (i + 1)))))
        obtain ⟨cF, fF, zF⟩ := unhide BF
        exact bodyPost_ret (v := ptokV (Pu.mkT s i 3 (Pu.endTo s Pu.nameB (i + 1)))) (by simp [results, Tryz.results290, go_sem, cF, ptokV, Pu.mkT, kindB]) rfl ⟨(unhide HB1).set4 (Nat.le_refl _) _ _ _ _, Or.inl ⟨by simp [Pu.mkT], rfl⟩⟩
  · have he : (((i : Int) + 1) == (s.size : Int)) = true := by simp; omega
    have ht : varTok s i = Pu.mkT s i 6 (i + 1) := by
      unfold varTok
      rw [Pu.at_ge (by omega)]
      rfl
    rw [ht]
    clear ht
    go_enter Tryz.func290, Tryz.ntmps290
    go_wp2_with (first | (go_at_call 345; refine (noToken_C _ _).mono ?_; rintro e w1 ⟨rfl, hb⟩; have HB1 := hide ((unhide HB).trans (hb.mono (by simp))); clear hb))
    exact ⟨rfl, unhide HB1, Or.inr ⟨rfl, rfl⟩⟩
end
end Go.Proofs.YtfflpeklkfjdnaaGreatDoor
namespace Go.Proofs.YtfflpeklkfjdnaaGreatDoor
open Go Go.RowKit
section
variable {rb g cap : Nat} {T : List Pu.Tok} {σ : St} {w : World}

theorem isS_yes {s : ByteArray} (h : isS T σ s = true) : ∃ k, σ = .ok k ∧ isT (tk T k) s = true ∧ (tk T k).kind = 5 := by
  cases σ with
  | ok k => exact ⟨k, rfl, h, by simp [isS, isT] at h; exact h.1⟩
  | error f => simp [isS] at h
theorem ofS_yes {n : Nat} (h : ofS T σ n = true) : ∃ k, σ = .ok k ∧ (tk T k).kind = n := by
  cases σ with
  | ok k => exact ⟨k, rfl, by simpa [ofS] using h⟩
  | error f => simp [ofS] at h

set_option maxRecDepth 100000 in
set_option maxHeartbeats 1000000 in
theorem want_S (h : SS w rb g cap T σ) (s : ByteArray) :
    Calls Tryz.prog 56 #[.pointer (some ⟨rb, 0, none⟩), .string s] w fun e w' => e = .returned (.tuple #[]) ∧ Ke rb w w' ∧ SS w' rb g cap T (nx σ (wantM T s)) := by
  rcases hi : isS T σ s with _ | _
  · have E : nx σ (wantM T s) = nx σ (wrongM (α := Unit) T) := by
      cases σ with
      | ok k => simp [isS] at hi; simp [nx, wantM, wrongM, hi]
      | error f => rfl
    rw [E]
    clear E
    go_enter Tryz.func56, Tryz.ntmps56
    go_wp2_with (first | (go_at_call 53; refine (is_S h s).mono ?_; rintro e w1 ⟨rfl, hb1⟩; have h1 := hide (h.below hb1)) | (go_at_call 113; refine (wrong_S (α := Unit) (unhide h1)).mono ?_; rintro e w2 ⟨rfl, hk2, h2⟩))
    exact bodyPost_ret (v := .tuple #[]) (by simp [results, Tryz.results56, go_sem]) rfl ⟨rfl, (Ke.of hb1).trans hk2, h2⟩
  · obtain ⟨k, rfl, hk, h5⟩ := isS_yes hi
    have E : nx (.ok k) (wantM T s) = .ok (k + 1) := by simp [nx, wantM, hk]
    rw [E]
    have h7 : (tk T k).kind ≠ 7 := by omega
    clear E hk h5
    go_enter Tryz.func56, Tryz.ntmps56
    go_wp2_with (first | (go_at_call 53; refine (is_S h s).mono ?_; rintro e w1 ⟨rfl, hb1⟩; have h1 := hide (h.below hb1)) | (go_at_call 112; refine (pass_S (unhide h1) h7).mono ?_; rintro e w2 ⟨rfl, hk2, h2⟩))
    go_end0
    exact ⟨rfl, (Ke.of hb1).trans hk2, h2⟩

end
end Go.Proofs.YtfflpeklkfjdnaaGreatDoor
namespace Go.Proofs.YtfflpeklkfjdnaaGreatDoor
open Go Go.RowKit
section
variable {rb g cap : Nat} {T : List Pu.Tok} {σ : St} {w : World}

set_option maxRecDepth 100000 in
set_option maxHeartbeats 1000000 in
theorem last_any {k : Nat} {f : Fl} (h : RS w rb g cap T k f) :
    Calls Tryz.prog 202 #[.pointer (some ⟨rb, 0, none⟩)] w fun e w' => e = .returned (.int .i64 (lastK T k : Int)) ∧ Below w.heap.size w w' := by
  by_cases h0 : k = 0
  · subst h0
    have h1 := h.c1
    clear h
    go_enter Tryz.func202, Tryz.ntmps202
    go_wp2
    go_ret
    exact ⟨rfl, Below.refl _ _⟩
  · obtain ⟨j, rfl⟩ : ∃ j, k = j + 1 := ⟨k - 1, by omega⟩
    have hj : j < T.length := by have := h.hk; omega
    obtain ⟨t0, t1, t2, t3⟩ := h.tk j hj
    have c0 := h.c0
    have h1 := h.c1
    have hrb := h.hr
    have hg := h.hg
    have hk : ((j : Int) + 1) < (T.length : Int) := by have := h.hk; omega
    have hk2 : (j : Int) ≤ 1001 := by have := h.hk; have := h.hT; omega
    have E : (((j + 1 : Nat) : Int) == 0) = false := by simp; omega
    rw [tk_eq hj] at t0 t1 t2 t3
    have L := hide (show lastK T (j + 1) = (tk T j).to by simp [lastK])
    generalize tk T j = t at *
    clear h h0 hj
    go_enter Tryz.func202, Tryz.ntmps202
    go_wp2
    go_quiet (fail)
    go_wp2
    go_ret
    exact ⟨retInt (by rw [unhide L]), ⟨rfl, rfl, rfl, Nat.le_refl _, fun _ _ => rfl⟩⟩
theorem last_S (h : SS w rb g cap T σ) :
    Calls Tryz.prog 202 #[.pointer (some ⟨rb, 0, none⟩)] w fun e w' => ∃ n : Nat, e = .returned (.int .i64 (n : Int)) ∧ Below w.heap.size w w' ∧ (∀ k, σ = .ok k → n = lastK T k) := by
  obtain ⟨k, f, hR, hs⟩ := h.any
  refine (last_any hR).mono ?_
  rintro e w' ⟨rfl, hb⟩
  refine ⟨_, rfl, hb, fun j hj => ?_⟩
  rcases hs with ⟨rfl, _⟩ | ⟨rfl, _⟩
  · cases hj; rfl
  · cases hj
end

/-- A number out of its digits, nine at most. -/
def numF (s : ByteArray) : Nat → Nat
  | 0 => 0
  | k + 1 => 10 * numF s k + (Pu.at_ s k + 208) % 256
def numB (s : ByteArray) : Nat := numF s (min s.size 9)
theorem numF_le (s : ByteArray) : ∀ k, k ≤ 9 → numF s k ≤ 255 * 111111111 := by
  have : ∀ k, 9 * numF s k + 255 ≤ 255 * 10 ^ k := by
    intro k
    induction k with
    | zero => simp [numF]
    | succ k ih => simp only [numF, Nat.pow_succ]; omega
  intro k hk
  have h := this k
  have h2 : 10 ^ k ≤ 10 ^ 9 := Nat.pow_le_pow_right (by omega) hk
  omega

set_option maxRecDepth 100000 in
set_option maxHeartbeats 1000000 in
theorem number_any (s : ByteArray) (w : World) :
    Calls Tryz.prog 350 #[.string s] w fun e w' => e = .returned (.int .i64 (numB s : Int)) ∧ w' = w := by
  go_enter Tryz.func350, Tryz.ntmps350
  go_wp2
  go_loop [3, 4] (fun n i => ∃ k : Nat, k ≤ s.size ∧ k ≤ 9 ∧ i = .int .i64 (k : Int) ∧ n = .int .i64 (numF s k : Int)) (fun _ i => 9 - (intOf i).toNat)
  case atStart => exact ⟨0, by omega, by omega, rfl, rfl⟩
  case round =>
    obtain ⟨k, h1, h2, rfl, rfl⟩ := hrel
    have hb := numF_le s k h2
    by_cases ha : k < s.size
    · by_cases hb : k < 9
      · go_wp2
        refine ⟨⟨k + 1, by omega, by omega, by go_num, congrArg (Value.int .i64) ?_⟩, by simp [intOf]; omega⟩
        simp only [numF, Pu.at_lt ha]
        omega
      · go_wp2
        go_ret
        exact ⟨retInt (by unfold numB; rw [show min s.size 9 = k by omega]), rfl⟩
    · go_wp2
      go_ret
      exact ⟨retInt (by unfold numB; rw [show min s.size 9 = k by omega]), rfl⟩
end Go.Proofs.YtfflpeklkfjdnaaGreatDoor

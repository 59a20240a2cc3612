import Derived.Test.YtfflpeklkfjdnaaGreatDoorKTp
import Derived.Test.YtfflpeklkfjdnaaGreatDoorKVk
set_option linter.unusedSimpArgs false
set_option linter.unusedVariables false
set_option linter.unusedSectionVars false
namespace Go.Proofs.YtfflpeklkfjdnaaGreatDoor
open Go Go.RowKit Go.ChangeMaps Un
/-- The rows of the map from variables to their nodes. -/
def vlL (vr : Nat → Nat) (vl : List Nat) : List (Int × Value) := vl.map fun n => ((vr n : Int), nA n)
theorem got_vl {vr : Nat → Nat} {v : Nat} : ∀ {vl : List Nat}, (∀ m ∈ vl, vr m ≠ v) → got (v : Int) (vlL vr vl) = none
  | [], _ => rfl
  | m :: l, h => by
    have h1 : ((vr m : Nat) : Int) ≠ (v : Int) := fun e => h m (by simp) (by omega)
    have := got_vl (vr := vr) (v := v) (vl := l) fun x hx => h x (List.mem_cons_of_mem _ hx)
    simp only [vlL] at this
    simp [vlL, got, h1, this]
theorem got_vl_in {vr : Nat → Nat} {n : Nat} : ∀ {vl : List Nat}, n ∈ vl → (∀ m ∈ vl, vr m = vr n → m = n) → got (vr n : Int) (vlL vr vl) = some (nA n)
  | [], h, _ => by simp at h
  | m :: l, h, k => by
    by_cases e : vr m = vr n
    · have := k m (by simp) e
      subst this
      simp [vlL, got]
    · have h1 : ((vr m : Nat) : Int) ≠ (vr n : Int) := fun q => e (by omega)
      have hl : n ∈ l := by
        rcases List.mem_cons.1 h with q | q
        · subst q; exact absurd rfl e
        · exact q
      have := got_vl_in (vr := vr) (n := n) hl fun x hx => k x (List.mem_cons_of_mem _ hx)
      simp only [vlL] at this
      simp [vlL, got, h1, this]
theorem vlL_upd {vr : Nat → Nat} {vl : List Nat} {n v : Nat} (h : ¬ n ∈ vl) : vlL (Un.upd vr n v) vl = vlL vr vl := by
  unfold vlL
  apply List.map_congr_left
  intro m hm
  have : m ≠ n := fun e => h (e ▸ hm)
  simp [Un.upd, this]
section
variable {w w' : World} {ds : List Nat} {str : Str} {nx : Nx} {vr : Nat → Nat} {ly : Nat → Option Addr × Nat}
theorem PartsAt.move {sa : Option Addr} {s : Option (ByteArray × List Nat)} (h : PartsAt w ds sa s) (hs : w.heap.size ≤ w'.heap.size) (hb : ∀ b i v, w.cell? ⟨b, i, none⟩ = some v → w'.heap[b]? = w.heap[b]?) : PartsAt w' ds sa s := by
  cases s with
  | none => trivial
  | some p =>
    obtain ⟨c, l⟩ := p
    obtain ⟨h1, h2, h3, h4⟩ := h
    refine ⟨h1, h2, h3, ?_⟩
    by_cases e : l = []
    · exact Or.inl e
    · obtain ⟨g, q1, q2, q3, q4⟩ := h4.resolve_left e
      refine Or.inr ⟨g, q1, q2, by omega, fun i hi => ?_⟩
      have := q4 i hi
      rw [World.cell?_of_block (a := ⟨g, i, none⟩) (w := w) (hb g i _ this)]
      exact this
theorem GN.move (h : GN w ds str nx vr ly) (hs : w.heap.size ≤ w'.heap.size) (hb : ∀ b i v, w.cell? ⟨b, i, none⟩ = some v → w'.heap[b]? = w.heap[b]?) : GN w' ds str nx vr ly := by
  refine ⟨fun n hn => ?_, h.out, h.hd⟩
  have hc := (h.nd n hn).cells.1
  obtain ⟨h1, h2, h3⟩ := h.nd n hn
  exact ⟨(hb n 0 _ hc).trans h1, h2.move hs hb, h3⟩
theorem PartsAt.more {sa : Option Addr} {s : Option (ByteArray × List Nat)} (h : PartsAt w ds sa s) {n : Nat} (hn : w.heap.size ≤ n) : PartsAt w (n :: ds) sa s := by
  cases s with
  | none => trivial
  | some p =>
    obtain ⟨c, l⟩ := p
    obtain ⟨h1, h2, h3, h4⟩ := h
    refine ⟨h1, h2, fun m hm => List.mem_cons_of_mem _ (h3 m hm), h4.imp id ?_⟩
    rintro ⟨g, q1, q2, q3, q4⟩
    refine ⟨g, q1, fun hg => ?_, q3, q4⟩
    rcases List.mem_cons.1 hg with q | q
    · omega
    · exact q2 q
theorem NodeAt.lt {n : Nat} (h : NodeAt w ds str nx vr ly n) : n < w.heap.size := (Array.getElem?_eq_some_iff.1 h.1).1
/-- A node more. -/
theorem GN.add (h : GN w ds str (fun _ => none) vr ly) (hs : w.heap.size ≤ w'.heap.size) (hb : ∀ b i v, w.cell? ⟨b, i, none⟩ = some v → w'.heap[b]? = w.heap[b]?) {n : Nat} (hn : w.heap.size ≤ n) (s : Option (ByteArray × List Nat)) (v : Nat) (a : Option Addr × Nat)
    (hh : w'.heap[n]? = some (.cells #[.pointer none, .int .i64 0, .int .i64 (v : Int), .string (byS s), .slice a.1 (slN s) a.2] 294 (0, 0))) (hp : PartsAt w' (n :: ds) a.1 s) :
    GN w' (n :: ds) (Un.upd str n s) (fun _ => none) (Un.upd vr n v) (Un.upd ly n a) := by
  refine ⟨fun x hx => ?_, fun x hx => ?_, fun x _ => ⟨x, .here rfl⟩⟩
  · by_cases e : x = n
    · subst e
      refine ⟨by simpa [Un.upd, nP] using hh, by simpa [Un.upd] using hp, fun m hm => by cases hm⟩
    · have hx' : x ∈ ds := (List.mem_cons.1 hx).resolve_left e
      have hc := (h.nd x hx').cells.1
      obtain ⟨h1, h2, h3⟩ := h.nd x hx'
      refine ⟨?_, ?_, fun m hm => by cases hm⟩
      · rw [hb x 0 _ hc, h1]; simp [Un.upd, e]
      · simp only [Un.upd, e, if_false]
        exact (h2.more hn).move hs hb
  · have hx' : x ≠ n ∧ ¬ x ∈ ds := ⟨fun e => hx (by simp [e]), fun e => hx (by simp [e])⟩
    exact ⟨rfl, by simpa [Un.upd, hx'.1] using (h.out x hx'.2).2⟩
end
/-- Nodes that are being made. -/
structure Ns where
  ds : List Nat
  str : Str
  vr : Nat → Nat
  ly : Nat → Option Addr × Nat
  ty : Nat → Ty
  vl : List Nat
def Ns.Le (G G' : Ns) : Prop := ∀ m ∈ G.ds, m ∈ G'.ds ∧ G'.ty m = G.ty m
theorem Ns.Le.refl (G : Ns) : G.Le G := fun _ h => ⟨h, rfl⟩
theorem Ns.Le.trans {A B C : Ns} (h : A.Le B) (k : B.Le C) : A.Le C := fun m hm => ⟨(k m (h m hm).1).1, (k m (h m hm).1).2.trans (h m hm).2⟩
/-- What is new: new blocks. -/
def Ns.New (b : Nat) (G G' : Ns) : Prop := ∀ m ∈ G'.ds, (m ∈ G.ds ∧ G'.ly m = G.ly m ∧ G'.str m = G.str m) ∨ (b ≤ m ∧ ∀ g, (G'.ly m).1 = some ⟨g, 0, none⟩ → b ≤ g)
theorem Ns.New.refl (b : Nat) (G : Ns) : Ns.New b G G := fun m hm => Or.inl ⟨hm, rfl, rfl⟩
theorem Ns.New.trans {b b' : Nat} {A B C : Ns} (h : Ns.New b A B) (k : Ns.New b' B C) (hb : b ≤ b') : Ns.New b A C := fun m hm => by
  rcases k m hm with ⟨k1, k2, k3⟩ | ⟨k1, k2⟩
  · rcases h m k1 with ⟨h1, h2, h3⟩ | ⟨h1, h2⟩
    · exact Or.inl ⟨h1, k2.trans h2, k3.trans h3⟩
    · exact Or.inr ⟨h1, fun g e => h2 g (by rw [← k2]; exact e)⟩
  · exact Or.inr ⟨by omega, fun g e => by have := k2 g e; omega⟩
/-- The block in which the level lies that variables' nodes are made at. -/
def lvB (kb : Nat) : Nat := kb - 2
/-- The closure of variables' nodes, and all nodes that were made so far. -/
structure VN (w : World) (kb mb : Nat) (G : Ns) : Prop where
  bk : Bx w kb #[.map (some mb)]
  mp : MS (fun n : Int => Value.int .i64 n) w mb (vlL G.vr G.vl)
  gn : GN w G.ds G.str (fun _ => none) G.vr G.ly
  of : Un.Of G.str G.vr (fun n => n ∈ G.ds) G.ty
  vs : ∀ n, n ∈ G.vl ↔ n ∈ G.ds ∧ G.str n = none
  kd : ¬ kb ∈ G.ds
  wf : ∀ n ∈ G.ds, Wf (G.ty n)
  lv : Bx w (lvB kb) #[.int .i64 0]
  ld : ¬ lvB kb ∈ G.ds
  lm : lvB kb ≠ mb
theorem MS.nocell {κ : Type} [DecidableEq κ] {enc : κ → Value} {w : World} {b : Nat} {L : List (κ × Value)} (h : MS enc w b L) (i : Nat) : w.cell? ⟨b, i, none⟩ = none := by
  obtain ⟨es, c, hb, _⟩ := h
  simp [World.cell?, hb]
def IsM (mb : Nat) (b : Nat) : Prop := b = mb
theorem cell_lt {w : World} {b i : Nat} {v : Value} (h : w.cell? ⟨b, i, none⟩ = some v) : b < w.heap.size := by
  by_cases e : b < w.heap.size
  · exact e
  · have : w.heap[b]? = none := Array.getElem?_eq_none (by omega)
    simp [World.cell?, this] at h
theorem VN.keep {w w' : World} {kb mb : Nat} {G : Ns} (h : VN w kb mb G) (hf : Fr (IsM mb) w w') : ∀ b i v, w.cell? ⟨b, i, none⟩ = some v → w'.heap[b]? = w.heap[b]? := by
  intro b i v hc
  refine hf.block b (cell_lt hc) (fun e => ?_)
  have e : b = mb := e
  subst e
  rw [h.mp.nocell i] at hc
  cases hc
/-- All stays where but new blocks are written. -/
theorem VN.fr {S : Nat → Prop} {w w' : World} {kb mb : Nat} {G : Ns} (h : VN w kb mb G) (hf : Fr S w w') (hS : ∀ b, S b → w.heap.size ≤ b) : VN w' kb mb G := by
  have hb : ∀ b, b < w.heap.size → w'.heap[b]? = w.heap[b]? := fun b hz => hf.block b hz (fun q => by have := hS b q; omega)
  exact ⟨h.bk.same hf.size (hb kb h.bk.z), h.mp.same (hb mb h.mp.lt), h.gn.move hf.size (fun b i v hc => hb b (cell_lt hc)), h.of, h.vs, h.kd, h.wf, h.lv.same hf.size (hb (lvB kb) h.lv.z), h.ld, h.lm⟩
theorem VN.one {w w' : World} {kb mb b : Nat} {G : Ns} (h : VN w kb mb G) (o : One b w w') (h1 : ¬ b ∈ G.ds) (h2 : kb ≠ b) (h3 : mb ≠ b) (h6 : lvB kb ≠ b) (h4 : ∀ m ∈ G.ds, ∀ c l g, G.str m = some (c, l) → l ≠ [] → (G.ly m).1 = some ⟨g, 0, none⟩ → g ≠ b) : VN w' kb mb G := by
  refine ⟨h.bk.one o h2, h.mp.one o h3, ⟨fun n hn => ?_, h.gn.out, h.gn.hd⟩, h.of, h.vs, h.kd, h.wf, h.lv.one o h6, h.ld, h.lm⟩
  obtain ⟨p1, p2, p3⟩ := h.gn.nd n hn
  have hne : n ≠ b := fun e => h1 (e ▸ hn)
  refine ⟨(o.block n hne).trans p1, ?_, p3⟩
  have h5 := h4 n hn
  cases hs : G.str n with
  | none => trivial
  | some p =>
    obtain ⟨c, l⟩ := p
    rw [hs] at p2
    obtain ⟨q1, q2, q3, q4⟩ := p2
    refine ⟨q1, q2, q3, ?_⟩
    by_cases e : l = []
    · exact Or.inl e
    · obtain ⟨g, r1, r2, r3, r4⟩ := q4.resolve_left e
      have hg := h5 c l g hs e r1
      refine Or.inr ⟨g, r1, r2, by rw [o.size]; exact r3, fun i hi => ?_⟩
      rw [World.cell?_of_block (a := ⟨g, i, none⟩) (w := w) (o.block g hg)]
      exact r4 i hi
/-- Rows that were there. -/
theorem VN.row {w : World} {kb mb : Nat} {G : Ns} (h : VN w kb mb G) {m : Nat} (hm : m ∈ G.ds) {c : ByteArray} {l : List Nat} {g : Nat} (hs : G.str m = some (c, l)) (hl : l ≠ []) (hg : (G.ly m).1 = some ⟨g, 0, none⟩) : g < w.heap.size := by
  obtain ⟨_, p2, _⟩ := h.gn.nd m hm
  rw [hs] at p2
  obtain ⟨g', r1, _, r3, _⟩ := p2.2.2.2.resolve_left hl
  rw [hg] at r1
  injection r1 with r1
  injection r1 with r1
  subst r1
  exact r3
theorem Of.addVar {str : Str} {vr : Nat → Nat} {ds : List Nat} {ty : Nat → Ty} (h : Un.Of str vr (fun n => n ∈ ds) ty) {n v : Nat} (hn : ¬ n ∈ ds) (hv : ∀ m ∈ ds, str m = none → vr m ≠ v) : Un.Of (Un.upd str n none) (Un.upd vr n v) (fun x => x ∈ n :: ds) (Un.upd ty n (.var v)) := by
  refine ⟨fun x hx e => ?_, fun x c l e => ?_, fun x y hx hy e1 e2 e3 => ?_⟩
  · by_cases q : x = n
    · subst q; simp [Un.upd]
    · simp only [Un.upd, q, if_false] at e ⊢
      exact h.var x ((List.mem_cons.1 hx).resolve_left q) e
  · by_cases q : x = n
    · subst q; simp [Un.upd] at e
    · simp only [Un.upd, q, if_false] at e ⊢
      obtain ⟨a, b, d⟩ := h.con x c l e
      refine ⟨List.mem_cons_of_mem _ a, ?_, fun y hy => List.mem_cons_of_mem _ (d y hy)⟩
      rw [b]
      congr 1
      apply List.map_congr_left
      intro y hy
      have : y ≠ n := fun q => hn (q ▸ d y hy)
      simp [Un.upd, this]
  · by_cases q : x = n <;> by_cases r : y = n
    · rw [q, r]
    · subst q
      simp only [Un.upd, r, if_true, if_false] at e2 e3
      exact absurd e3.symm (hv y ((List.mem_cons.1 hy).resolve_left r) e2)
    · subst r
      simp only [Un.upd, q, if_true, if_false] at e1 e3
      exact absurd e3 (hv x ((List.mem_cons.1 hx).resolve_left q) e1)
    · simp only [Un.upd, q, r, if_false] at e1 e2 e3
      exact h.one x y ((List.mem_cons.1 hx).resolve_left q) ((List.mem_cons.1 hy).resolve_left r) e1 e2 e3
theorem Of.addCon {str : Str} {vr : Nat → Nat} {ds : List Nat} {ty : Nat → Ty} (h : Un.Of str vr (fun n => n ∈ ds) ty) {n : Nat} (hn : ¬ n ∈ ds) (c : ByteArray) (l : List Nat) (hl : ∀ m ∈ l, m ∈ ds) (v : Nat) : Un.Of (Un.upd str n (some (c, l))) (Un.upd vr n v) (fun x => x ∈ n :: ds) (Un.upd ty n (.con c (l.map ty))) := by
  have hmap : ∀ l : List Nat, (∀ m ∈ l, m ∈ ds) → l.map (Un.upd ty n (.con c (l.map ty))) = l.map ty := by
    intro l hl
    apply List.map_congr_left
    intro y hy
    have : y ≠ n := fun q => hn (q ▸ hl y hy)
    simp [Un.upd, this]
  have hmap' : ∀ (T : Ty) (l : List Nat), (∀ m ∈ l, m ∈ ds) → l.map (Un.upd ty n T) = l.map ty := by
    intro T l hl
    apply List.map_congr_left
    intro y hy
    have : y ≠ n := fun q => hn (q ▸ hl y hy)
    simp [Un.upd, this]
  refine ⟨fun x hx e => ?_, fun x c' l' e => ?_, fun x y hx hy e1 e2 e3 => ?_⟩
  · by_cases q : x = n
    · subst q; simp [Un.upd] at e
    · simp only [Un.upd, q, if_false] at e ⊢
      exact h.var x ((List.mem_cons.1 hx).resolve_left q) e
  · by_cases q : x = n
    · subst q
      simp [Un.upd] at e
      obtain ⟨rfl, rfl⟩ := e
      refine ⟨by simp, ?_, fun y hy => List.mem_cons_of_mem _ (hl y hy)⟩
      rw [hmap' _ _ hl]
      simp [Un.upd]
    · have e' : str x = some (c', l') := by simpa [Un.upd, q] using e
      obtain ⟨a, b, d⟩ := h.con x c' l' e'
      refine ⟨List.mem_cons_of_mem _ a, ?_, fun y hy => List.mem_cons_of_mem _ (d y hy)⟩
      rw [hmap' _ _ d, ← b]
      simp [Un.upd, q]
  · have q : x ≠ n := fun q => by subst q; simp [Un.upd] at e1
    have r : y ≠ n := fun q => by subst q; simp [Un.upd] at e2
    simp only [Un.upd, q, r, if_false] at e1 e2 e3
    exact h.one x y ((List.mem_cons.1 hx).resolve_left q) ((List.mem_cons.1 hy).resolve_left r) e1 e2 e3
end Go.Proofs.YtfflpeklkfjdnaaGreatDoor
namespace Go.Proofs.YtfflpeklkfjdnaaGreatDoor
open Go Go.RowKit Go.ChangeMaps Un
section
variable {w : World} {kb mb : Nat} {G : Ns}
theorem zeroNode (w : World) : (zeroValue 172).run Tryz.prog w = .ok (.pointer none) w := by kernel_rfl
def VarPost (kb mb : Nat) (G : Ns) (T : Ty) (w : World) (e : Ending) (w' : World) : Prop :=
  ∃ n G', e = .returned (nA n) ∧ VN w' kb mb G' ∧ G.Le G' ∧ n ∈ G'.ds ∧ G'.ty n = T ∧ Fr (IsM mb) w w' ∧ Ns.New w.heap.size G G'
set_option maxRecDepth 100000 in
set_option maxHeartbeats 1000000 in
theorem varOf_C (h : VN w kb mb G) (v : Nat) : Calls Tryz.prog 136 #[.int .i64 (v : Int), .pointer (some ⟨kb, 0, none⟩), .pointer (some ⟨lvB kb, 0, none⟩)] w (VarPost kb mb G (.var v) w) := by
  have hl := h.mp.look (KL.num Tryz.underlying157) Tryz.underlying286 (zeroNode w) (v : Int) trivial (fun _ _ => trivial) true
  obtain ⟨c, f, z⟩ := h.bk
  have hnot : ∀ (x : Bool) (w : World), (Op.unary .not (.bool x)).run Tryz.prog w = .ok (.bool (!x)) w := fun _ _ => rfl
  have hcc : w.cell? ⟨kb, 0, none⟩ = some (.map (some mb)) := c 0
  have hcl : w.cell? ⟨lvB kb, 0, none⟩ = some (.int .i64 0) := h.lv.c 0
  have hzl : lvB kb < w.heap.size := h.lv.z
  by_cases hm : ∃ n, n ∈ G.vl ∧ G.vr n = v
  · obtain ⟨n, hn, rfl⟩ := hm
    obtain ⟨n1, n2⟩ := (h.vs n).1 hn
    rw [got_vl_in hn (fun m hm e => h.of.one m n ((h.vs m).1 hm).1 n1 ((h.vs m).1 hm).2 n2 e)] at hl
    simp at hl
    have H := hide h
    clear h
    go_enter Tryz.func136, Tryz.ntmps136
    go_wp2_with fail
    go_ret
    exact ⟨n, G, rfl, unhide H, Ns.Le.refl _, n1, (unhide H).of.var n n1 n2, Fr.refl _ _, Ns.New.refl _ _⟩
  · have hv : ∀ m ∈ G.vl, G.vr m ≠ v := fun m h1 h2 => hm ⟨m, h1, h2⟩
    have hg := got_vl hv
    rw [hg] at hl
    simp at hl
    have HM := hide (h.mp.below ((Below.refl _ _).alloc (Nat.le_refl _) (.cells #[.pointer none, .int .i64 0, .int .i64 (v : Int), .string ⟨#[]⟩, .slice none 0 0] 294)))
    have BK := h.bk.alloc (.cells #[.pointer none, .int .i64 0, .int .i64 (v : Int), .string ⟨#[]⟩, .slice none 0 0] 294)
    obtain ⟨c1, f1, z1⟩ := BK
    have hcc1 : (w.alloc (.cells #[.pointer none, .int .i64 0, .int .i64 (v : Int), .string ⟨#[]⟩, .slice none 0 0] 294)).cell? ⟨kb, 0, none⟩ = some (.map (some mb)) := c1 0
    have H := hide h
    clear h c1 f1 z1
    go_enter Tryz.func136, Tryz.ntmps136
    go_wp2_with (first | (go_at_call 137; go_in) | (refine wpList_put _ rfl _ _ _ _ (Or.inr rfl) (KL.num Tryz.underlying157) Tryz.underlying286 _ _ rfl (unhide HM) (v : Int) (nA w.heap.size) rfl rfl trivial (fun _ _ => trivial) ?_; intro w' H' O'; have HM2 := hide H'; have O2 := hide O'; clear H' O'))
    go_ret
    have O := unhide O2
    have h := unhide H
    have zm := h.mp.lt
    have hz : ¬ w.heap.size ∈ G.ds := fun q => by have := (h.gn.nd _ q).lt; omega
    have hzv : ¬ w.heap.size ∈ G.vl := fun q => hz ((h.vs _).1 q).1
    have hsz : w'.heap.size = w.heap.size + 1 := O.size.trans (Array.size_push ..)
    have F1 : Fr (IsM mb) w w' := by
      have f1 : Fr (IsM mb) w (w.alloc (.cells #[.pointer none, .int .i64 0, .int .i64 (v : Int), .string ⟨#[]⟩, .slice none 0 0] 294)) := Fr.of ((Below.refl _ _).alloc (Nat.le_refl _) _)
      exact ⟨O.os.trans f1.os, O.tape.trans f1.tape, O.output.trans f1.output, by omega, fun k hk hn => (O.block k (fun e => hn e)).trans (f1.block k hk hn)⟩
    have hnode : w'.heap[w.heap.size]? = some (.cells #[.pointer none, .int .i64 0, .int .i64 (v : Int), .string ⟨#[]⟩, .slice none 0 0] 294 (0, 0)) := by
      rw [O.block _ (by omega)]
      exact (MapKept.heap_alloc w _).1
    have kz : kb ≠ mb := fun e => by subst e; have := h.mp.nocell 0; rw [hcc] at this; cases this
    refine ⟨w.heap.size, ⟨w.heap.size :: G.ds, Un.upd G.str w.heap.size none, Un.upd G.vr w.heap.size v, Un.upd G.ly w.heap.size (none, 0), Un.upd G.ty w.heap.size (.var v), G.vl ++ [w.heap.size]⟩, rfl, ⟨?_, ?_, ?_, ?_, ?_, ?_, ?_, h.lv.fr F1 (fun e => h.lm e), fun q => (List.mem_cons.1 q).elim (fun q => by omega) h.ld, h.lm⟩, ?_, by simp, by simp [Un.upd], F1, fun m hm => ?_⟩
    · exact h.bk.fr F1 (fun e => kz e)
    · have := unhide HM2
      rw [putL_new _ _ _ hg] at this
      have e1 : vlL (Un.upd G.vr w.heap.size v) (G.vl ++ [w.heap.size]) = vlL G.vr G.vl ++ [((v : Int), nA w.heap.size)] := by
        rw [← vlL_upd (v := v) hzv]
        simp [vlL, Un.upd]
      show MS _ w' mb (vlL (Un.upd G.vr w.heap.size v) (G.vl ++ [w.heap.size]))
      rw [e1]
      exact this
    · exact h.gn.add F1.size (h.keep F1) (Nat.le_refl _) none v (none, 0) hnode trivial
    · refine Of.addVar h.of hz (fun m hm e => hv m ((h.vs m).2 ⟨hm, e⟩))
    · intro x
      show x ∈ G.vl ++ [w.heap.size] ↔ x ∈ w.heap.size :: G.ds ∧ Un.upd G.str w.heap.size none x = none
      by_cases e : x = w.heap.size
      · simp [e, Un.upd]
      · simp [e, Un.upd, h.vs x]
    · show ¬ kb ∈ w.heap.size :: G.ds
      intro q
      rcases List.mem_cons.1 q with q | q
      · omega
      · exact h.kd q
    · intro x hx
      by_cases e : x = w.heap.size
      · subst e; simp [Un.upd, Wf]
      · simp only [Un.upd, e, if_false]
        exact h.wf x ((List.mem_cons.1 hx).resolve_left e)
    · intro m hm
      have : m ≠ w.heap.size := fun e => hz (e ▸ hm)
      exact ⟨List.mem_cons_of_mem _ hm, by simp [Un.upd, this]⟩
    · by_cases e : m = w.heap.size
      · subst e
        exact Or.inr ⟨Nat.le_refl _, fun g q => by simp [Un.upd] at q⟩
      · have hm' : m ∈ G.ds := (List.mem_cons.1 hm).resolve_left e
        exact Or.inl ⟨hm', by simp [Un.upd, e], by simp [Un.upd, e]⟩
end
end Go.Proofs.YtfflpeklkfjdnaaGreatDoor

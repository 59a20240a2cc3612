import Derived.Laws.EntriesVeiled
import Derived.Test.YtfflpeklkfjdnaaGreatDoorKPure
import Derived.Test.YtfflpeklkfjdnaaGreatDoorKTt
import Derived.Test.YtfflpeklkfjdnaaGreatDoorKQd
import Derived.Test.YtfflpeklkfjdnaaGreatDoorKVb
import Derived.Test.YtfflpeklkfjdnaaGreatDoorKVk
import Derived.Test.YtfflpeklkfjdnaaGreatDoorKNd
set_option linter.unusedSimpArgs false
set_option linter.unusedVariables false
set_option linter.unusedSectionVars false
namespace Go.Proofs.YtfflpeklkfjdnaaGreatDoor
open Go Go.RowKit Go.ChangeMaps Un
section
variable {w : World}
set_option maxRecDepth 100000 in
set_option maxHeartbeats 1000000 in
theorem numbering_C : Calls Tryz.prog 63 #[] w fun e w' => e = .returned (.func (.func 124) #[] #[.pointer (some ⟨w.heap.size + 1, 0, none⟩)]) ∧ NB w' (w.heap.size + 1) w.heap.size [] ∧ Below w.heap.size w w' := by
  have hmf : ∀ (fn : Fn) (first cap : Array Value) (w : World), (Instr.makeFunc fn first cap).run Tryz.prog w = .ok (.func fn first cap) w := fun _ _ _ _ => rfl
  have hmm := @run_makeMap Tryz.prog
  go_enter Tryz.func63, Tryz.ntmps63
  go_wp2_with fail
  go_ret
  refine ⟨rfl, ⟨?_, ?_, by omega⟩, ((Below.refl _ _).alloc (Nat.le_refl _) _).alloc (by simp) _⟩
  · have := Bx.new (w.alloc (.map #[] 0)) #[.map (some w.heap.size)] 277
    simpa using this
  · exact (MS.new encI w).below ((Below.refl _ _).alloc (Nat.le_refl _) _)
set_option maxRecDepth 100000 in
set_option maxHeartbeats 1000000 in
theorem Types_C : Calls Tryz.prog 27 #[] w fun e w' => ∃ cb nb mb, e = .returned (.func (.func 64) #[] #[.pointer (some ⟨cb, 0, none⟩)]) ∧ Bx w' cb #[nbV nb] ∧ NB w' nb mb [] ∧ w.heap.size ≤ mb ∧ cb ≠ mb ∧ Below w.heap.size w w' := by
  have hmf : ∀ (fn : Fn) (first cap : Array Value) (w : World), (Instr.makeFunc fn first cap).run Tryz.prog w = .ok (.func fn first cap) w := fun _ _ _ _ => rfl
  go_enter Tryz.func27, Tryz.ntmps27
  go_wp2_with (go_at_call 63; refine numbering_C.mono ?_; rintro e w1 ⟨rfl, hN, hb⟩; have HN := hide hN; have HB := hide hb; clear hN hb)
  go_ret
  have hz := (unhide HN).lt
  have hb1 : Below w1.heap.size w1 (w1.alloc (.cells #[nbV (w.heap.size + 1)] 159)) := (Below.refl _ _).alloc (Nat.le_refl _) _
  exact ⟨w1.heap.size, w.heap.size + 1, w.heap.size, rfl, Bx.new _ _ _, (unhide HN).bel hb1, Nat.le_refl _, by omega, (unhide HB).trans (hb1.mono (unhide HB).size)⟩
def WritePost (nb mb : Nat) (a : List Nat) (T : Ty) (w : World) (e : Ending) (w' : World) : Prop :=
  e = .returned (.string (bs (wr dec (vars a T) T 0))) ∧ NB w' nb mb (vars a T) ∧ Fr (fun b => b = mb) w w'
set_option maxRecDepth 100000 in
set_option maxHeartbeats 2000000 in
theorem write_P (HAt : ∀ nd, WN nd → AtC nd) {nb mb cb : Nat} {a : List Nat} {P : Nat → Prop} {T : Ty} {v : Value} (hT : TyV w P T v) (hP : ∀ b, P b → b ≠ mb) (hN : NB w nb mb a) (hC : Bx w cb #[nbV nb]) (hcm : cb ≠ mb) (hW : Wf T) (hs : size T ≤ 48) (hv : (vars a T).length ≤ 48) :
    Calls Tryz.prog 64 #[v, .pointer (some ⟨cb, 0, none⟩)] w (WritePost nb mb a T w) := by
  have hlt := hN.lt
  have hcz := hC.z
  have HT := hide hT
  have HNB := hide hN
  have HCB := hide hC
  obtain ⟨tv, xv, rfl⟩ := hT.iface
  clear hT hN hC
  go_enter Tryz.func64, Tryz.ntmps64
  go_wp2_with fail
  refine newPen_C.mono ?_
  rintro e w1 ⟨rfl, ⟨mv, hPN⟩, hb1⟩
  have C1 := (unhide HCB).below hb1
  obtain ⟨c1, f1, z1⟩ := C1
  have zw1 := hPN.lt
  have HC := hide (spelled_C T w1 nb mb a P _ ((unhide HT).bel hb1) ((unhide HNB).bel hb1) hP hW hv (by simp [sizeL]; omega))
  go_wp2_with fail
  refine (unhide HC).mono ?_
  rintro e w2 ⟨u, rfl, hU, N2, F2⟩
  obtain ⟨tu, xu, rfl⟩ := hU.iface'
  have P2 : PN w2 w.heap.size w.heap.size (.slice none 0 0) [] ⟨#[]⟩ mv := hPN.same F2.size (fun b hb q => F2.block b hb (fun e => by
    rcases q with q | q
    · omega
    · simp [Value.ownBlock] at q))
  have hwn := WN.sp (unhide HT) hW (by omega) a (by omega)
  have hwl := wr_len (L := vars a T) (by omega) T hW 0
  have hnq : NQ w2 w.heap.size (fun b => w1.heap.size ≤ b ∧ b < w2.heap.size ∧ Nby w2 b) := fun b q => ⟨q.2.1, by omega, q.2.2⟩
  have hsp : sep ⟨#[]⟩ = [] := by unfold sep; rw [if_pos (Or.inl (toList_mk []))]
  have HA := hide (HAt _ hwn w2 w.heap.size w.heap.size _ [] ⟨#[]⟩ mv _ _ 0 P2 hU.by hnq (by omega) (by rw [hsp, wT_sp]; simp; omega) (Nat.le_refl _))
  rw [hsp, wT_sp] at HA
  clear HC
  go_wp2_with fail
  refine (unhide HA).mono ?_
  rintro e w3 ⟨rfl, bv3, last3, N3, fi3, F3⟩
  have hne := (unhide HT).wr_ne (vars a T)
  have HS := hide (string_C N3 (by simpa using hne))
  obtain ⟨ad, hbk, _⟩ := N3.bk
  clear HA
  go_wp2_with fail
  refine (unhide HS).mono ?_
  rintro e w4 ⟨rfl, F4⟩
  go_wp2_with fail
  go_ret
  have hlow : ∀ k, k < w.heap.size → k ≠ mb → w4.heap[k]? = w.heap[k]? := fun k hk hm => by
    have e1 := hb1.block k hk
    have e2 := F2.block k (by omega) hm
    have e3 := F3.block k (by have := F2.size; omega) (by omega) (Or.inl hk)
    have e4 := F4.block k (by have := F2.size; have := F3.size; omega) (fun q => by
      rcases q with q | q
      · omega
      · have := (own_block N3.ow k q).1; omega)
    exact e4.trans (e3.trans (e2.trans e1))
  have hmb : w4.heap[mb]? = w2.heap[mb]? := by
    have e3 := F3.block mb (by have := F2.size; omega) (by omega) (Or.inl hlt.2)
    have e4 := F4.block mb (by have := F2.size; have := F3.size; omega) (fun q => by
      rcases q with q | q
      · omega
      · have := (own_block N3.ow mb q).1; omega)
    exact e4.trans e3
  have hs4 : w.heap.size ≤ w4.heap.size := Nat.le_trans hb1.size (Nat.le_trans F2.size (Nat.le_trans F3.size F4.size))
  refine ⟨by simp, ⟨?_, N2.mp.same hmb, N2.ne⟩, ⟨?_, ?_, ?_, hs4, hlow⟩⟩
  · exact N2.bk.same (Nat.le_trans F3.size F4.size) (by
      have e2 := F2.block nb (by omega) N2.ne
      have e1 := hb1.block nb hlt.1
      rw [hlow nb hlt.1 N2.ne, ← e1, ← e2])
  · exact F4.os.trans (F3.os.trans (F2.os.trans hb1.os))
  · exact F4.tape.trans (F3.tape.trans (F2.tape.trans hb1.tape))
  · exact F4.output.trans (F3.output.trans (F2.output.trans hb1.output))
end
end Go.Proofs.YtfflpeklkfjdnaaGreatDoor
namespace Go.Proofs.YtfflpeklkfjdnaaGreatDoor
open Go Go.RowKit Go.ChangeMaps Un
theorem meanL_appQ : ∀ (ns : List ByteArray) (x y : List Nd), (meanL ns (x ++ y)).1 = (meanL ns x).1 ++ (meanL (meanL ns x).2 y).1
  | ns, [], y => rfl
  | ns, t :: x, y => by simp [meanL, meanL_appQ (mean ns t).2 x y]
theorem mean_wf {nd : Nd} (h : TyNd nd) : ∀ ns, Wf (mean ns nd).1 := by
  induction h with
  | var s n f t a => intro ns; simp [mean, Wf]
  | two k s n x y f t a hk hx hy ihx ihy =>
    intro ns
    rcases hk with rfl | rfl
    · simp only [mean, conN, show ¬ (17 = 16) by decide, if_false, if_true, meanL, Wf]
      exact ⟨⟨by decide, fun _ => rfl⟩, ihx ns, ihy _, trivial⟩
    · simp only [mean, conN, show ¬ (6 = 16) by decide, show ¬ (6 = 17) by decide, if_false, if_true, meanL, Wf]
      exact ⟨⟨by decide, fun _ => rfl⟩, ihx ns, ihy _, trivial⟩
  | up s n L f t a hw hl hL ih =>
    intro ns
    simp only [mean, conN, show ¬ (2 = 16) by decide, show ¬ (2 = 17) by decide, show ¬ (2 = 6) by decide, if_false, Wf]
    refine ⟨hw _, ?_⟩
    rw [WfL_iff]
    intro t ht
    obtain ⟨i, hi, rfl⟩ := List.getElem_of_mem ht
    rw [meanL_len'] at hi
    obtain ⟨h1, h2⟩ := meanL_takeQ ns L i hi
    have hlen : (meanL ns (L.take i)).1.length = i := by rw [meanL_len']; simp; omega
    have e : (meanL ns L).1[i]? = some (mean (meanL ns (L.take i)).2 L[i]).1 := by
      have e2 : (meanL ns L).1[i]? = (meanL ns (L.take (i + 1))).1[i]? := by
        have := meanL_appQ ns (L.take (i + 1)) (L.drop (i + 1))
        rw [List.take_append_drop] at this
        rw [this, List.getElem?_append_left (by rw [meanL_len']; simp; omega)]
      rw [e2, h1, List.getElem?_append_right (by omega), hlen]
      simp
    rw [List.getElem?_eq_getElem (by rw [meanL_len']; exact hi)] at e
    rw [Option.some.inj e]
    exact ih i hi _
theorem Fr.low' {S : Nat → Prop} {n : Nat} {a b c : World} (h : Below n a b) (hn : n ≤ b.heap.size) (k : Fr S b c) (hS : ∀ x, S x → n ≤ x) : Below n a c :=
  ⟨k.os.trans h.os, k.tape.trans h.tape, k.output.trans h.output, Nat.le_trans h.size k.size, fun i hi => (k.block i (by omega) (fun q => by have := hS i q; omega)).trans (h.block i hi)⟩
def CanonP (s : ByteArray) (w : World) (e : Ending) (w' : World) : Prop := e = .returned (.tuple #[.string (bs (canonA s).1), flV (canonA s).2]) ∧ Below w.heap.size w w'
section
variable {w : World}
set_option maxRecDepth 100000 in
set_option maxHeartbeats 2000000 in
theorem Canon_P (HAt : ∀ nd, WN nd → AtC nd) (hL : Laid w) (s : ByteArray) : Calls Tryz.prog 9 #[.string s] w (CanonP s w) := by
  have hb0 : Below w.heap.size w (w.alloc (.cells zF 34)) := (Below.refl _ _).alloc (Nat.le_refl _) _
  have B0 := Bx.new w zF 34
  have hb1 : Below w.heap.size w ((w.alloc (.cells zF 34)).alloc (.cells #[.int .i64 0] 3)) := hb0.alloc (by simp) _
  have B1 := B0.alloc (.cells #[.int .i64 0] 3)
  have C1 : Bx ((w.alloc (.cells zF 34)).alloc (.cells #[.int .i64 0] 3)) (w.heap.size + 1) #[.int .i64 0] := by have := Bx.new (w.alloc (.cells zF 34)) #[.int .i64 0] 3; simpa using this
  go_enter Tryz.func9, Tryz.ntmps9
  go_wp2_with (go_at_call 26; refine Fresh_C.mono ?_; rintro e w' ⟨rfl, rfl⟩)
  refine (Names_C (w.heap.size + 1) C1).mono ?_
  rintro e w2 ⟨kb, fb, mb, rfl, N2, hb2, hmb⟩
  have HB2 := hb1.trans (hb2.mono hb1.size)
  have B2 := B1.below hb2
  have HC := hide (readType_C (hL.bel HB2) N2 (by simp) s)
  clear B0 B1 C1 hb0
  go_wp2_with fail
  refine (unhide HC).mono ?_
  rintro e w3 ⟨v, f, rfl, F3, hp⟩
  simp at hmb
  have hS : ∀ x, Two (w.heap.size + 1) mb x → w.heap.size ≤ x := fun x q => by rcases q with q | q <;> omega
  have HB3 := Fr.low' HB2 HB2.size F3 hS
  have B3 := B2.fr F3 (fun q => by rcases q with q | q <;> omega)
  have hb4 : Below w3.heap.size w3 (w3.alloc (.cells #[.int .i64 (f.kind : Int), .int .i64 (f.frm : Int), .int .i64 (f.to : Int)] 34)) := (Below.refl _ _).alloc (Nat.le_refl _) _
  have HB4 := HB3.trans (hb4.mono HB3.size)
  have B4 := hide (B3.below hb4)
  have L4 := hide (Bx.new w3 #[.int .i64 (f.kind : Int), .int .i64 (f.frm : Int), .int .i64 (f.to : Int)] 34)
  obtain ⟨c4, f4, z4⟩ := unhide B4
  obtain ⟨d4, g4, y4⟩ := unhide L4
  unfold flV
  clear HC
  rcases hp with ⟨hk, hp⟩ | ⟨rfl, a, hr, hsz, N3, hcn, T3⟩
  · have hk' : ((f.kind : Int) == 0) = false := by simp; omega
    have hca : canonA s = ([], f) := by
      unfold canonA
      rcases hp with hp | ⟨a, hr, hsz, rfl⟩
      · rw [hp]
      · rw [hr]; simp [hsz]
    have B5 := hide (((unhide B4).set3' rfl (.int .i64 (f.kind : Int)) (.int .i64 (f.frm : Int)) (.int .i64 (f.to : Int))).drew')
    go_wp2_with fail
    go_region
    go_wp2_with fail
    obtain ⟨c5, f5, z5⟩ := unhide B5
    refine bodyPost_ret (v := .tuple #[.string (bs []), flV f]) (by simp [results, Tryz.results9, go_sem, flV, c5, bs]) rfl ?_
    unfold CanonP
    rw [hca]
    exact ⟨rfl, (((HB4.setCell (p := ⟨w.heap.size, 0, none⟩) (Nat.le_refl _) _).setCell (p := ⟨w.heap.size, 1, none⟩) (Nat.le_refl _) _).setCell (p := ⟨w.heap.size, 2, none⟩) (Nat.le_refl _) _).drew⟩
  · obtain ⟨tv, xv, rfl⟩ := T3.iface
    have hca : canonA s = (Un.written dec (mean [] a).1, noFl) := by
      unfold canonA
      rw [hr]
      simp [hsz]
    obtain ⟨hTy, _, _⟩ := readT_ty hr
    have hW := mean_wf hTy []
    have T4 := hide (T3.bel hb4)
    have hvs := vars_len (mean [] a).1 []
    simp only [noFl] at *
    go_wp2_with fail
    refine Types_C.mono ?_
    rintro e w5 ⟨cb5, nb5, mb5, rfl, C5, N5, hm5, hcm5, hb5⟩
    have HB5 := HB4.trans (hb5.mono HB4.size)
    have B5 := (unhide B4).below hb5
    have zw := HB3.size
    simp at hm5
    have T5 := (unhide T4).low.bel hb5
    have HWr := hide (write_P HAt T5 (fun b p => by have := p.2; simp at this; omega) N5 C5 hcm5 hW (by omega) (by simp at hvs; omega))
    go_wp2_with fail
    refine (unhide HWr).mono ?_
    rintro e w6 ⟨rfl, N6, F6⟩
    have HB6 := Fr.low' HB5 HB5.size F6 (fun x q => by subst q; omega)
    have B6 := B5.fr F6 (by show ¬ w.heap.size = mb5; omega)
    have B7 := hide (B6.set3' rfl (.int .i64 0) (.int .i64 0) (.int .i64 0))
    obtain ⟨c6, f6, z6⟩ := B6
    go_wp2_with fail
    obtain ⟨c7, f7, z7⟩ := unhide B7
    refine bodyPost_ret (v := .tuple #[.string (bs (wr dec (vars [] (mean [] a).1) (mean [] a).1 0)), flV noFl]) (by simp [results, Tryz.results9, go_sem, flV, c7, noFl]) rfl ?_
    unfold CanonP
    rw [hca]
    exact ⟨rfl, ((HB6.setCell (p := ⟨w.heap.size, 0, none⟩) (Nat.le_refl _) _).setCell (p := ⟨w.heap.size, 1, none⟩) (Nat.le_refl _) _).setCell (p := ⟨w.heap.size, 2, none⟩) (Nat.le_refl _) _⟩
end
end Go.Proofs.YtfflpeklkfjdnaaGreatDoor
namespace Go.Proofs.YtfflpeklkfjdnaaGreatDoor
open Go Go.RowKit Go.ChangeMaps Un
theorem at_all (nd : Nd) (h : WN nd) : AtC nd := by
  induction h with
  | var s n f t a h => exact typeAt_C (bare_var s n f t a h)
  | fn s n x y f t a hx hy ihx ihy => exact typeAt_C (bare_fn s n x y f t a ihx ihy)
  | pr s n x y f t a hx hy ihx ihy => exact typeAt_C (bare_pr s n x y f t a ihx ihy)
  | up s n L f t a h hl hL ih => exact typeAt_C (bare_up s n L f t a h hl ih)
/-- The project's Canon answers as the document says. -/
theorem CanonP_C {w : World} (hL : Laid w) (s : ByteArray) : Calls Tryz.prog 9 #[.string s] w (CanonP s w) := Canon_P at_all hL s
end Go.Proofs.YtfflpeklkfjdnaaGreatDoor
namespace Go.Proofs.YtfflpeklkfjdnaaGreatDoor
open Go Go.RowKit Go.ChangeMaps Un
abbrev vfV (kb : Nat) : Value := .func (.func 136) #[] #[.pointer (some ⟨kb, 0, none⟩), .pointer (some ⟨lvB kb, 0, none⟩)]
def Ns.none : Ns := ⟨[], fun _ => Option.none, fun _ => 0, fun _ => (Option.none, 0), fun _ => .var 0, []⟩
section
variable {w : World} {kb mb : Nat} {G : Ns}
set_option maxRecDepth 100000 in
set_option maxHeartbeats 1000000 in
theorem Variables_C : Calls Tryz.prog 72 #[.int .i64 0] w fun e w' => ∃ kb mb, e = .returned (vfV kb) ∧ VN w' kb mb Ns.none ∧ Below w.heap.size w w' ∧ w.heap.size ≤ mb := by
  have hmf : ∀ (fn : Fn) (first cap : Array Value) (w : World), (Instr.makeFunc fn first cap).run Tryz.prog w = .ok (.func fn first cap) w := fun _ _ _ _ => rfl
  have hmm := @run_makeMap Tryz.prog
  go_enter Tryz.func72, Tryz.ntmps72
  go_wp2_with fail
  go_ret
  have hb0 := (((Below.refl w.heap.size w).alloc (Nat.le_refl _) (.cells #[.int .i64 0] 3)).alloc (by simp) (.map #[] 0)).alloc (by simp; omega) (.cells #[.map (some (w.heap.size + 1))] 286)
  have e1 : lvB (w.heap.size + 1 + 1) = w.heap.size := rfl
  refine ⟨w.heap.size + 1 + 1, w.heap.size + 1, rfl, ⟨?_, ?_, ⟨fun n hn => ?_, fun n _ => ⟨rfl, rfl⟩, fun n _ => ⟨n, .here rfl⟩⟩, ⟨fun n hn => ?_, fun n c l e => ?_, fun m n hm => ?_⟩, fun n => ?_, ?_, ?_, ?_, ?_, ?_⟩, hb0, by omega⟩
  · have := Bx.new ((w.alloc (.cells #[.int .i64 0] 3)).alloc (.map #[] 0)) #[.map (some (w.heap.size + 1))] 286
    simpa using this
  · have := (MS.new (fun n : Int => Value.int .i64 n) (w.alloc (.cells #[.int .i64 0] 3))).below ((Below.refl _ _).alloc (Nat.le_refl _) (.cells #[.map (some (w.heap.size + 1))] 286))
    simpa [Ns.none, vlL] using this
  · simp [Ns.none] at hn
  · simp [Ns.none] at hn
  · simp [Ns.none] at e
  · simp [Ns.none] at hm
  · simp [Ns.none]
  · simp [Ns.none]
  · simp [Ns.none]
  · rw [e1]; exact ((Bx.new w #[.int .i64 0] 3).alloc _).alloc _
  · simp [Ns.none]
  · rw [e1]; omega
end
/-- That nodes.Of keeps its promise. -/
def OfN (T : Ty) : Prop := ∀ (w : World) (kb mb : Nat) (G : Ns) (Q : Nat → Prop) (v : Value), VN w kb mb G → TyV w Q T v → (∀ b, Q b → b ≠ mb) → size T ≤ 1000 → Wf T → Calls Tryz.prog 73 #[v, .int .i64 0, vfV kb] w (VarPost kb mb G T w)
theorem gnodeInfo : (Tryz.prog.info? 172).map (fun i => (i.zero, i.size, i.bytes)) = some (some (.pointer none), 1, 8) := by kernel_rfl
theorem gnodesUnder : Tryz.prog.underlying 289 = some (.slice 172) := by kernel_rfl
/-- What holds ahead of each round of Of. -/
def OfRel (kb mb : Nat) (G : Ns) (c : ByteArray) (L : List Ty) (sa : Option Addr) (sc : Nat) (w : World) (gk : Nat) (v : Value) (wr : World) : Prop :=
  ∃ (j : Nat) (C : Array Value) (G' : Ns) (l : List Nat), Hid (gk = L.length - j) ∧ j ≤ L.length ∧ v = .int .i64 (j : Int) ∧ VN wr kb mb G' ∧ G.Le G' ∧ Fr (IsM mb) w wr ∧ Bx wr w.heap.size #[.string (pn c), .slice sa L.length sc] ∧ Bx wr (w.heap.size + 1) C ∧ Hid (C.size = L.length) ∧
    Hid (Ns.New (w.heap.size + 2) G G' ∧ l.length = j ∧ (∀ m ∈ l, m ∈ G'.ds) ∧ l.map G'.ty = L.take j ∧ ∀ i (h : i < l.length), C[i]? = some (nA l[i]))
theorem sizeL_len : ∀ (L : List Ty), L.length ≤ sizeL L
  | [] => Nat.zero_le _
  | t :: l => by have := sizeL_len l; have := size_pos t; simp [sizeL]; omega
section
variable {w : World} {kb mb : Nat} {G : Ns} {Q : Nat → Prop}
set_option maxRecDepth 100000 in
set_option maxHeartbeats 1000000 in
theorem ofVar_C (n : Nat) : OfN (.var n) := by
  intro w kb mb G Q v h hv hQ hs hwf
  cases hv
  have h1 := taT_VV
  have HC := varOf_C h n
  go_enter Tryz.func73, Tryz.ntmps73
  go_wp2_with fail
  refine HC.mono ?_
  rintro e w1 ⟨m, G', rfl, r⟩
  go_wp2_with fail
  go_ret
  exact ⟨m, G', rfl, r⟩
theorem nds_map {G G' : Ns} (h : G.Le G') {l : List Nat} (hl : ∀ m ∈ l, m ∈ G.ds) : l.map G'.ty = l.map G.ty := by
  apply List.map_congr_left
  intro m hm
  exact (h m (hl m hm)).2
set_option maxRecDepth 100000 in
set_option maxHeartbeats 2000000 in
theorem ofCon_C (c : ByteArray) (L : List Ty) (IH : ∀ i (h : i < L.length), OfN L[i]) : OfN (.con c L) := by
  intro w kb mb G Q v h hv hQ hs hwf
  cases hv with
  | con _ _ sa sc vs hcn hrow hr =>
  have hL : L.length ≤ 1001 := by have := sizeL_len L; simp [size] at hs; omega
  have hsz : ∀ i (h : i < L.length), size L[i] ≤ 1000 := fun i hi => by have := size_mem (List.getElem_mem hi); simp [size] at hs; omega
  obtain ⟨i0, hi0, hz0, hz1, hz2⟩ := info_parts gnodeInfo
  have hmk := run_make1 (by_ := 8) gnodesUnder hi0 hz0 rfl hz1 hz2 (by decide) L.length hL
  have t1 := taT_MV
  have t2 := taT_MM
  have zk := h.bk.z
  have zl := h.lv.z
  have lm := h.lm
  have zm := h.mp.lt
  have HN := hide h
  have HR := hide hr
  have HI := hide IH
  have HW := hide hrow
  have HS := hide hsz
  have HWF := hide ((WfL_iff L).1 hwf.2)
  have HWT := hide hwf
  clear hwf
  clear h hr IH hrow hsz hs
  go_enter Tryz.func73, Tryz.ntmps73
  go_wp2_with fail
  go_loopg [29] L.length (fun gk v wr => OfRel kb mb G c L sa sc w gk v wr)
  case atStart =>
    have hb0 := ((Below.refl w.heap.size w).alloc (Nat.le_refl _) (.cells #[.string (pn c), .slice sa L.length sc] 275)).alloc (by simp) (.cells (Array.replicate L.length (.pointer none)) 172)
    refine ⟨0, Array.replicate L.length (.pointer none), G, [], hide (by simp), Nat.zero_le _, rfl, (unhide HN).fr (S := fun _ => False) (Fr.of hb0) (fun _ q => q.elim), Ns.Le.refl _, Fr.of hb0, (Bx.new w _ _).alloc _, ?_, hide (by simp), hide ⟨Ns.New.refl _ _, rfl, by simp, by simp, fun i hi => by simp at hi⟩⟩
    have := Bx.new (w.alloc (.cells #[.string (pn c), .slice sa L.length sc] 275)) (Array.replicate L.length (.pointer none)) 172
    simpa using this
  case round =>
    obtain ⟨j, C, G1, l, hgk, hj, rfl, N1, L1, F1, B0, B1, hC, hT⟩ := hrel
    have zw := F1.size
    have zb := B1.z
    by_cases hjl : j < L.length
    · have hd : (j : Int) < (L.length : Int) := by omega
      obtain ⟨g, rfl, hg, hgz, hcell⟩ : ∃ g, sa = some ⟨g, 0, none⟩ ∧ Q g ∧ g < w.heap.size ∧ ∀ i, i < L.length → w.cell? ⟨g, i, none⟩ = some (vs i) := by
        rcases unhide HW with h0 | h0
        · subst h0; simp at hjl
        · exact h0
      have cg : wr.cell? ⟨g, j, none⟩ = some (vs j) := by
        rw [World.cell?_of_block (a := ⟨g, j, none⟩) (w := w) (F1.block g hgz (fun q => hQ g hg q))]
        exact hcell j hjl
      have PJ := (unhide HR j hjl).fr F1 (fun b p _ q => hQ b p q)
      obtain ⟨tv, xv, hv⟩ := PJ.iface
      have HC := unhide HI j hjl wr kb mb G1 Q (vs j) N1 PJ hQ (unhide HS j hjl) (unhide HWF L[j] (List.getElem_mem hjl))
      rw [hv] at cg HC
      go_wp2_with fail
      refine HC.mono ?_
      rintro e w1 ⟨m, G2, rfl, N2, L2, hm, hty, F2, hnew⟩
      have mr : w.heap.size + 1 ≠ mb := by omega
      have B2 := B1.fr F2 (fun q => mr q)
      have B02 := B0.fr F2 (fun q => by have q : w.heap.size = mb := q; omega)
      have hjC : j < C.size := by rw [unhide hC]; exact hjl
      have cj : w1.cell? ⟨w.heap.size + 1, j, none⟩ = some C[j] := (B2.c j).trans (Array.getElem?_eq_getElem hjC)
      have fj := B2.f j
      have B3 := hide (B2.setS' j (nA m) (C.setIfInBounds j (nA m)) rfl hjC)
      have B03 := hide (B02.setO'' (b2 := w.heap.size + 1) (by omega) j (nA m))
      have HN2 := hide N2
      have HL2 := hide L2
      have HF2 := hide (F1.trans F2)
      have HT2 := hide hty
      have HX := hide hnew
      have HM := hide hm
      have z2 := F2.size
      clear HC N2 L2 F2 B2 B02 cg PJ hty hnew hm
      go_wp2_with fail
      go_roundg (L.length - (j + 1))
      case measure => rw [unhide hgk]; omega
      case rel =>
        obtain ⟨x1, x2, x3, x4, x5⟩ := unhide hT
        have hrow : Ns.New (w.heap.size + 2) G G2 := x1.trans (unhide HX) (by omega)
        refine ⟨j + 1, C.setIfInBounds j (nA m), G2, l ++ [m], hide rfl, by omega, by go_num, ?_, L1.trans (unhide HL2), (unhide HF2).set (Or.inr (by omega)) j _, unhide B03, unhide B3, hide (by simp; exact unhide hC), hide ⟨hrow, by simp [x2], ?_, ?_, ?_⟩⟩
        · have n2 := unhide HN2
          have h0 := unhide HN
          refine n2.one (One.cell w1 (w.heap.size + 1) j (nA m)) (fun q => ?_) (by omega) (by omega) (by omega) (fun y hy c' l' g' e1 e2 e3 => ?_)
          · rcases hrow _ q with ⟨q, _⟩ | ⟨q, _⟩
            · have := (h0.gn.nd _ q).lt; omega
            · omega
          · rcases hrow y hy with ⟨q1, q2, q3⟩ | ⟨q1, q2⟩
            · have := h0.row q1 (q3 ▸ e1) e2 (q2 ▸ e3); omega
            · have := q2 g' e3; omega
        · intro y hy
          rcases List.mem_append.1 hy with q | q
          · exact (unhide HL2 y (x3 y q)).1
          · simp at q; subst q; exact unhide HM
        · rw [List.map_append, nds_map (unhide HL2) x3, x4, List.take_succ_eq_append_getElem hjl]
          simp [unhide HT2]
        · intro i hi
          by_cases e : i < j
          · rw [Array.getElem?_setIfInBounds_ne (by omega), x5 i (by omega), List.getElem_append_left (by omega)]
          · have e : i = j := by simp at hi; omega
            subst e
            rw [List.getElem_append_right (by omega)]
            simp [hjC]
    · have hd : decide ((j : Int) < (L.length : Int)) = false := by simp; omega
      have ej : j = L.length := by omega
      subst ej
      obtain ⟨x1, x2, x3, x4, x5⟩ := unhide hT
      rw [List.take_length] at x4
      have HX := hide (And.intro x1 (And.intro x2 (And.intro x3 (And.intro x4 x5))))
      have c0 : wr.cell? ⟨w.heap.size, 0, none⟩ = some (.string (pn c)) := B0.c 0
      clear x1 x2 x3 x4 x5 hT
      go_wp2_with (go_at_call 138; go_in)
      go_ret
      obtain ⟨x1, x2, x3, x4, x5⟩ := unhide HX
      have hz : ¬ wr.heap.size ∈ G1.ds := fun q => by have := (N1.gn.nd _ q).lt; omega
      have hzl : ¬ wr.heap.size ∈ G1.vl := fun q => hz ((N1.vs _).1 q).1
      have hb1 : Below wr.heap.size wr (wr.alloc (.cells #[.pointer none, .int .i64 0, .int .i64 0, .string (pn c), .slice (some ⟨w.heap.size + 1, 0, none⟩) L.length L.length] 294)) := (Below.refl _ _).alloc (Nat.le_refl _) _
      have F3 : Fr (IsM mb) wr (wr.alloc (.cells #[.pointer none, .int .i64 0, .int .i64 0, .string (pn c), .slice (some ⟨w.heap.size + 1, 0, none⟩) L.length L.length] 294)) := Fr.of hb1
      have B1' := B1.alloc (.cells #[.pointer none, .int .i64 0, .int .i64 0, .string (pn c), .slice (some ⟨w.heap.size + 1, 0, none⟩) L.length L.length] 294)
      have hrd : ¬ (w.heap.size + 1) ∈ G1.ds := fun q => by
        rcases x1 _ q with ⟨q, _⟩ | ⟨q, _⟩
        · have := ((unhide HN).gn.nd _ q).lt; omega
        · omega
      refine ⟨wr.heap.size, ⟨wr.heap.size :: G1.ds, Un.upd G1.str wr.heap.size (some (c, l)), Un.upd G1.vr wr.heap.size 0, Un.upd G1.ly wr.heap.size (some ⟨w.heap.size + 1, 0, none⟩, L.length), Un.upd G1.ty wr.heap.size (.con c (l.map G1.ty)), G1.vl⟩, rfl, ⟨N1.bk.alloc _, ?_, ?_, Of.addCon N1.of hz c l x3 0, ?_, ?_, ?_, N1.lv.alloc _, fun q => (List.mem_cons.1 q).elim (fun q => by omega) N1.ld, N1.lm⟩, ?_, by simp, ?_, F1.trans F3, ?_⟩
      · show MS _ _ mb (vlL (Un.upd G1.vr wr.heap.size 0) G1.vl)
        rw [vlL_upd hzl]
        exact N1.mp.below hb1
      · refine N1.gn.add F3.size (N1.keep F3) (Nat.le_refl _) (some (c, l)) 0 (some ⟨w.heap.size + 1, 0, none⟩, L.length) ?_ ⟨hcn, by omega, fun m hm => List.mem_cons_of_mem _ (x3 m hm), Or.inr ⟨w.heap.size + 1, rfl, ?_, B1'.z, fun i hi => (B1'.c i).trans (x5 i hi)⟩⟩
        · have := (MapKept.heap_alloc wr (.cells #[.pointer none, .int .i64 0, .int .i64 0, .string (pn c), .slice (some ⟨w.heap.size + 1, 0, none⟩) L.length L.length] 294)).1
          simp only [byS, slN, x2]
          exact this
        · intro q
          rcases List.mem_cons.1 q with q | q
          · omega
          · exact hrd q
      · intro x
        show x ∈ G1.vl ↔ x ∈ wr.heap.size :: G1.ds ∧ Un.upd G1.str wr.heap.size (some (c, l)) x = none
        by_cases e : x = wr.heap.size
        · subst e; simp [Un.upd, hzl]
        · simp [e, Un.upd, N1.vs x]
      · show ¬ kb ∈ wr.heap.size :: G1.ds
        intro q
        rcases List.mem_cons.1 q with q | q
        · omega
        · exact N1.kd q
      · intro x hx
        by_cases e : x = wr.heap.size
        · subst e
          simp only [Un.upd, if_true, x4]
          exact unhide HWT
        · simp only [Un.upd, e, if_false]
          exact N1.wf x ((List.mem_cons.1 hx).resolve_left e)
      · intro m hm
        obtain ⟨q1, q2⟩ := L1 m hm
        have : m ≠ wr.heap.size := fun e => hz (e ▸ q1)
        exact ⟨List.mem_cons_of_mem _ q1, by simp [Un.upd, this]; exact q2⟩
      · simp [Un.upd, x4]
      · intro m hm
        by_cases e : m = wr.heap.size
        · subst e
          refine Or.inr ⟨by omega, fun g q => ?_⟩
          simp [Un.upd] at q
          omega
        · have hm' : m ∈ G1.ds := (List.mem_cons.1 hm).resolve_left e
          rcases x1 m hm' with ⟨q1, q2, q3⟩ | ⟨q1, q2⟩
          · exact Or.inl ⟨q1, by simp [Un.upd, e, q2], by simp [Un.upd, e, q3]⟩
          · refine Or.inr ⟨by omega, fun g q => ?_⟩
            simp [Un.upd, e] at q
            have := q2 g q
            omega
end
mutual
/-- nodes.Of makes nodes of a type. -/
theorem OfN_C : ∀ T : Ty, OfN T
  | .var n => ofVar_C n
  | .con c L => ofCon_C c L (OfN_L L)
theorem OfN_L : ∀ (L : List Ty) (i : Nat) (h : i < L.length), OfN L[i]
  | [], i, h => absurd h (Nat.not_lt_zero _)
  | t :: l, 0, h => OfN_C t
  | t :: l, i + 1, h => OfN_L l i (by simpa using h)
end
end Go.Proofs.YtfflpeklkfjdnaaGreatDoor
namespace Go.Proofs.YtfflpeklkfjdnaaGreatDoor
open Go Go.RowKit Go.ChangeMaps Un
theorem all2_imp {α β : Type} {E E' : α → β → Prop} (h : ∀ a b, E a b → E' a b) : ∀ {l : List α} {k : List β}, All2 E l k → All2 E' l k
  | _, _, .nil => .nil
  | _, _, .cons p q => .cons (h _ _ p) (all2_imp h q)
theorem all2_at {α β : Type} {E : α → β → Prop} : ∀ {l : List α} {k : List β}, All2 E l k → ∀ i (h : i < l.length) (h' : i < k.length), E l[i] k[i]
  | _, _, .nil, i, h, _ => absurd h (Nat.not_lt_zero _)
  | _, _, .cons p _, 0, _, _ => p
  | _, _, .cons _ q, i + 1, h, h' => all2_at q i (by simpa using h) (by simpa using h')
theorem all2_len {α β : Type} {E : α → β → Prop} : ∀ {l : List α} {k : List β}, All2 E l k → l.length = k.length
  | _, _, .nil => rfl
  | _, _, .cons _ q => by simp [all2_len q]
theorem Fin.eqv {str : Str} {nx nx' : Nx} {vr : Nat → Nat} {F : Nat → Prop} {V : Nat → Ty} (h : Un.Fin str nx vr F V) (e : Eqv str nx nx') : Un.Fin str nx' vr F V := by
  intro x hx
  obtain ⟨h1, h2⟩ := h x hx
  refine ⟨(e.non x).2 h1, ?_⟩
  cases hs : str x with
  | none => rw [hs] at h2; exact h2
  | some p =>
    obtain ⟨c, l⟩ := p
    rw [hs] at h2
    obtain ⟨hs', a, b, d⟩ := h2
    exact ⟨hs', all2_imp (fun x y q => e.hds x y q) a, b, d⟩
theorem GN.one {w w' : World} {b : Nat} {ds : List Nat} {str : Str} {nx : Nx} {vr : Nat → Nat} {ly : Nat → Option Addr × Nat} (h : GN w ds str nx vr ly) (o : One b w w') (h1 : ¬ b ∈ ds) (h4 : ∀ m ∈ ds, ∀ c l g, str m = some (c, l) → l ≠ [] → (ly m).1 = some ⟨g, 0, none⟩ → g ≠ b) : GN w' ds str nx vr ly := by
  refine ⟨fun n hn => ?_, h.out, h.hd⟩
  obtain ⟨p1, p2, p3⟩ := h.nd n hn
  have hne : n ≠ b := fun e => h1 (e ▸ hn)
  refine ⟨(o.block n hne).trans p1, ?_, p3⟩
  have h5 := h4 n hn
  cases hs : str n with
  | none => trivial
  | some p =>
    obtain ⟨c, l⟩ := p
    rw [hs] at p2
    obtain ⟨q1, q2, q3, q4⟩ := p2
    refine ⟨q1, q2, q3, ?_⟩
    by_cases e : l = []
    · exact Or.inl e
    · obtain ⟨g, r1, r2, r3, r4⟩ := q4.resolve_left e
      have hg := h5 c l g hs e r1
      refine Or.inr ⟨g, r1, r2, by rw [o.size]; exact r3, fun i hi => ?_⟩
      rw [World.cell?_of_block (a := ⟨g, i, none⟩) (w := w) (o.block g hg)]
      exact r4 i hi
theorem GN.rowlt {w : World} {ds : List Nat} {str : Str} {nx : Nx} {vr : Nat → Nat} {ly : Nat → Option Addr × Nat} (h : GN w ds str nx vr ly) {m : Nat} (hm : m ∈ ds) {c : ByteArray} {l : List Nat} {g : Nat} (hs : str m = some (c, l)) (hl : l ≠ []) (hg : (ly m).1 = some ⟨g, 0, none⟩) : g < w.heap.size := by
  obtain ⟨_, p2, _⟩ := h.nd m hm
  rw [hs] at p2
  obtain ⟨g', r1, _, r3, _⟩ := p2.2.2.2.resolve_left hl
  rw [hg] at r1
  injection r1 with r1
  injection r1 with r1
  subst r1
  exact r3
def TypePost (ds : List Nat) (str : Str) (nx : Nx) (vr : Nat → Nat) (ly : Nat → Option Addr × Nat) (T : Ty) (w : World) (e : Ending) (w' : World) : Prop :=
  ∃ u nx', e = .returned u ∧ TyV w' (fun b => w.heap.size ≤ b) T u ∧ GN w' ds str nx' vr ly ∧ Eqv str nx nx' ∧ Fr (fun b => b ∈ ds) w w'
def TypeC (ds : List Nat) (str : Str) (vr : Nat → Nat) (ly : Nat → Option Addr × Nat) (F : Nat → Prop) (V : Nat → Ty) (k : Nat) : Prop :=
  ∀ (w : World) (nx : Nx) (n h : Nat), GN w ds str nx vr ly → Un.Fin str nx vr F V → n ∈ ds → Hd nx n h → F h → size (V h) ≤ k → Calls Tryz.prog 76 #[nA n] w (TypePost ds str nx vr ly (V h) w)
/-- What holds ahead of each round of Type. -/
def TypeRel (ds : List Nat) (str : Str) (nx : Nx) (vr : Nat → Nat) (ly : Nat → Option Addr × Nat) (N : Nat) (L : List Ty) (w : World) (gk : Nat) (v : Value) (wr : World) : Prop :=
  ∃ (j : Nat) (C : Array Value) (nxj : Nx), Hid (gk = N - j) ∧ j ≤ N ∧ v = .int .i64 (j : Int) ∧ GN wr ds str nxj vr ly ∧ Eqv str nx nxj ∧ Fr (fun b => b ∈ ds) w wr ∧ Bx wr w.heap.size C ∧ Hid (C.size = N) ∧
    Hid (∀ i (h : i < L.length), i < j → ∃ u, C[i]? = some u ∧ TyV wr (fun b => w.heap.size < b ∧ b < wr.heap.size) L[i] u)
section
variable {ds : List Nat} {str : Str} {vr : Nat → Nat} {ly : Nat → Option Addr × Nat} {F : Nat → Prop} {V : Nat → Ty} {k : Nat}
set_option maxRecDepth 100000 in
set_option maxHeartbeats 4000000 in
theorem type_step (IH : TypeC ds str vr ly F V k) : TypeC ds str vr ly F V (k + 1) := by
  intro w nx n h G0 hF hn hd hFh hsz
  have hh : h ∈ ds := G0.hd_mem hn hd
  have HC := hide (head_P G0 hn hd)
  go_enter Tryz.func76, Tryz.ntmps76
  go_wp2_with fail
  refine (unhide HC).mono ?_
  rintro e w1 ⟨rfl, nx1, G1, F1, E1, z1⟩
  have hF1 := Fin.eqv hF E1
  obtain ⟨c0, f0, c2, c1, c3⟩ := (G1.nd h hh).cells
  have hPa := (G1.nd h hh).2.1
  obtain ⟨_, hV⟩ := hF1 h hFh
  have hlow : ∀ x ∈ ds, x < w1.heap.size := fun x hx => (G1.nd x hx).lt
  clear HC G0 hF
  cases hs : str h with
  | none =>
    rw [hs] at c2 hV
    have c2' : w1.cell? ⟨h, 3, none⟩ = some (.string ⟨#[]⟩) := c2
    clear c2 c3 hPa
    have hV' : V h = .var (vr h) := hV
    clear hV
    go_wp2_with fail
    go_ret
    refine ⟨_, nx1, rfl, ?_, G1, E1, F1⟩
    rw [hV']
    exact .var _
  | some p =>
    obtain ⟨c, l⟩ := p
    rw [hs] at c2 hV c3 hPa
    obtain ⟨hcn, hl, hld, _⟩ := hPa
    have c2' : w1.cell? ⟨h, 3, none⟩ = some (.string (pn c)) := c2
    have c3' : w1.cell? ⟨h, 4, none⟩ = some (.slice (ly h).1 l.length (ly h).2) := c3
    have hne : ((pn c).toList == []) = false := by
      rw [← Bool.not_eq_true, beq_iff_eq]; exact pn_ne hcn
    obtain ⟨hs', a2, hF2, hVh⟩ := hV
    have hlen := all2_len a2
    obtain ⟨i0, hi0, hz0, hz1, hz2⟩ := info_parts refTypeInfo'
    have hmk := run_make1 (by_ := 16) typesUnder' hi0 hz0 rfl hz1 hz2 (by decide) l.length hl
    rw [hVh] at hsz
    have hszs : ∀ x ∈ hs', size (V x) ≤ k := fun x hx => by have := size_map_mem (V := V) hx; simp [size] at hsz; omega
    have HL := hide hlen
    have HZ := hide z1
    have HV := hide hVh
    obtain ⟨sa, HA⟩ : ∃ sa, Hid ((ly h).1 = sa) := ⟨_, hide rfl⟩
    rw [unhide HA] at c3'
    clear c2 c3 hlen z1 hVh
    go_wp2_with fail
    go_loopg [29] l.length (fun gk v wr => TypeRel ds str nx1 vr ly l.length (hs'.map V) w1 gk v wr)
    case atStart =>
      have hb0 : Below w1.heap.size w1 (w1.alloc (.cells (Array.replicate l.length .nilIface) 66)) := (Below.refl _ _).alloc (Nat.le_refl _) _
      refine ⟨0, Array.replicate l.length .nilIface, nx1, hide (by simp), Nat.zero_le _, rfl, G1.move hb0.size (fun b i v hc => hb0.block b (cell_lt hc)), Eqv.refl _ _, Fr.of hb0, Bx.new w1 _ _, hide (by simp), hide (fun i _ hi => absurd hi (Nat.not_lt_zero _))⟩
    case round =>
      obtain ⟨j, C, nxj, hgk, hj, rfl, GJ, EJ, FJ, BJ, hC, hT⟩ := hrel
      have zw := FJ.size
      have zb := BJ.z
      obtain ⟨d0, e0, d2, d1, d3⟩ := (GJ.nd h hh).cells
      rw [hs] at d2
      have d2' : wr.cell? ⟨h, 3, none⟩ = some (.string (pn c)) := d2
      clear d0 e0 d2 d1 d3 c0 f0 c1 c2' c3' hmk
      by_cases hjl : j < l.length
      · have hdj : (j : Int) < (l.length : Int) := by omega
        obtain ⟨ga, ea, cg, hga⟩ := GJ.row hh hs hjl
        have hjl' : j < hs'.length := by rw [← unhide HL]; exact hjl
        have hdh := EJ.hds _ _ (all2_at a2 j hjl hjl')
        have HC := IH wr nxj l[j] hs'[j] GJ (Fin.eqv hF1 EJ) (hld _ (List.getElem_mem hjl)) hdh (hF2 _ (List.getElem_mem hjl')) (hszs _ (List.getElem_mem hjl'))
        have ea' := (unhide HA).symm.trans ea
        subst ea'
        clear ea
        go_wp2_with fail
        refine HC.mono ?_
        rintro e w2 ⟨u, nx2, rfl, hU, G2, E2, F2⟩
        obtain ⟨tu, xu, rfl⟩ := hU.iface
        have hpb : ¬ w1.heap.size ∈ ds := fun q => by have := hlow _ q; omega
        have B2 := BJ.fr F2 hpb
        have hjC : j < C.size := by rw [unhide hC]; exact hjl
        have cj : w2.cell? ⟨w1.heap.size, j, none⟩ = some C[j] := (B2.c j).trans (Array.getElem?_eq_getElem hjC)
        have fj := B2.f j
        have B3 := hide (B2.setS' j (.iface tu xu) (C.setIfInBounds j (.iface tu xu)) rfl hjC)
        have HU := hide hU
        have HF := hide F2
        have HF2 := hide (FJ.trans F2)
        have HE := hide (EJ.trans E2)
        have z2 := F2.size
        have G3 := hide (G2.one (One.cell w2 w1.heap.size j (.iface tu xu)) hpb (fun m hm c' l' g' e1 e2 e3 => by have := G1.rowlt hm e1 e2 e3; omega))
        clear HC hU G2 E2 F2 B2 cg d2'
        go_wp2_with fail
        go_roundg (l.length - (j + 1))
        case measure => rw [unhide hgk]; omega
        case rel =>
          refine ⟨j + 1, C.setIfInBounds j (.iface tu xu), nx2, hide rfl, by omega, by go_num, unhide G3, unhide HE, (unhide HF2).set (Or.inr (Nat.le_refl _)) j _, unhide B3, hide (by simp; exact unhide hC), hide (fun i hi hij => ?_)⟩
          have hst : ∀ b, w1.heap.size < b → b < w2.heap.size → (w2.setCell ⟨w1.heap.size, j, none⟩ (.iface tu xu)).heap[b]? = w2.heap[b]? := fun b hb _ => Below.heap_setCell _ _ _ _ (by show b ≠ w1.heap.size; omega)
          have hss : (w2.setCell ⟨w1.heap.size, j, none⟩ (.iface tu xu)).heap.size = w2.heap.size := by simp [World.setCell]
          by_cases e : i = j
          · subst e
            refine ⟨.iface tu xu, by simp [hjC], ?_⟩
            rw [List.getElem_map]
            exact (unhide HU).low.move (by omega) (fun b p z => hst b (by have : wr.heap.size ≤ b := p.1; omega) z) (fun b p z => ⟨by have : wr.heap.size ≤ b := p.1; omega, by omega⟩)
          · obtain ⟨u', hu1, hu2⟩ := unhide hT i hi (by omega)
            refine ⟨u', by rw [Array.getElem?_setIfInBounds_ne (by omega)]; exact hu1, ?_⟩
            have h3 := hu2.fr (unhide HF) (fun b p _ q => by have := hlow _ q; omega)
            exact h3.move (by omega) (fun b p z => hst b p.1 z) (fun b p z => ⟨p.1, by omega⟩)
      · have hdj : decide ((j : Int) < (l.length : Int)) = false := by simp; omega
        have ej : j = l.length := by omega
        subst ej
        go_wp2_with fail
        go_ret
        refine ⟨_, nxj, rfl, ?_, GJ, E1.trans EJ, F1.trans FJ⟩
        have hlm : (hs'.map V).length = l.length := by rw [List.length_map]; exact (unhide HL).symm
        rw [unhide HV, ← hlm]
        have z1 := unhide HZ
        refine .con c _ _ _ (fun i => C.getD i .nilIface) hcn (Or.inr ⟨w1.heap.size, rfl, by show w.heap.size ≤ w1.heap.size; omega, zb, fun i hi => ?_⟩) (fun i hi => ?_)
        · obtain ⟨u, hu, _⟩ := unhide hT i hi (by omega)
          rw [BJ.c i, hu]
          simp [Array.getD_eq_getD_getElem?, hu]
        · obtain ⟨u, hu, hty⟩ := unhide hT i hi (by omega)
          have : C.getD i .nilIface = u := by simp [Array.getD_eq_getD_getElem?, hu]
          rw [this]
          exact hty.wide fun b p => by show w.heap.size ≤ b; omega
theorem Type_P : ∀ k, TypeC ds str vr ly F V k
  | 0 => fun w nx n h G hF hn hd hFh hsz => absurd hsz (by have := size_pos (V h); omega)
  | k + 1 => type_step (Type_P k)
end
end Go.Proofs.YtfflpeklkfjdnaaGreatDoor
namespace Go.Proofs.YtfflpeklkfjdnaaGreatDoor
open Go Go.RowKit Go.ChangeMaps Un
/-- How many nodes were not met yet. -/
def mu (M : List (Nat × Value)) : List Nat → Nat
  | [] => 0
  | x :: l => (if (got x M).isNone then 1 else 0) + mu M l
theorem mu_mono {M M' : List (Nat × Value)} (h : ∀ x, got x M' = none → got x M = none) : ∀ ds, mu M' ds ≤ mu M ds
  | [] => Nat.le_refl _
  | x :: l => by
    have := mu_mono h l
    unfold mu
    by_cases e : got x M' = none
    · simp [e, h x e]; exact this
    · have : (got x M').isNone = false := by cases q : got x M' with
        | none => exact absurd q e
        | some v => rfl
      simp [this]; omega
theorem mu_put {M : List (Nat × Value)} {h : Nat} (hn : got h M = none) (v : Value) : ∀ {ds : List Nat}, h ∈ ds → mu (putL h v M) ds < mu M ds
  | [], q => by simp at q
  | x :: l, q => by
    have hm := mu_mono (M := M) (M' := putL h v M) (fun y hy => by
      rw [got_putL] at hy
      split at hy
      · cases hy
      · exact hy)
    by_cases e : h = x
    · subst e
      have := hm l
      unfold mu
      rw [got_putL]
      simp [hn]
      omega
    · have hl : h ∈ l := (List.mem_cons.1 q).resolve_left e
      have := mu_put hn v hl
      unfold mu
      rw [got_putL]
      simp [e]
      omega
theorem got_key {M : List (Nat × Value)} {x : Nat} {v : Value} : got x M = some v → ∃ p ∈ M, p.1 = x := by
  induction M with
  | nil => intro h; cases h
  | cons p l ih =>
    intro h
    unfold got at h
    split at h
    · rename_i e; exact ⟨p, by simp, e⟩
    · obtain ⟨q, h1, h2⟩ := ih h; exact ⟨q, by simp [h1], h2⟩
theorem putL_key {M : List (Nat × Value)} {x : Nat} {v : Value} {p : Nat × Value} : p ∈ putL x v M → p ∈ M ∨ p.1 = x := by
  induction M with
  | nil => intro h; simp [putL] at h; exact Or.inr (by rw [h])
  | cons q l ih =>
    intro h
    unfold putL at h
    split at h
    · rcases List.mem_cons.1 h with h | h
      · exact Or.inr (by rw [h])
      · exact Or.inl (by simp [h])
    · rcases List.mem_cons.1 h with h | h
      · exact Or.inl (by simp [h])
      · exact (ih h).imp (fun q => by simp [q]) id
/-- What the map of sizes tells: the heads that were measured, and those that were begun. -/
structure SZ (ds : List Nat) (str : Str) (nx : Nx) (vr : Nat → Nat) (M : List (Nat × Value)) (F : Nat → Prop) (B : List Nat) (V : Nat → Ty) : Prop where
  fin : Un.Fin str nx vr F V
  fg : ∀ x, F x → got x M = some (.int .i64 ((min (size (V x)) 49 : Nat) : Int))
  bg : ∀ x ∈ B, got x M = some (.int .i64 0)
  gm : ∀ x v, got x M = some v → F x ∨ x ∈ B
  kd : ∀ p ∈ M, p.1 ∈ ds
section
variable {ds : List Nat} {str : Str} {nx nx' : Nx} {vr : Nat → Nat} {M : List (Nat × Value)} {F : Nat → Prop} {B : List Nat} {V : Nat → Ty}
theorem SZ.eqv (h : SZ ds str nx vr M F B V) (e : Eqv str nx nx') : SZ ds str nx' vr M F B V := ⟨Fin.eqv h.fin e, h.fg, h.bg, h.gm, h.kd⟩
theorem SZ.fd (h : SZ ds str nx vr M F B V) {x : Nat} (hx : F x) : x ∈ ds := by
  obtain ⟨p, h1, h2⟩ := got_key (h.fg x hx)
  exact h2 ▸ h.kd p h1
theorem min_pos (T : Ty) : (((min (size T) 49 : Nat)) : Int) ≠ 0 := by have := size_pos T; omega
theorem SZ.apart (h : SZ ds str nx vr M F B V) {x : Nat} (hx : F x) (hb : x ∈ B) : False := by
  have h1 := h.fg x hx
  rw [h.bg x hb] at h1
  injection h1 with h1
  injection h1 with _ h1
  exact min_pos _ h1.symm
theorem SZ.begin (h : SZ ds str nx vr M F B V) {x : Nat} (hd : x ∈ ds) (hn : got x M = none) : SZ ds str nx vr (putL x (.int .i64 0) M) F (x :: B) V := by
  refine ⟨h.fin, fun y hy => ?_, fun y hy => ?_, fun y v hy => ?_, fun p hp => ?_⟩
  · rw [got_putL, if_neg (fun e => by subst e; rw [h.fg _ hy] at hn; cases hn)]
    exact h.fg y hy
  · rw [got_putL]
    by_cases e : x = y
    · rw [if_pos e]
    · rw [if_neg e]
      exact h.bg y ((List.mem_cons.1 hy).resolve_left (fun q => e q.symm))
  · rw [got_putL] at hy
    by_cases e : x = y
    · subst e; exact Or.inr (by simp)
    · rw [if_neg e] at hy
      exact (h.gm y v hy).imp id fun q => by simp [q]
  · rcases putL_key hp with q | q
    · exact h.kd p q
    · rw [q]; exact hd
/-- A class was measured. -/
theorem SZ.done {x : Nat} (h : SZ ds str nx vr M F (x :: B) V) (hxB : ¬ x ∈ B) (hd : x ∈ ds) (hn : nx x = none) (T : Ty) (hT : match str x with
    | none => T = .var (vr x)
    | some (c, l) => ∃ hs, All2 (Hd nx) l hs ∧ (∀ y, y ∈ hs → F y) ∧ T = .con c (hs.map V)) :
    SZ ds str nx vr (putL x (.int .i64 ((min (size T) 49 : Nat) : Int)) M) (fun y => F y ∨ y = x) B (Un.upd V x T) := by
  have hne : ∀ y, F y → y ≠ x := fun y hy e => by subst e; exact h.apart hy (by simp)
  have hmap : ∀ hs : List Nat, (∀ y, y ∈ hs → F y) → hs.map (Un.upd V x T) = hs.map V := fun hs q => by
    apply List.map_congr_left
    intro y hy
    simp [Un.upd, hne y (q y hy)]
  refine ⟨fun y hy => ?_, fun y hy => ?_, fun y hy => ?_, fun y v hy => ?_, fun p hp => ?_⟩
  · by_cases e : y = x
    · subst e
      refine ⟨hn, ?_⟩
      cases hs : str y with
      | none => rw [hs] at hT; simpa [Un.upd] using hT
      | some p =>
        obtain ⟨c, l⟩ := p
        rw [hs] at hT
        obtain ⟨k, a, b, d⟩ := hT
        exact ⟨k, a, fun z hz => Or.inl (b z hz), by rw [hmap k b]; simp [Un.upd, d]⟩
    · have hy' : F y := hy.resolve_right e
      obtain ⟨h1, h2⟩ := h.fin y hy'
      refine ⟨h1, ?_⟩
      cases hs : str y with
      | none => rw [hs] at h2; simpa [Un.upd, e] using h2
      | some p =>
        obtain ⟨c, l⟩ := p
        rw [hs] at h2
        obtain ⟨k, a, b, d⟩ := h2
        exact ⟨k, a, fun z hz => Or.inl (b z hz), by rw [hmap k b]; simp [Un.upd, e, d]⟩
  · rw [got_putL]
    by_cases e : x = y
    · subst e; simp [Un.upd]
    · rw [if_neg e]
      have e' : y ≠ x := fun q => e q.symm
      simp only [Un.upd, e', if_false]
      exact h.fg y (hy.resolve_right e')
  · rw [got_putL, if_neg (fun e : x = y => hxB (e ▸ hy))]
    exact h.bg y (by simp [hy])
  · rw [got_putL] at hy
    by_cases e : x = y
    · exact Or.inl (Or.inr e.symm)
    · rw [if_neg e] at hy
      rcases h.gm y v hy with q | q
      · exact Or.inl (Or.inl q)
      · exact Or.inr ((List.mem_cons.1 q).resolve_left (fun q => e q.symm))
  · rcases putL_key hp with q | q
    · exact h.kd p q
    · rw [q]; exact hd
end
theorem hds_of {w : World} {ds : List Nat} {str : Str} {nx : Nx} {vr : Nat → Nat} {ly : Nat → Option Addr × Nat} (G : GN w ds str nx vr ly) : ∀ l : List Nat, (∀ m ∈ l, m ∈ ds) → ∃ hs, All2 (Hd nx) l hs
  | [], _ => ⟨[], .nil⟩
  | x :: l, h => by
    obtain ⟨y, hy⟩ := G.hd x (h x (by simp))
    obtain ⟨hs, q⟩ := hds_of G l fun m hm => h m (by simp [hm])
    exact ⟨y :: hs, .cons hy q⟩
abbrev encN : Nat → Value := fun b => Value.pointer (some ⟨b, 0, none⟩)
def SizePost (ds : List Nat) (str : Str) (nx : Nx) (vr : Nat → Nat) (ly : Nat → Option Addr × Nat) (sb : Nat) (M : List (Nat × Value)) (F : Nat → Prop) (B : List Nat) (V : Nat → Ty) (n : Nat) (w : World) (e : Ending) (w' : World) : Prop :=
  ∃ nx', GN w' ds str nx' vr ly ∧ Eqv str nx nx' ∧ Fr (fun b => b ∈ ds ∨ b = sb) w w' ∧
    ((∃ M' F' V' h, e = .returned (.tuple #[.int .i64 ((min (size (V' h)) 49 : Nat) : Int), .bool true]) ∧ Hd nx n h ∧ F' h ∧ (∀ x, F x → F' x ∧ V' x = V x) ∧ SZ ds str nx' vr M' F' B V' ∧ MS encN w' sb M' ∧ (∀ x, got x M' = none → got x M = none)) ∨
     (e = .returned (.tuple #[.int .i64 0, .bool false]) ∧ ∀ W, ¬ Sol str nx W))
def SizeNC (ds : List Nat) (str : Str) (vr : Nat → Nat) (ly : Nat → Option Addr × Nat) (sb : Nat) (k : Nat) : Prop :=
  ∀ (w : World) (nx : Nx) (M : List (Nat × Value)) (F : Nat → Prop) (B : List Nat) (V : Nat → Ty) (n : Nat), GN w ds str nx vr ly → SZ ds str nx vr M F B V → MS encN w sb M → n ∈ ds → (∀ W, Sol str nx W → ∀ b ∈ B, size (W n) < size (W b)) → mu M ds < k →
    Calls Tryz.prog 141 #[.agg #[.int .i64 48, .map (some sb)], nA n] w (SizePost ds str nx vr ly sb M F B V n w)
end Go.Proofs.YtfflpeklkfjdnaaGreatDoor
namespace Go.Proofs.YtfflpeklkfjdnaaGreatDoor
open Go Go.RowKit Go.ChangeMaps Un
theorem nodeInfoS : (Tryz.prog.info? 294).map (fun i => i.size) = some 5 := by kernel_rfl
theorem keyN : KL Tryz.prog 172 encN (fun w b => ∃ c t, w.heap[b]? = some (.cells c t (0, 0))) := by
  obtain ⟨j, hj, hs⟩ : ∃ j, Tryz.prog.info? 294 = some j ∧ j.size = 5 := by
    have := nodeInfoS
    cases h : Tryz.prog.info? 294 with
    | none => rw [h] at this; cases this
    | some j => rw [h] at this; exact ⟨j, rfl, Option.some.inj this⟩
  exact KL.ptr Tryz.underlying172 hj (by omega)
/-- What holds ahead of each round of size. -/
def SizRel (ds : List Nat) (str : Str) (nx : Nx) (vr : Nat → Nat) (ly : Nat → Option Addr × Nat) (sb bx : Nat) (M : List (Nat × Value)) (F : Nat → Prop) (B : List Nat) (V : Nat → Ty) (N : Nat) (hs : List Nat) (w : World) (gk : Nat) (u v : Value) (wr : World) : Prop :=
  ∃ (j : Nat) (nxj : Nx) (Mj : List (Nat × Value)) (Fj : Nat → Prop) (Vj : Nat → Ty) (sz : Nat), Hid (gk = N - j) ∧ j ≤ N ∧ u = .int .i64 (sz : Int) ∧ v = .int .i64 (j : Int) ∧ sz ≤ 49 ∧ Hid (sz = min (1 + sizeL ((hs.take j).map Vj)) 49) ∧ GN wr ds str nxj vr ly ∧ Eqv str nx nxj ∧ Fr (fun b => b ∈ ds ∨ b = sb) w wr ∧ Bx wr bx #[.int .i64 48, .map (some sb)] ∧
    Hid (SZ ds str nxj vr Mj Fj B Vj) ∧ MS encN wr sb Mj ∧ Hid ((∀ x, F x → Fj x ∧ Vj x = V x) ∧ (∀ x, got x Mj = none → got x M = none) ∧ ∀ x ∈ hs.take j, Fj x)
section
variable {ds : List Nat} {str : Str} {vr : Nat → Nat} {ly : Nat → Option Addr × Nat} {sb k : Nat}
set_option maxRecDepth 100000 in
set_option maxHeartbeats 4000000 in
theorem size_step (IH : SizeNC ds str vr ly sb k) : SizeNC ds str vr ly sb (k + 1) := by
  intro w nx M F B V n G0 S0 M0 hn hB hmu
  obtain ⟨h, hd⟩ := G0.hd n hn
  have hh : h ∈ ds := G0.hd_mem hn hd
  have hb0 : Below w.heap.size w (w.alloc (.cells #[.int .i64 48, .map (some sb)] 297)) := (Below.refl _ _).alloc (Nat.le_refl _) _
  have GA := G0.move hb0.size (fun b i v hc => hb0.block b (cell_lt hc))
  have HC := hide (head_P GA hn hd)
  have BA := Bx.new w #[.int .i64 48, .map (some sb)] 297
  have zs := M0.lt
  have MA := M0.below hb0
  have hlow : ∀ x ∈ ds, x < w.heap.size := fun x hx => (G0.nd x hx).lt
  have hsd : ¬ sb ∈ ds := fun q => by have := (G0.nd sb q).cells.1; rw [M0.nocell 0] at this; cases this
  have hnb : ¬ w.heap.size ∈ ds := fun q => by have := hlow _ q; omega
  go_enter Tryz.func141, Tryz.ntmps141
  go_wp2_with fail
  refine (unhide HC).mono ?_
  rintro e w1 ⟨rfl, nx1, G1, F1, E1, z1⟩
  have B1 := BA.fr F1 hnb
  have M1 : MS encN w1 sb M := MA.same (F1.block sb (by have := hb0.size; omega) hsd)
  have hok : ∀ x ∈ ds, ∃ c t, w1.heap[x]? = some (.cells c t (0, 0)) := fun x hx => ⟨_, _, (G1.nd x hx).1⟩
  have hl := M1.look keyN Tryz.underlying295 (zeroInt w1) h (hok h hh) (fun p hp => hok p.1 (S0.kd p hp)) true
  have ca := B1.c 0
  have cb := B1.c 1
  have ca' : w1.cell? ⟨w.heap.size, 0, none⟩ = some (.int .i64 48) := ca
  have cb' : w1.cell? ⟨w.heap.size, 1, none⟩ = some (.map (some sb)) := cb
  have FF : Fr (fun b => b ∈ ds ∨ b = sb) w w1 := (Fr.of hb0).trans' F1 (fun x q => Or.inl (Or.inl q))
  have hd1 := E1.hds _ _ hd
  have HZ := hide z1
  clear HC GA BA MA G0 M0 ca cb z1
  cases hg : got h M with
  | some v =>
    rw [hg] at hl
    simp at hl
    rcases S0.gm h v hg with q | q
    · have hv := S0.fg h q
      rw [hg] at hv
      injection hv with hv
      subst hv
      have hp := min_pos (V h)
      have hp' : ((((min (size (V h)) 49 : Nat)) : Int) == 0) = false := by simpa using hp
      have HS := hide S0
      have HP := hide hp
      have HD := hide hd
      have HD1 := hide hd1
      have HG := hide hg
      generalize hq : (((min (size (V h)) 49 : Nat)) : Int) = sz at *
      clear S0 hp hd hd1 hg
      have HQ := hide hq
      clear hq
      go_wp2_with fail
      go_ret2
      refine ⟨nx1, G1, E1, FF, Or.inl ⟨M, F, V, h, ?_, unhide HD, q, fun x hx => ⟨hx, rfl⟩, (unhide HS).eqv E1, M1, fun _ hx => hx⟩⟩
      have e1 : (sz != 0) = true := by simpa using unhide HP
      rw [unhide HQ]
      show Ending.returned (Value.tuple #[.int .i64 sz, .bool (sz != 0)]) = _
      rw [e1]
    · have hv := S0.bg h q
      rw [hg] at hv
      injection hv with hv
      subst hv
      go_wp2_with fail
      go_ret2
      refine ⟨nx1, G1, E1, FF, Or.inr ⟨rfl, fun W hW => ?_⟩⟩
      have := hB W hW h q
      rw [hd.sol hW] at this
      omega
  | none =>
    rw [hg] at hl
    simp at hl
    obtain ⟨c0, f0, c2, c1, c3⟩ := (G1.nd h hh).cells
    have hPa := (G1.nd h hh).2.1
    obtain ⟨l, HLs, hll, hld⟩ : ∃ l : List Nat, Hid ((str h = none ∧ l = []) ∨ ∃ c, str h = some (c, l)) ∧ slN (str h) = l.length ∧ ∀ m ∈ l, m ∈ ds := by
      cases hs : str h with
      | none => exact ⟨[], hide (Or.inl ⟨rfl, rfl⟩), rfl, by simp⟩
      | some p =>
        rw [hs] at hPa
        exact ⟨p.2, hide (Or.inr ⟨p.1, rfl⟩), rfl, hPa.2.2.1⟩
    have hl10 : l.length ≤ 1001 := by
      rcases unhide HLs with ⟨_, e⟩ | ⟨c, e⟩
      · subst e; simp
      · rw [e] at hPa; exact hPa.2.1
    obtain ⟨hs, a2⟩ := hds_of G1 l hld
    have hlen := all2_len a2
    obtain ⟨sa, HA⟩ : ∃ sa, Hid ((ly h).1 = sa) := ⟨_, hide rfl⟩
    rw [unhide HA, hll] at c3
    have c3' : w1.cell? ⟨h, 4, none⟩ = some (.slice sa l.length (ly h).2) := c3
    have HL := hide hlen
    have HS := hide (S0.eqv E1)
    have HD := hide hd
    have HG := hide hg
    have HM := hide M1
    have HOK := hide hok
    have kdS := S0.kd
    have hhb : h ≠ sb := fun e => hsd (e ▸ hh)
    clear hlen c3 S0 hd hg M1 hll c0 c1 c2 f0 hPa hd1 hok
    go_wp2_with (refine wpList_put _ rfl _ _ _ _ (Or.inr rfl) keyN Tryz.underlying295 _ _ rfl (unhide HM) h (.int .i64 0) rfl rfl (unhide HOK h hh) (fun p hp => unhide HOK p.1 (kdS p hp)) ?_; intro w2 H' O'; have HM2 := hide H'; have O2 := O'; clear H' O'; have c3'' : w2.cell? ⟨h, 4, none⟩ = some (.slice sa l.length (ly h).2) := (World.cell?_of_block (a := ⟨h, 4, none⟩) (w := w1) (O2.block h hhb)).trans c3')
    have FP : Fr (fun b => b ∈ ds ∨ b = sb) w w2 := ⟨O2.os.trans FF.os, O2.tape.trans FF.tape, O2.output.trans FF.output, by rw [O2.size]; exact FF.size, fun b hz hn => (O2.block b (fun e => hn (Or.inr e))).trans (FF.block b hz hn)⟩
    have hBL : ∀ (nxj : Nx), Eqv str nx1 nxj → ∀ j (hj : j < l.length) W, Sol str nxj W → ∀ b ∈ h :: B, size (W l[j]) < size (W b) := by
      intro nxj EJ j hj W hW b hb
      have hW0 := ((E1.trans EJ).sol W).1 hW
      have e1 := (unhide HD).sol hW0
      have hlt : size (W l[j]) < size (W h) := by
        rcases unhide HLs with ⟨_, e⟩ | ⟨c, e⟩
        · subst e; simp at hj
        · rw [hW0.made h c l e]
          have := size_map_mem (V := W) (List.getElem_mem hj)
          simp [size]; omega
      rcases List.mem_cons.1 hb with q | q
      · rw [q]; exact hlt
      · have := hB W hW0 b q
        rw [e1] at this
        omega
    have hgM := unhide HG
    have hmu2 : mu (putL h (.int .i64 0) M) ds < k := by have := mu_put hgM (.int .i64 0) hh; omega
    have hkeep : ∀ b i v, w1.cell? ⟨b, i, none⟩ = some v → w2.heap[b]? = w1.heap[b]? := fun b i v hc => O2.block b (fun e => by subst e; rw [(unhide HM).nocell i] at hc; cases hc)
    have G2 := G1.move (by rw [O2.size]; exact Nat.le_refl _) hkeep
    have B2 := B1.one O2 (by omega)
    have HBL := hide hBL
    have HGM := hide hgM
    clear hBL hgM hl ca' cb' c3' c3''
    go_loopg [8, 34] l.length (fun gk u v wr => SizRel ds str nx1 vr ly sb w.heap.size (putL h (.int .i64 0) M) F (h :: B) V l.length hs w gk u v wr)
    case atStart =>
      exact ⟨0, nx1, putL h (.int .i64 0) M, F, V, 1, hide (by simp), Nat.zero_le _, rfl, rfl, by omega, hide (by simp [sizeL]), G2, Eqv.refl _ _, FP, B2, hide ((unhide HS).begin hh (unhide HGM)), unhide HM2, hide ⟨fun x hx => ⟨hx, rfl⟩, fun _ hx => hx, by simp⟩⟩
    case round =>
      obtain ⟨j, nxj, Mj, Fj, Vj, sz, hgk, hj, rfl, rfl, hsz, hsq, GJ, EJ, FJ, BJ, SJ, MJ, hT⟩ := hrel
      have zw := FJ.size
      have zb := BJ.z
      have ca : wr.cell? ⟨w.heap.size, 0, none⟩ = some (.int .i64 48) := BJ.c 0
      have cb : wr.cell? ⟨w.heap.size, 1, none⟩ = some (.map (some sb)) := BJ.c 1
      by_cases hjl : j < l.length
      · have hdj : (j : Int) < (l.length : Int) := by omega
        obtain ⟨c, hsc⟩ : ∃ c, Hid (str h = some (c, l)) := by
          rcases unhide HLs with ⟨_, e⟩ | ⟨c, e⟩
          · subst e; simp at hjl
          · exact ⟨c, hide e⟩
        obtain ⟨ga, ea, cg, hga⟩ := GJ.row hh (unhide hsc) hjl
        have hjl' : j < hs.length := by rw [← unhide HL]; exact hjl
        have hdh := EJ.hds _ _ (all2_at a2 j hjl hjl')
        have hmj : mu Mj ds < k := Nat.lt_of_le_of_lt (mu_mono (unhide hT).2.1 ds) hmu2
        have HC := hide (IH wr nxj Mj Fj (h :: B) Vj l[j] GJ (unhide SJ) MJ (hld _ (List.getElem_mem hjl)) (unhide HBL nxj EJ j hjl) hmj)
        have ea' := (unhide HA).symm.trans ea
        subst ea'
        clear ea
        go_wp2_with fail
        refine (unhide HC).mono ?_
        rintro e w3 ⟨nx3, G3, E3, F3, ⟨M3, F3', V3, h3, rfl, hd3, hF3, hV3, S3, MS3, hg3⟩ | ⟨rfl, hno⟩⟩
        · have e3 : h3 = hs[j] := hd3.one hdh
          subst e3
          obtain ⟨s2, hs2⟩ : ∃ s2, Hid (s2 = min (size (V3 hs[j])) 49) := ⟨_, hide rfl⟩
          rw [← unhide hs2]
          have hs2' : s2 ≤ 49 := by rw [unhide hs2]; omega
          have B3 := BJ.fr F3 (fun q => by rcases q with q | q; exact hnb q; omega)
          have ca3 : w3.cell? ⟨w.heap.size, 0, none⟩ = some (.int .i64 48) := B3.c 0
          have hnot : ∀ (x : Bool) (w : World), (Op.unary .not (.bool x)).run Tryz.prog w = .ok (.bool (!x)) w := fun _ _ => rfl
          clear HC ca cb cg
          have HR : Hid (∀ sz', sz' ≤ 49 → sz' = min (sz + s2) 49 → SizRel ds str nx1 vr ly sb w.heap.size (putL h (.int .i64 0) M) F (h :: B) V l.length hs w (l.length - (j + 1)) (.int .i64 (sz' : Int)) (.int .i64 ((j : Int) + 1)) w3) := hide (fun sz' hz1 hz2 => by
            obtain ⟨t1, t2, t3⟩ := unhide hT
            have hF3x : ∀ x ∈ hs.take (j + 1), F3' x := fun x hx => by
              rw [List.take_succ_eq_append_getElem hjl'] at hx
              rcases List.mem_append.1 hx with q | q
              · exact (hV3 x (t3 x q)).1
              · simp at q; rw [q]; exact hF3
            have hmp : (hs.take j).map V3 = (hs.take j).map Vj := by
              apply List.map_congr_left
              intro x hx
              exact (hV3 x (t3 x hx)).2
            have hsum : ∀ (a : List Ty) (t : Ty), sizeL (a ++ [t]) = sizeL a + size t := by
              intro a t
              induction a with
              | nil => simp [sizeL]
              | cons x a ih => simp [sizeL, ih]; omega
            refine ⟨j + 1, nx3, M3, F3', V3, sz', hide rfl, by omega, rfl, by go_num, hz1, hide ?_, G3, EJ.trans E3, FJ.trans F3, B3, hide S3, MS3, hide ⟨fun x hx => ⟨(hV3 x (t1 x hx).1).1, ((hV3 x (t1 x hx).1).2).trans (t1 x hx).2⟩, fun x hx => t2 x (hg3 x hx), hF3x⟩⟩
            rw [List.take_succ_eq_append_getElem hjl', List.map_append, hmp]
            simp only [List.map_cons, List.map_nil]
            rw [hsum, hz2, unhide hsq, unhide hs2]
            omega)
          clear hd3 hF3 hV3 S3 MS3 hg3 hT hsq hs2 G3 E3 F3
          go_wp2_with fail
          all_goals (go_roundg (l.length - (j + 1)))
          all_goals (first | (rw [unhide hgk]; omega) | exact unhide HR 49 (by omega) (by omega) | (have := unhide HR (sz + s2) (by omega) (by omega); rw [Int.natCast_add] at this; exact this))
        · have hnot : ∀ (x : Bool) (w : World), (Op.unary .not (.bool x)).run Tryz.prog w = .ok (.bool (!x)) w := fun _ _ => rfl
          clear HC ca cb cg
          go_wp2_with fail
          go_ret2
          exact ⟨nx3, G3, (E1.trans EJ).trans E3, FJ.trans F3, Or.inr ⟨rfl, fun W hW => hno W (((E1.trans EJ).sol W).2 hW)⟩⟩
      · have hdj : decide ((j : Int) < (l.length : Int)) = false := by simp; omega
        have ej : j = l.length := by omega
        subst ej
        have hlt : hs.take l.length = hs := by rw [unhide HL]; exact List.take_length
        obtain ⟨t1, t2, t3⟩ := unhide hT
        have hsq' := unhide hsq
        rw [hlt] at t3 hsq'
        obtain ⟨T, HT1, HT2⟩ : ∃ T : Ty, Hid (sz = min (size T) 49) ∧ Hid (match str h with
            | none => T = .var (vr h)
            | some (c, l) => ∃ hs, All2 (Hd nxj) l hs ∧ (∀ y, y ∈ hs → Fj y) ∧ T = .con c (hs.map Vj)) := by
          rcases unhide HLs with ⟨e1, e2⟩ | ⟨c, e⟩
          · have e3 : hs = [] := by
              have := unhide HL
              rw [e2] at this
              exact List.length_eq_zero_iff.1 this.symm
            refine ⟨.var (vr h), hide ?_, hide (by rw [e1])⟩
            rw [hsq', e3]
            simp [sizeL, size]
          · refine ⟨.con c (hs.map Vj), hide ?_, hide ?_⟩
            · rw [hsq']; simp [size]
            · rw [e]
              exact ⟨hs, all2_imp (fun x y q => EJ.hds x y q) a2, t3, rfl⟩
        have hxB : ¬ h ∈ B := fun q => by
          have := (unhide HS).bg h q
          rw [unhide HGM] at this
          cases this
        have SD := hide ((unhide SJ).done hxB hh ((EJ.non h).2 ((E1.hds _ _ (unhide HD)).head)) T (unhide HT2))
        have HOKJ : Hid (∀ x ∈ ds, ∃ c t, wr.heap[x]? = some (.cells c t (0, 0))) := hide (fun x hx => ⟨_, _, (GJ.nd x hx).1⟩)
        have kdJ := (unhide SJ).kd
        have HMJ := hide MJ
        have HTT := hide (And.intro t1 t2)
        clear hsq hsq' t1 t2 t3 hT MJ hlt HT2
        go_wp2_with (refine wpList_put _ rfl _ _ _ _ (Or.inr rfl) keyN Tryz.underlying295 _ _ rfl (unhide HMJ) h (.int .i64 (sz : Int)) rfl rfl (unhide HOKJ h hh) (fun p hp => unhide HOKJ p.1 (kdJ p hp)) ?_; intro w4 H' O'; have HM4 := hide H'; have O4 := O'; clear H' O')
        go_ret2
        obtain ⟨t1, t2⟩ := unhide HTT
        have hsT := unhide HT1
        have SD' := unhide SD
        rw [← hsT] at SD'
        have hkp : ∀ b i v, wr.cell? ⟨b, i, none⟩ = some v → w4.heap[b]? = wr.heap[b]? := fun b i v hc => O4.block b (fun e => by subst e; rw [(unhide HMJ).nocell i] at hc; cases hc)
        refine ⟨nxj, GJ.move (by rw [O4.size]; exact Nat.le_refl _) hkp, E1.trans EJ, ⟨O4.os.trans FJ.os, O4.tape.trans FJ.tape, O4.output.trans FJ.output, by rw [O4.size]; exact FJ.size, fun b hz hn => (O4.block b (fun e => hn (Or.inr e))).trans (FJ.block b hz hn)⟩, Or.inl ⟨putL h (.int .i64 (sz : Int)) Mj, fun y => Fj y ∨ y = h, Un.upd Vj h T, h, ?_, unhide HD, Or.inr rfl, fun x hx => ⟨Or.inl (t1 x hx).1, ?_⟩, SD', unhide HM4, fun x hx => ?_⟩⟩
        · have e1 : Un.upd Vj h T h = T := by simp [Un.upd]
          rw [e1, ← hsT]
          rfl
        · have hne : x ≠ h := fun e => by subst e; exact (unhide SJ).apart (t1 x hx).1 (by simp)
          simp only [Un.upd, hne, if_false]
          exact (t1 x hx).2
        · rw [got_putL] at hx
          split at hx
          · cases hx
          · have := t2 x hx
            rw [got_putL] at this
            split at this
            · cases this
            · exact this
theorem Size_N : ∀ k, SizeNC ds str vr ly sb k
  | 0 => fun w nx M F B V n _ _ _ _ _ hmu => absurd hmu (Nat.not_lt_zero _)
  | k + 1 => size_step (Size_N k)
end
end Go.Proofs.YtfflpeklkfjdnaaGreatDoor
namespace Go.Proofs.YtfflpeklkfjdnaaGreatDoor
open Go Go.RowKit Go.ChangeMaps Un
section
variable {w : World} {ds : List Nat} {str : Str} {nx : Nx} {vr : Nat → Nat} {ly : Nat → Option Addr × Nat}
def SzPost (ds : List Nat) (str : Str) (nx : Nx) (vr : Nat → Nat) (ly : Nat → Option Addr × Nat) (n : Nat) (w : World) (e : Ending) (w' : World) : Prop :=
  ∃ nx', GN w' ds str nx' vr ly ∧ Eqv str nx nx' ∧ Fr (fun b => b ∈ ds) w w' ∧
    ((∃ F V h, e = .returned (.tuple #[.int .i64 ((min (size (V h)) 49 : Nat) : Int), .bool true]) ∧ Hd nx n h ∧ F h ∧ Un.Fin str nx' vr F V ∧ ∀ x, F x → x ∈ ds) ∨
     (e = .returned (.tuple #[.int .i64 0, .bool false]) ∧ ∀ W, ¬ Sol str nx W))
set_option maxRecDepth 100000 in
set_option maxHeartbeats 2000000 in
theorem NodeSize_P (G : GN w ds str nx vr ly) {n : Nat} (hn : n ∈ ds) : Calls Tryz.prog 75 #[nA n, .int .i64 48] w (SzPost ds str nx vr ly n w) := by
  have hmm := @run_makeMap Tryz.prog
  have hb0 : Below w.heap.size w (w.alloc (.map #[] 0)) := (Below.refl _ _).alloc (Nat.le_refl _) _
  have GA := G.move hb0.size (fun b i v hc => hb0.block b (cell_lt hc))
  have S0 : SZ ds str nx vr [] (fun _ => False) [] (fun _ => .var 0) := ⟨fun _ q => q.elim, fun _ q => q.elim, fun _ q => (List.not_mem_nil q).elim, fun x v q => (by simp [got] at q), fun _ q => (List.not_mem_nil q).elim⟩
  have HC := hide (Size_N (mu [] ds + 1) (w.alloc (.map #[] 0)) nx [] (fun _ => False) [] (fun _ => .var 0) n GA S0 (MS.new encN w) hn (fun _ _ b hb => by simp at hb) (Nat.lt_succ_self _))
  have hlow : ∀ x ∈ ds, x < w.heap.size := fun x hx => (G.nd x hx).lt
  clear G GA S0
  go_enter Tryz.func75, Tryz.ntmps75
  go_wp2_with fail
  refine (unhide HC).mono ?_
  have hfr : ∀ w', Fr (fun b => b ∈ ds ∨ b = w.heap.size) (w.alloc (.map #[] 0)) w' → Fr (fun b => b ∈ ds) w w' := fun w' h => (Fr.of hb0).trans' h (fun x q => by
    rcases q with q | q
    · exact Or.inl q
    · exact Or.inr (by omega))
  rintro e w1 ⟨nx1, G1, E1, F1, ⟨M1, F', V', h, rfl, hd, hF, hV, S1, MS1, hg⟩ | ⟨rfl, hno⟩⟩
  · obtain ⟨s2, hs2⟩ : ∃ s2 : Nat, Hid (s2 = min (size (V' h)) 49) := ⟨_, hide rfl⟩
    rw [← unhide hs2]
    have HS := hide S1
    clear HC S1 MS1 hg hV
    go_wp2_with fail
    go_ret2
    refine ⟨nx1, G1, E1, hfr w1 F1, Or.inl ⟨F', V', h, ?_, hd, hF, (unhide HS).fin, fun x hx => (unhide HS).fd hx⟩⟩
    rw [← unhide hs2]
    rfl
  · clear HC
    go_wp2_with fail
    go_ret2
    exact ⟨nx1, G1, E1, hfr w1 F1, Or.inr ⟨rfl, hno⟩⟩
end
end Go.Proofs.YtfflpeklkfjdnaaGreatDoor
namespace Go.Proofs.YtfflpeklkfjdnaaGreatDoor
open Go Go.RowKit Go.ChangeMaps Un
/-- What was measured is a type that can be written. -/
theorem Fin.wf {str : Str} {nx : Nx} {vr : Nat → Nat} {ds : List Nat} {ty V : Nat → Ty} {F : Nat → Prop} (h : Un.Fin str nx vr F V) (ho : Un.Of str vr (fun n => n ∈ ds) ty) (hw : ∀ n ∈ ds, Wf (ty n)) : ∀ (n x : Nat), size (V x) ≤ n → F x → Wf (V x)
  | 0, x, hn, _ => absurd hn (by have := size_pos (V x); omega)
  | n + 1, x, hn, hx => by
    obtain ⟨_, h2⟩ := h x hx
    cases e : str x with
    | none => rw [e] at h2; rw [h2]; simp [Wf]
    | some p =>
      obtain ⟨c, l⟩ := p
      rw [e] at h2
      obtain ⟨hs, a, b, d⟩ := h2
      obtain ⟨o1, o2, o3⟩ := ho.con x c l e
      have w1 := hw x o1
      rw [o2] at w1
      rw [d] at hn ⊢
      have hlen := all2_len a
      refine ⟨?_, ?_⟩
      · have := w1.1
        rw [List.length_map] at this ⊢
        rw [← hlen]
        exact this
      · rw [WfL_iff]
        intro t ht
        obtain ⟨y, hy, rfl⟩ := List.mem_map.1 ht
        have := size_map_mem (V := V) hy
        simp [size] at hn
        exact Fin.wf h ho hw n y (by omega) (b y hy)
/-- Joined and measured: the most general type. -/
theorem mgu_nodes {w : World} {ds : List Nat} {str : Str} {nx1 nx2 : Nx} {vr : Nat → Nat} {ly : Nat → Option Addr × Nat} {ty V : Nat → Ty} {F : Nat → Prop} {a b h : Nat} (ho : Un.Of str vr (fun n => n ∈ ds) ty) (ha : a ∈ ds) (hb : b ∈ ds) (hj : JR str (fun _ => none) nx1 a b true) (he : Eqv str nx1 nx2) (G : GN w ds str nx2 vr ly) (hF : Un.Fin str nx2 vr F V) (hFD : ∀ x, F x → x ∈ ds) (hh : Hd nx1 a h) (hFh : F h) : Mgu (ty a) (ty b) (V h) := by
  obtain ⟨y1, y2, y3⟩ := hj.yes rfl
  refine mgu_of ho ha hb (fun W hW e => (he.sol W).2 ((y1 W).2 ⟨hW, e⟩)) (he.clo _ (y2 _ (Clo.start str []))) (fun n m e => ?_) (fun E q => y3 [] E (he.eqs [] E q)) hF hFD (he.hds _ _ hh) hFh
  by_cases q : n ∈ ds
  · exact G.hd n q
  · rw [(G.out n q).1] at e; cases e
/-- Not joined: nothing makes them one. -/
theorem no_clash {ds : List Nat} {str : Str} {nx1 : Nx} {vr : Nat → Nat} {ty : Nat → Ty} {a b : Nat} (ho : Un.Of str vr (fun n => n ∈ ds) ty) (hj : JR str (fun _ => none) nx1 a b false) : ∀ σ, sub σ (ty a) ≠ sub σ (ty b) := fun σ e => hj.no rfl _ (ho.sol σ) e
/-- A type that would hold itself: nothing makes them one. -/
theorem no_end {ds : List Nat} {str : Str} {nx1 : Nx} {vr : Nat → Nat} {ty : Nat → Ty} {a b : Nat} (ho : Un.Of str vr (fun n => n ∈ ds) ty) (hj : JR str (fun _ => none) nx1 a b true) (hn : ∀ W, ¬ Sol str nx1 W) : ∀ σ, sub σ (ty a) ≠ sub σ (ty b) := fun σ e => hn _ (((hj.yes rfl).1 _).2 ⟨ho.sol σ, e⟩)
end Go.Proofs.YtfflpeklkfjdnaaGreatDoor

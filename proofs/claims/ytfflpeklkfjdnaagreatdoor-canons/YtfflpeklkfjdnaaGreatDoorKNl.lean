import Derived.Test.YtfflpeklkfjdnaaGreatDoorKWh
import Derived.Test.YtfflpeklkfjdnaaGreatDoorKTt
import Derived.Test.YtfflpeklkfjdnaaGreatDoorKVn
set_option linter.unusedSimpArgs false
set_option linter.unusedVariables false
set_option linter.unusedSectionVars false
namespace Go.Proofs.YtfflpeklkfjdnaaGreatDoor
open Go Go.RowKit Go.ChangeMaps Un
/-- What comes of making two types one. -/
def UniR (A B : Ty) (z : List UInt8) (ok : Bool) (f : Fl) : Prop :=
  (∃ T, Mgu A B T ∧ ((48 < size T ∧ z = [] ∧ ok = false ∧ f = ⟨7, 0, 0⟩) ∨ (¬ 48 < size T ∧ z = Un.written dec T ∧ ok = true ∧ f = noFl))) ∨
  ((∀ σ, sub σ A ≠ sub σ B) ∧ z = [] ∧ ok = false ∧ f = noFl)
def UniP (A B : Ty) (w : World) (e : Ending) (w' : World) : Prop :=
  ∃ z ok f, e = .returned (.tuple #[.string (bs z), .bool ok, flV f]) ∧ Below w.heap.size w w' ∧ UniR A B z ok f
section
variable {w : World} {Q : Nat → Prop} {A B : Ty} {va vb : Value}
set_option maxRecDepth 100000 in
set_option maxHeartbeats 4000000 in
theorem unify_P (hA : TyV w Q A va) (hB : TyV w Q B vb) (wA : Wf A) (wB : Wf B) (sA : size A ≤ 48) (sB : size B ≤ 48) : Calls Tryz.prog 30 #[va, vb] w (UniP A B w) := by
  have hnot : ∀ (x : Bool) (w : World), (Op.unary .not (.bool x)).run Tryz.prog w = .ok (.bool (!x)) w := fun _ _ => rfl
  have hb0 : Below w.heap.size w (w.alloc (.cells zF 34)) := (Below.refl _ _).alloc (Nat.le_refl _) _
  have B0 := Bx.new w zF 34
  have z0 : (w.alloc (.cells zF 34)).heap.size = w.heap.size + 1 := Array.size_push ..
  have HA := hide hA.low
  have HB := hide hB.low
  obtain ⟨ta, xa, rfl⟩ := hA.iface
  obtain ⟨tb, xb, rfl⟩ := hB.iface
  clear hA hB
  go_enter Tryz.func30, Tryz.ntmps30
  go_wp2_with fail
  refine Variables_C.mono ?_
  rintro e w1 ⟨kb, mb, rfl, N1, hb1, hmb⟩
  have HB1 := hb0.trans (hb1.mono hb0.size)
  have B1 := B0.below hb1
  rw [z0] at hmb
  have HC := hide (OfN_C A w1 kb mb Ns.none _ _ N1 ((unhide HA).bel HB1) (fun b p => by have := p.2; omega) (by omega) wA)
  clear z0
  go_wp2_with fail
  refine (unhide HC).mono ?_
  rintro e w2 ⟨na, G2, rfl, N2, L2, hna, hta, F2, x2⟩
  have HB2 := Fr.low' HB1 HB1.size F2 (fun x q => by have q : x = mb := q; omega)
  have B2 := B1.fr F2 (fun q => by have q : w.heap.size = mb := q; omega)
  have HC2 := hide (OfN_C B w2 kb mb G2 _ _ N2 ((unhide HB).bel HB2) (fun b p => by have := p.2; omega) (by omega) wB)
  clear HC
  go_wp2_with fail
  refine (unhide HC2).mono ?_
  rintro e w3 ⟨nb, G3, rfl, N3, L3, hnb, htb, F3, x3⟩
  have HB3 := Fr.low' HB2 HB2.size F3 (fun x q => by have q : x = mb := q; omega)
  have B3 := B2.fr F3 (fun q => by have q : w.heap.size = mb := q; omega)
  obtain ⟨hna3, hta3⟩ := L3 na hna
  rw [hta] at hta3
  have HJ := hide (Join_P (hc (fun _ => none) G3.ds) w3 (fun _ => none) N3.gn (Nat.le_refl _) na nb hna3 hnb)
  have hlow : ∀ x ∈ G3.ds, w.heap.size < x := fun x hx => by
    rcases x3 x hx with ⟨q, _⟩ | ⟨q, _⟩
    · rcases x2 x q with ⟨q, _⟩ | ⟨q, _⟩
      · simp [Ns.none] at q
      · have := B1.z; omega
    · have := B2.z; omega
  have hof := N3.of
  have hwf := N3.wf
  clear HC2
  go_wp2_with fail
  refine (unhide HJ).mono ?_
  rintro e w4 ⟨ok, nx4, rfl, G4, F4, z4, hc4, J4⟩
  have HB4 := Fr.low' HB3 HB3.size F4 (fun x q => by have := hlow x q; omega)
  have B4 := B3.fr F4 (fun q => by have := hlow _ q; omega)
  have HZ := hide z4
  clear HJ z4
  cases ok with
  | false =>
    have B5 := hide (B4.set3' rfl (.int .i64 0) (.int .i64 0) (.int .i64 0))
    obtain ⟨c4, f4, z4⟩ := B4
    go_wp2_with fail
    obtain ⟨c9, f9, z9⟩ := unhide B5
    refine bodyPost_ret (v := .tuple #[.string (bs []), .bool false, flV noFl]) (by simp [results, Tryz.results30, go_sem, flV, c9, bs, noFl]) rfl ?_
    exact ⟨[], false, noFl, rfl, (((HB4.setCell (p := ⟨w.heap.size, 0, none⟩) (Nat.le_refl _) _).setCell (p := ⟨w.heap.size, 1, none⟩) (Nat.le_refl _) _).setCell (p := ⟨w.heap.size, 2, none⟩) (Nat.le_refl _) _), Or.inr ⟨fun σ => by have := no_clash hof J4 σ; rwa [hta3, htb] at this, rfl, rfl, rfl⟩⟩
  | true =>
    have HS := hide (NodeSize_P G4 hna3)
    go_wp2_with fail
    refine (unhide HS).mono ?_
    rintro e w5 ⟨nx5, G5, E5, F5, ⟨F, V, h, rfl, hd, hF, hFin, hFD⟩ | ⟨rfl, hno⟩⟩
    · have HB5 := Fr.low' HB4 HB4.size F5 (fun x q => by have := hlow x q; omega)
      have B5 := B4.fr F5 (fun q => by have := hlow _ q; omega)
      have hm := mgu_nodes hof hna3 hnb J4 E5 G5 hFin hFD hd hF
      rw [hta3, htb] at hm
      have hwV := Fin.wf hFin hof hwf _ h (Nat.le_refl _) hF
      obtain ⟨s2, hs2⟩ : ∃ s2 : Nat, Hid (s2 = min (size (V h)) 49) := ⟨_, hide rfl⟩
      rw [← unhide hs2]
      have HM := hide hm
      clear HS hm
      by_cases hbig : 48 < s2
      · have hbg : (48 : Int) < (s2 : Int) := by omega
        have B6 := hide (B5.set3' rfl (.int .i64 7) (.int .i64 0) (.int .i64 0))
        obtain ⟨c5, f5, z5⟩ := B5
        go_wp2_with fail
        obtain ⟨c9, f9, z9⟩ := unhide B6
        refine bodyPost_ret (v := .tuple #[.string (bs []), .bool false, flV ⟨7, 0, 0⟩]) (by simp [results, Tryz.results30, go_sem, flV, c9, bs, noFl]) rfl ?_
        exact ⟨[], false, ⟨7, 0, 0⟩, rfl, (((HB5.setCell (p := ⟨w.heap.size, 0, none⟩) (Nat.le_refl _) _).setCell (p := ⟨w.heap.size, 1, none⟩) (Nat.le_refl _) _).setCell (p := ⟨w.heap.size, 2, none⟩) (Nat.le_refl _) _), Or.inl ⟨V h, unhide HM, Or.inl ⟨by have := unhide hs2; omega, rfl, rfl, rfl⟩⟩⟩
      · have hbg : decide ((48 : Int) < (s2 : Int)) = false := by simp; omega
        go_wp2_with fail
        refine Types_C.mono ?_
        rintro e w6 ⟨cb, nb', mb', rfl, C6, N6, hm6, hcm, hb6⟩
        have hds5 : ∀ x ∈ G3.ds, x < w5.heap.size := fun x hx => (G5.nd x hx).lt
        have G6 := G5.move hb6.size (fun b i v hc => hb6.block b (cell_lt hc))
        have HB6 := HB5.trans (hb6.mono HB5.size)
        have B6 := B5.below hb6
        have hT := hide (Type_P (size (V h)) w6 nx5 na h G6 hFin hna3 (E5.hds _ _ hd) hF (Nat.le_refl _))
        have hcd : ¬ cb ∈ G3.ds := fun q => by
          have h1 := (G6.nd cb q).cells.1
          have h2 : w6.cell? ⟨cb, 0, none⟩ = some (nbV nb') := C6.c 0
          rw [h2] at h1
          cases hq : nx5 cb <;> simp [hq, nP] at h1
        go_wp2_with fail
        refine (unhide hT).mono ?_
        rintro e w7 ⟨u, nx7, rfl, hU, G7, E7, F7⟩
        obtain ⟨tu, xu, rfl⟩ := hU.iface
        have HB7 := Fr.low' HB6 HB6.size F7 (fun x q => by have := hlow x q; omega)
        have B7 := B6.fr F7 (fun q => by have := hlow _ q; omega)
        have C7 := C6.fr F7 hcd
        have hnd : ¬ nb' ∈ G3.ds := fun q => by
          have h1 := (G6.nd nb' q).cells.1
          have h2 : w6.cell? ⟨nb', 0, none⟩ = some (.map (some mb')) := N6.bk.c 0
          rw [h2] at h1
          cases hq : nx5 nb' <;> simp [hq, nP] at h1
        have N7 : NB w7 nb' mb' [] := N6.fr F7 hnd (fun q => by have := hds5 _ q; omega)
        have zm := N6.lt
        have hvs := vars_len (V h) []
        have hs48 : size (V h) ≤ 48 := by have := unhide hs2; omega
        have HW := hide (write_P at_all hU (fun b p => by have p : w6.heap.size ≤ b := p; have := N6.mp.lt; omega) N7 C7 hcm hwV hs48 (by simp at hvs; omega))
        clear hT
        go_wp2_with fail
        refine (unhide HW).mono ?_
        rintro e w8 ⟨rfl, N8, F8⟩
        have HB8 := Fr.low' HB7 HB7.size F8 (fun x q => by subst q; have := HB5.size; omega)
        have B8 := B7.fr F8 (by show ¬ w.heap.size = mb'; have := B5.z; omega)
        have B9 := hide (B8.set3' rfl (.int .i64 0) (.int .i64 0) (.int .i64 0))
        obtain ⟨c8, f8, z8⟩ := B8
        go_wp2_with fail
        obtain ⟨c9, f9, z9⟩ := unhide B9
        refine bodyPost_ret (v := .tuple #[.string (bs (Un.written dec (V h))), .bool true, flV noFl]) (by simp [results, Tryz.results30, go_sem, flV, c9, noFl, Un.written]) rfl ?_
        exact ⟨Un.written dec (V h), true, noFl, rfl, (((HB8.setCell (p := ⟨w.heap.size, 0, none⟩) (Nat.le_refl _) _).setCell (p := ⟨w.heap.size, 1, none⟩) (Nat.le_refl _) _).setCell (p := ⟨w.heap.size, 2, none⟩) (Nat.le_refl _) _), Or.inl ⟨V h, unhide HM, Or.inr ⟨by omega, rfl, rfl, rfl⟩⟩⟩
    · have HB5 := Fr.low' HB4 HB4.size F5 (fun x q => by have := hlow x q; omega)
      have B5 := B4.fr F5 (fun q => by have := hlow _ q; omega)
      have B6 := hide (B5.set3' rfl (.int .i64 0) (.int .i64 0) (.int .i64 0))
      obtain ⟨c5, f5, z5⟩ := B5
      clear HS
      go_wp2_with fail
      obtain ⟨c9, f9, z9⟩ := unhide B6
      refine bodyPost_ret (v := .tuple #[.string (bs []), .bool false, flV noFl]) (by simp [results, Tryz.results30, go_sem, flV, c9, bs, noFl]) rfl ?_
      exact ⟨[], false, noFl, rfl, (((HB5.setCell (p := ⟨w.heap.size, 0, none⟩) (Nat.le_refl _) _).setCell (p := ⟨w.heap.size, 1, none⟩) (Nat.le_refl _) _).setCell (p := ⟨w.heap.size, 2, none⟩) (Nat.le_refl _) _), Or.inr ⟨fun σ => by have := no_end hof J4 hno σ; rwa [hta3, htb] at this, rfl, rfl, rfl⟩⟩
end
end Go.Proofs.YtfflpeklkfjdnaaGreatDoor
namespace Go.Proofs.YtfflpeklkfjdnaaGreatDoor
open Go Go.RowKit Go.ChangeMaps Un
def UnifyP (a b : ByteArray) (w : World) (e : Ending) (w' : World) : Prop :=
  ∃ z ok f, e = .returned (.tuple #[.string (bs z), .bool ok, flV f]) ∧ UniA a b z ok f ∧ Below w.heap.size w w'
section
variable {w : World}
set_option maxRecDepth 100000 in
set_option maxHeartbeats 4000000 in
theorem Unify_P (hL : Laid w) (s t : ByteArray) : Calls Tryz.prog 11 #[.string s, .string t] w (UnifyP s t w) := by
  have hb0 : Below w.heap.size w (w.alloc (.cells zF 34)) := (Below.refl _ _).alloc (Nat.le_refl _) _
  have B0 := Bx.new w zF 34
  have hb1 : Below w.heap.size w ((w.alloc (.cells zF 34)).alloc (.cells #[.int .i64 0] 3)) := hb0.alloc (by simp) _
  have B1 := B0.alloc (.cells #[.int .i64 0] 3)
  have C1 : Bx ((w.alloc (.cells zF 34)).alloc (.cells #[.int .i64 0] 3)) (w.heap.size + 1) #[.int .i64 0] := by have := Bx.new (w.alloc (.cells zF 34)) #[.int .i64 0] 3; simpa using this
  go_enter Tryz.func11, Tryz.ntmps11
  go_wp2_with (go_at_call 26; refine Fresh_C.mono ?_; rintro e w' ⟨rfl, rfl⟩)
  refine (Names_C (w.heap.size + 1) C1).mono ?_
  rintro e w2 ⟨kb, fb, mb, rfl, N2, hb2, hmb⟩
  have HB2 := hb1.trans (hb2.mono hb1.size)
  have B2 := B1.below hb2
  have HC := hide (readType_C (hL.bel HB2) N2 (by simp) s)
  clear B0 B1 C1 hb0
  go_wp2_with fail
  refine (unhide HC).mono ?_
  rintro e w3 ⟨v, f, rfl, F3, hp⟩
  simp at hmb
  have hS : ∀ x, Two (w.heap.size + 1) mb x → w.heap.size < x := fun x q => by rcases q with q | q <;> omega
  have HB3 := Fr.low' HB2 HB2.size F3 (fun x q => Nat.le_of_lt (hS x q))
  have B3 := B2.fr F3 (fun q => by have := hS _ q; omega)
  have hb4 : Below w3.heap.size w3 (w3.alloc (.cells #[.int .i64 (f.kind : Int), .int .i64 (f.frm : Int), .int .i64 (f.to : Int)] 34)) := (Below.refl _ _).alloc (Nat.le_refl _) _
  have HB4 := HB3.trans (hb4.mono HB3.size)
  have B4 := hide (B3.below hb4)
  have L4 := hide (Bx.new w3 #[.int .i64 (f.kind : Int), .int .i64 (f.frm : Int), .int .i64 (f.to : Int)] 34)
  obtain ⟨c4, f4, z4⟩ := unhide B4
  obtain ⟨d4, g4, y4⟩ := unhide L4
  unfold flV
  clear HC
  rcases hp with ⟨hk, hp⟩ | ⟨rfl, a, hr, hsz, N3, hcn, T3⟩
  · have hk' : ((f.kind : Int) == 0) = false := by simp; omega
    have hca : UniA s t [] false f := by
      unfold UniA
      rcases hp with hp | ⟨a, hr, hsz, rfl⟩
      · rw [hp]; exact ⟨rfl, rfl, rfl⟩
      · rw [hr]; simp [hsz]
    have B5 := hide (((unhide B4).set3' rfl (.int .i64 (f.kind : Int)) (.int .i64 (f.frm : Int)) (.int .i64 (f.to : Int))).drew')
    go_wp2_with fail
    go_region
    go_wp2_with fail
    obtain ⟨c5, f5, z5⟩ := unhide B5
    refine bodyPost_ret (v := .tuple #[.string (bs []), .bool false, flV f]) (by simp [results, Tryz.results11, go_sem, flV, c5, bs]) rfl ?_
    exact ⟨[], false, f, rfl, hca, (((HB4.setCell (p := ⟨w.heap.size, 0, none⟩) (Nat.le_refl _) _).setCell (p := ⟨w.heap.size, 1, none⟩) (Nat.le_refl _) _).setCell (p := ⟨w.heap.size, 2, none⟩) (Nat.le_refl _) _).drew⟩
  · obtain ⟨tv, xv, rfl⟩ := T3.iface
    obtain ⟨hTy, _, _⟩ := readT_ty hr
    have hW := mean_wf hTy []
    have T4 := hide (T3.low.bel hb4)
    have l3 := N3.lt
    have l2 := N2.lt
    have N4 := N3.bel hb4
    have hcn' : (mean [] a).2.length ≤ 500 := by simp at hcn; omega
    have HC := hide (readType_C (hL.bel HB4) N4 hcn' t)
    simp only [noFl] at *
    go_wp2_with fail
    refine (unhide HC).mono ?_
    rintro e w5 ⟨v5, g, rfl, F5, hp⟩
    have HB5 := Fr.low' HB4 HB4.size F5 (fun x q => Nat.le_of_lt (hS x q))
    have B5 := (unhide B4).fr F5 (fun q => by have := hS _ q; omega)
    have L5 := (unhide L4).fr F5 (fun q => by rcases q with q | q <;> omega)
    have T5 := (unhide T4).fr F5 (fun b p _ q => by have p1 : w2.heap.size ≤ b := p.1; rcases q with q | q <;> omega)
    have z35 : w3.heap.size < w5.heap.size := L5.z
    have hw3 : w.heap.size < w3.heap.size := B3.z
    have L6 := hide (L5.set3' rfl (.int .i64 (g.kind : Int)) (.int .i64 (g.frm : Int)) (.int .i64 (g.to : Int)))
    have B6 := hide (B5.setO3 (b2 := w3.heap.size) (by omega) (.int .i64 (g.kind : Int)) (.int .i64 (g.frm : Int)) (.int .i64 (g.to : Int)))
    have HB6 := ((HB5.setCell (p := ⟨w3.heap.size, 0, none⟩) (Nat.le_of_lt hw3) (.int .i64 (g.kind : Int))).setCell (p := ⟨w3.heap.size, 1, none⟩) (Nat.le_of_lt hw3) (.int .i64 (g.frm : Int))).setCell (p := ⟨w3.heap.size, 2, none⟩) (Nat.le_of_lt hw3) (.int .i64 (g.to : Int))
    have F6 := (Fr.refl (fun x => x = w3.heap.size) w5).set3 (b := w3.heap.size) (Or.inl rfl) (.int .i64 (g.kind : Int)) (.int .i64 (g.frm : Int)) (.int .i64 (g.to : Int))
    have T6 := hide ((T5.fr F6 (fun b p _ q => by have q : b = w3.heap.size := q; have := p.2; omega)).wide (Q := fun _ => True) (fun _ _ => trivial))
    obtain ⟨c5, f5, z5⟩ := L5
    obtain ⟨c6, f6, z6⟩ := unhide B6
    obtain ⟨d6, g6, y6⟩ := unhide L6
    unfold flV
    clear HC B5 T5 c4 f4 z4 d4 g4 y4
    rcases hp with ⟨hk, hp⟩ | ⟨rfl, b, hr2, hsz2, N5, hcn5, TB⟩
    · have hk' : ((g.kind : Int) == 0) = false := by simp; omega
      have hca : UniA s t [] false g := by
        unfold UniA
        rw [hr]
        simp only [hsz, if_false]
        rcases hp with hp | ⟨b, hr2, hsz2, rfl⟩
        · rw [hp]; simp
        · rw [hr2]; simp [hsz2]
      have B7 := hide (((unhide B6).set3' rfl (.int .i64 (g.kind : Int)) (.int .i64 (g.frm : Int)) (.int .i64 (g.to : Int))).drew')
      have hvi : ∃ x, v5 = x := ⟨_, rfl⟩
      go_wp2_with fail
      go_region
      go_wp2_with fail
      obtain ⟨c7, f7, z7⟩ := unhide B7
      refine bodyPost_ret (v := .tuple #[.string (bs []), .bool false, flV g]) (by simp [results, Tryz.results11, go_sem, flV, c7, bs]) rfl ?_
      exact ⟨[], false, g, rfl, hca, (((HB6.setCell (p := ⟨w.heap.size, 0, none⟩) (Nat.le_refl _) _).setCell (p := ⟨w.heap.size, 1, none⟩) (Nat.le_refl _) _).setCell (p := ⟨w.heap.size, 2, none⟩) (Nat.le_refl _) _).drew⟩
    · obtain ⟨tb, xb, rfl⟩ := TB.iface
      obtain ⟨hTy2, _, _⟩ := readT_ty hr2
      have hW2 := mean_wf hTy2 (mean [] a).2
      have TB6 := (TB.fr F6 (fun b p _ q => by have q : b = w3.heap.size := q; have p1 : w3.heap.size + 1 ≤ b := (by simpa using p); omega)).wide (Q := fun _ => True) (fun _ _ => trivial)
      have HU := hide (unify_P (unhide T6) TB6 hW hW2 (by omega) (by omega))
      simp only [noFl] at *
      go_wp2_with fail
      refine (unhide HU).mono ?_
      rintro e w7 ⟨z, ok, f, rfl, hb7, hR⟩
      have HB7 := HB6.trans (hb7.mono HB6.size)
      have B7 := (unhide B6).below hb7
      have B8 := hide (B7.set3' rfl (.int .i64 (f.kind : Int)) (.int .i64 (f.frm : Int)) (.int .i64 (f.to : Int)))
      obtain ⟨c7, f7, z7⟩ := B7
      have hca : UniA s t z ok f := by
        unfold UniA
        rw [hr]
        simp only [hsz, if_false]
        rw [hr2]
        simp only [hsz2, if_false]
        exact hR
      unfold flV
      clear HU
      go_wp2_with fail
      obtain ⟨c8, f8, z8⟩ := unhide B8
      refine bodyPost_ret (v := .tuple #[.string (bs z), .bool ok, flV f]) (by simp [results, Tryz.results11, go_sem, flV, c8]) rfl ?_
      exact ⟨z, ok, f, rfl, hca, ((HB7.setCell (p := ⟨w.heap.size, 0, none⟩) (Nat.le_refl _) _).setCell (p := ⟨w.heap.size, 1, none⟩) (Nat.le_refl _) _).setCell (p := ⟨w.heap.size, 2, none⟩) (Nat.le_refl _) _⟩
end
end Go.Proofs.YtfflpeklkfjdnaaGreatDoor
namespace Go.Proofs.YtfflpeklkfjdnaaGreatDoor
open Go Go.RowKit Un
section
variable {w : World}
/-- A step of Canon or Unify is as the document says. -/
theorem plays_C (hL : Laid w) (k n : Int) (a b : ByteArray) (bv : Value) (h2 : 2 ≤ k) (h3 : k ≤ 3) : Calls Tryz.prog 5 #[bv, opV k n a b] w fun e w' => e = .returned (.bool true) ∧ Below w.heap.size w w' := by
  have hk : k = 2 ∨ k = 3 := by omega
  rcases hk with rfl | rfl
  · exact plays_canon (fun W hb => (CanonP_C (hL.bel hb) a).mono fun e w' q => q) (fun W => (Canon_C a).mono fun e w' q => by
      obtain ⟨z, f, e1, hb, rfl, rfl⟩ := q
      exact ⟨e1, hb⟩)
  · refine plays_unify (U := fun z ok k i j => ∃ l f, UniA a b l ok f ∧ z = bs l ∧ k = ((f.kind : Nat) : Int) ∧ i = ((f.frm : Nat) : Int) ∧ j = ((f.to : Nat) : Int)) ?_ (fun W hb => (Unify_P (hL.bel hb) a b).mono fun e w' q => ?_) (fun W => (Unify_C a b).mono fun e w' q => ?_)
    · rintro z ok k i j z' ok' k' i' j' ⟨l, f, h, rfl, rfl, rfl, rfl⟩ ⟨l', f', h', rfl, rfl, rfl, rfl⟩
      obtain ⟨rfl, rfl, rfl⟩ := h.one h'
      exact ⟨rfl, rfl, rfl, rfl, rfl⟩
    · obtain ⟨z, ok, f, e1, hu, hb⟩ := q
      exact ⟨_, _, _, _, _, e1, ⟨z, f, hu, rfl, rfl, rfl, rfl⟩, hb⟩
    · obtain ⟨z, ok, f, e1, hb, hu⟩ := q
      exact ⟨_, _, _, _, _, e1, ⟨z, f, hu, rfl, rfl, rfl, rfl⟩, hb⟩
/-- Canons of any script: true, and nothing old is turned. -/
theorem Canons_law (hL : Laid w) {p : Option Addr} {len cap : Nat} {K N : Nat → Int} {A B : Nat → ByteArray} (hlen : (len : Int) ≤ 9223372036854775807) (hS : Scr w p len K N A B) :
    Calls Tryz.prog 3 #[.slice p len cap] w fun e w' => e = .returned (.bool true) ∧ Below w.heap.size w w' :=
  Canons_C hlen hS fun i W bv _ hb h2 h3 => plays_C (hL.bel hb) _ _ _ _ bv h2 h3
end
end Go.Proofs.YtfflpeklkfjdnaaGreatDoor

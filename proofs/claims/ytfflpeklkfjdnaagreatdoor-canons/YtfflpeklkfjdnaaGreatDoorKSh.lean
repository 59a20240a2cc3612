import Derived.Test.YtfflpeklkfjdnaaGreatDoorKSh0
set_option linter.unusedSimpArgs false
set_option linter.unusedVariables false
set_option linter.unusedSectionVars false
namespace Go.Proofs.YtfflpeklkfjdnaaGreatDoor
open Go Go.RowKit
section
variable {rb g cap : Nat} {T : List Pu.Tok} {σ : St} {w : World}

/-- What holds ahead of each round of head. -/
def HeadRel (rb g cap : Nat) (T : List Pu.Tok) (small : M Nd) (sort k : Nat) (w : World) (bx : Nat) (gk : Nat) (wr : World) : Prop :=
  ∃ (σr : St) (xs : List NV) (va : Option Addr) (vc : Nat) (to : Nat),
    SS wr rb g cap T σr ∧ Ke rb w wr ∧ bx < wr.heap.size ∧
    Bx wr bx #[.int .i64 2, .string (tk T k).text, .int .i64 0, .slice va xs.length vc, .int .i64 ((tk T k).frm : Int), .int .i64 (to : Int), .int .i64 ((tk T k).frm : Int)] ∧ Bx wr w.heap.size zNode ∧
    wr.ownsRow (bx + 1) 62 7 (.slice va xs.length vc) xs.length (flat xs) ∧ (xs = [] → va = none ∧ vc = 0) ∧
    (match σr with
      | .error fl => xs.length ≤ 1002 ∧ Hid (headF T small sort T.length (leafN (tk T k)) (k + 1) = .error fl)
      | .ok k' => Hid (gk = T.length - k') ∧ k + 1 ≤ k' ∧ xs.length ≤ k' ∧ ∃ (L : List Nd) (f : Nat) (P : Nat → Prop), Hid (xs.length = L.length) ∧ T.length ≤ k' + f ∧ Hid (headF T small sort T.length (leafN (tk T k)) (k + 1) = headF T small sort f (.mk 2 (tk T k).text 0 L (tk T k).frm to (tk T k).frm) k') ∧
          (∀ b, P b → bx + 1 ≤ b ∧ b < wr.heap.size) ∧ (∀ b q, P b → (Value.slice va xs.length vc).ownBlock = some q → q ≠ b) ∧ ∀ i (h : i < L.length) (h2 : i < xs.length), NR wr P L[i] xs[i])

theorem headF_step {small : M Nd} {sort f : Nat} {x b : Nd} {k k2 : Nat} (hb : beginsB (tk T k) sort = true) (hs : small k = .ok (b, k2)) : headF T small sort (f + 1) x k = headF T small sort f (x.add b (lastK T k2)) k2 := by
  show (if beginsB (tk T k) sort = true then bnd small (fun y k' => headF T small sort f (x.add y (lastK T k')) k') k else .ok (x, k)) = _
  rw [if_pos hb, bnd_ok hs]
theorem headF_err {small : M Nd} {sort f : Nat} {x : Nd} {k : Nat} {e : Fl} (hb : beginsB (tk T k) sort = true) (hs : small k = .error e) : headF T small sort (f + 1) x k = .error e := by
  show (if beginsB (tk T k) sort = true then bnd small (fun y k' => headF T small sort f (x.add y (lastK T k')) k') k else .ok (x, k)) = _
  rw [if_pos hb, bnd_err hs]

set_option maxRecDepth 100000 in
set_option maxHeartbeats 4000000 in
theorem head_up {n k : Nat} {small : M Nd} (h : SS w rb g cap T (.ok k)) (sort : Nat) (hs : sort = 1 ∨ sort = 2 ∨ sort = 3) (hf : T.length ≤ k + n) (HS : NodeC rb g cap T 199 #[.pointer (some ⟨rb, 0, none⟩), .int .i64 (sort : Int)] small n) (hk : (tk T k).kind = 2) (hm : ∀ k a k', small k = .ok (a, k') → k < k') (hsm : small k = .ok (leafN (tk T k), k + 1)) :
    Calls Tryz.prog 114 #[.pointer (some ⟨rb, 0, none⟩), .int .i64 (sort : Int)] w fun e w' => ∃ x : NV, e = .returned x.v ∧ Ke rb w w' ∧ SS w' rb g cap T (nx (.ok (k + 1)) (headF T small sort T.length (leafN (tk T k)))) ∧ ∀ a k', headF T small sort T.length (leafN (tk T k)) (k + 1) = .ok (a, k') → NR w' (fun b => w.heap.size ≤ b) a x := by
  have HS' := hide HS
  have hu : ofS T (.ok k) 2 = true := by simp [ofS, hk]
  have hT : T.length ≤ 1001 := by have h' : RS w rb g cap T k noFl := h; exact h'.hT
  have hlf : leafN (tk T k) = .mk 2 (tk T k).text 0 [] (tk T k).frm (tk T k).to (tk T k).frm := by unfold leafN; simp [leafK, leafNum, hk]
  have Hlf := hide hlf
  have hsm' := hide hsm
  have hm' := hide hm
  obtain ⟨i0, hi0, hz0, hz1, hz2⟩ := info_parts nodeInfo
  clear HS hk hlf hsm hm
  have hr := h.hr
  have hg := h.hg
  have H1 := hide h
  have K2 := hide (Ke.refl rb w)
  clear h
  go_enter Tryz.func114, Tryz.ntmps114
  go_wp2_with fail
  have H3 := hide ((unhide H1).alloc (.cells zNode 62))
  have K4 := hide ((unhide K2).alloc (.cells zNode 62))
  have B5 := hide (Bx.at w zNode 62 (w.heap.size) (by simp [World.setCell]))
  clear H1 K2
  refine (of_S (unhide H3) 2).mono ?_
  rintro e w1 ⟨rfl, hb⟩
  have H6 := hide ((unhide H3).below hb)
  have K7 := hide ((unhide K4).below hb)
  have z8 := hb.size
  try simp [World.setCell] at z8
  have B9 := hide ((unhide B5).below hb)
  clear H3 K4 B5 hb
  obtain ⟨c10, f11, y12⟩ := unhide B9
  go_wp2_with fail
  clear c10 f11 y12
  refine (unhide HS' _ _ (unhide H6) (by intro j hj; cases hj; omega)).mono ?_
  rintro e w2 ⟨x, rfl, hb, hS, hN⟩
  have H16 := hide hS
  have K17 := hide ((unhide K7).trans hb)
  have z18 := hb.size
  try simp [World.setCell] at z18
  have B19 := hide ((unhide B9).ke hb (by omega))
  clear H6 K7 B9 hb hS
  obtain ⟨c20, f21, y22⟩ := unhide B19
  rw [nx_ok (unhide hsm')] at H16
  have hN1 := hN _ _ _ rfl (unhide hsm')
  rw [unhide Hlf] at hN1
  clear hN
  obtain rfl : x = ⟨2, (tk T k).text, 0, none, 0, 0, ((tk T k).frm : Int), ((tk T k).to : Int), ((tk T k).frm : Int)⟩ := by
    cases hN1 with
    | leaf => rfl
    | row _ _ _ _ _ _ _ _ _ _ h0 => exact absurd rfl h0
  clear hN1
  unfold NV.v
  go_wp2_with fail
  have H23 := hide ((unhide H16).alloc (.cells #[.int .i64 2, .string (tk T k).text, .int .i64 0, .slice none 0 0, .int .i64 ((tk T k).frm : Int), .int .i64 ((tk T k).to : Int), .int .i64 ((tk T k).frm : Int)] 62))
  have K24 := hide ((unhide K17).alloc (.cells #[.int .i64 2, .string (tk T k).text, .int .i64 0, .slice none 0 0, .int .i64 ((tk T k).frm : Int), .int .i64 ((tk T k).to : Int), .int .i64 ((tk T k).frm : Int)] 62))
  have B25 := hide ((unhide B19).alloc (.cells #[.int .i64 2, .string (tk T k).text, .int .i64 0, .slice none 0 0, .int .i64 ((tk T k).frm : Int), .int .i64 ((tk T k).to : Int), .int .i64 ((tk T k).frm : Int)] 62))
  have B26 := hide (Bx.at w2 #[.int .i64 2, .string (tk T k).text, .int .i64 0, .slice none 0 0, .int .i64 ((tk T k).frm : Int), .int .i64 ((tk T k).to : Int), .int .i64 ((tk T k).frm : Int)] 62 (w2.heap.size) (by simp [World.setCell]))
  clear H16 K17 B19 c20 f21 y22
  go_loopg [] (T.length - (k + 1)) (fun gk wr => HeadRel rb g cap T small sort k w w2.heap.size gk wr)
  case atStart => exact ⟨.ok (k + 1), [], none, 0, (tk T k).to, unhide H23, unhide K24, by simp, unhide B26, unhide B25, ⟨rfl, Or.inl ⟨rfl, rfl⟩⟩, fun _ => ⟨rfl, rfl⟩, hide rfl, Nat.le_refl _, by simp, [], T.length, (fun _ => False), hide rfl, by omega, by show headF _ _ _ _ _ _ = _; rw [unhide Hlf], fun _ q => q.elim, fun _ _ q => q.elim, fun i hi _ => absurd hi (by simp)⟩
  case round =>
    clear H23 K24 B25 B26
    obtain ⟨σr, xs, va, vc, to, HR, KR, zx, BX, BR, OR, hnil, hst⟩ := hrel
    have HR := hide HR
    have KR := hide KR
    have BX := hide BX
    have BR := hide BR
    have OR := hide OR
    have hnil := hide hnil
    have zr := (unhide KR).size
    cases σr with
    | error fl =>
      obtain ⟨c0, f0, y0⟩ := unhide BX
      obtain ⟨c1, f1, y1⟩ := unhide BR
      obtain ⟨hx, hE⟩ := hst
      go_wp2_with fail
      refine (ok_S (unhide HR)).mono ?_
      rintro e w9 ⟨rfl, rfl⟩
      go_wp2_with fail
      have H501 := hide ((unhide HR).set7 (b := w.heap.size) (by omega) (by omega) (.int .i64 2) (.string (tk T k).text) (.int .i64 0) (.slice va xs.length vc) (.int .i64 ((tk T k).frm : Int)) (.int .i64 (to : Int)) (.int .i64 ((tk T k).frm : Int)))
      have K502 := hide ((unhide KR).set7 (b := w.heap.size) (by omega) (.int .i64 2) (.string (tk T k).text) (.int .i64 0) (.slice va xs.length vc) (.int .i64 ((tk T k).frm : Int)) (.int .i64 (to : Int)) (.int .i64 ((tk T k).frm : Int)))
      have B503 := hide ((unhide BR).set7 rfl (.int .i64 2) (.string (tk T k).text) (.int .i64 0) (.slice va xs.length vc) (.int .i64 ((tk T k).frm : Int)) (.int .i64 (to : Int)) (.int .i64 ((tk T k).frm : Int)))
      have B504 := hide ((unhide BX).setO7 (b := w.heap.size) (by omega) (.int .i64 2) (.string (tk T k).text) (.int .i64 0) (.slice va xs.length vc) (.int .i64 ((tk T k).frm : Int)) (.int .i64 (to : Int)) (.int .i64 ((tk T k).frm : Int)))
      have O505 := hide (own_set (own_set (own_set (own_set (own_set (own_set (own_set (unhide OR) (b := w.heap.size) (by omega) 0 (.int .i64 2)) (b := w.heap.size) (by omega) 1 (.string (tk T k).text)) (b := w.heap.size) (by omega) 2 (.int .i64 0)) (b := w.heap.size) (by omega) 3 (.slice va xs.length vc)) (b := w.heap.size) (by omega) 4 (.int .i64 ((tk T k).frm : Int))) (b := w.heap.size) (by omega) 5 (.int .i64 (to : Int))) (b := w.heap.size) (by omega) 6 (.int .i64 ((tk T k).frm : Int)))
      clear HR KR BR BX OR c0 f0 y0 c1 f1 y1
      obtain ⟨cF, fF, zF⟩ := unhide B503
      refine bodyPost_ret (v := NV.v ⟨2, (tk T k).text, 0, va, xs.length, vc, ((tk T k).frm : Int), (to : Int), ((tk T k).frm : Int)⟩) (by simp [results, Tryz.results114, go_sem, cF, NV.v]; try rfl) rfl ⟨_, rfl, unhide K502, ?_, fun a k' hq => ?_⟩
      · rw [nx_err (unhide hE)]; exact unhide H501
      · rw [unhide hE] at hq; cases hq
    | ok kr =>
      obtain ⟨hgk, hkr, hxk, L, f, P, hl, hfu, hE, hPr, hPq, hNN⟩ := hst
      have hPr := hide hPr
      have hPq := hide hPq
      have hNN := hide hNN
      have hkT : kr < T.length := by have h' : RS wr rb g cap T kr noFl := unhide HR; exact h'.hk
      rcases hbg : beginsB (tk T kr) sort with _ | _
      · obtain ⟨c0, f0, y0⟩ := unhide BX
        obtain ⟨c1, f1, y1⟩ := unhide BR
        go_wp2_with fail
        refine (ok_S (unhide HR)).mono ?_
        rintro e w9 ⟨rfl, rfl⟩
        go_wp2_with fail
        refine (next_S (unhide HR)).mono ?_
        rintro e w3 ⟨t, rfl, hb, ht⟩
        have H501 := hide ((unhide HR).below hb)
        have K502 := hide ((unhide KR).below hb)
        have z503 := hb.size
        try simp [World.setCell] at z503
        have B504 := hide ((unhide BR).below hb)
        have B505 := hide ((unhide BX).below hb)
        have R506 := hide (fun i hi h2 => NR.bel (unhide hNN i hi h2) hb)
        have O507 := hide (own_below (unhide OR) hb)
        clear HR KR BR BX hNN OR hb
        obtain ⟨c508, f509, y510⟩ := unhide B504
        obtain ⟨c511, f512, y513⟩ := unhide B505
        have ht' := ht kr rfl
        subst ht'
        clear ht
        unfold tokV
        go_wp2_with fail
        refine (begins_any (tk T kr) _ sort hs).mono ?_
        rintro e w4 ⟨rfl, hb⟩
        have H514 := hide ((unhide H501).below hb)
        have K515 := hide ((unhide K502).below hb)
        have z516 := hb.size
        try simp [World.setCell] at z516
        have B517 := hide ((unhide B504).below hb)
        have B518 := hide ((unhide B505).below hb)
        have R519 := hide (fun i hi h2 => NR.bel (unhide R506 i hi h2) hb)
        have O520 := hide (own_below (unhide O507) hb)
        clear H501 K502 B504 B505 R506 O507 hb
        obtain ⟨c521, f522, y523⟩ := unhide B517
        obtain ⟨c524, f525, y526⟩ := unhide B518
        go_wp2_with fail
        have hF : headF T small sort f (.mk 2 (tk T k).text 0 L (tk T k).frm to (tk T k).frm) kr = .ok (.mk 2 (tk T k).text 0 L (tk T k).frm to (tk T k).frm, kr) := by
          cases f with
          | zero => rfl
          | succ f => unfold headF; rw [if_neg (by simp [hbg])]
        have hE2 := hide ((unhide hE).trans hF)
        clear hF hE
        have H527 := hide ((unhide H514).set7 (b := w.heap.size) (by omega) (by omega) (.int .i64 2) (.string (tk T k).text) (.int .i64 0) (.slice va xs.length vc) (.int .i64 ((tk T k).frm : Int)) (.int .i64 (to : Int)) (.int .i64 ((tk T k).frm : Int)))
        have K528 := hide ((unhide K515).set7 (b := w.heap.size) (by omega) (.int .i64 2) (.string (tk T k).text) (.int .i64 0) (.slice va xs.length vc) (.int .i64 ((tk T k).frm : Int)) (.int .i64 (to : Int)) (.int .i64 ((tk T k).frm : Int)))
        have B529 := hide ((unhide B517).set7 rfl (.int .i64 2) (.string (tk T k).text) (.int .i64 0) (.slice va xs.length vc) (.int .i64 ((tk T k).frm : Int)) (.int .i64 (to : Int)) (.int .i64 ((tk T k).frm : Int)))
        have B530 := hide ((unhide B518).setO7 (b := w.heap.size) (by omega) (.int .i64 2) (.string (tk T k).text) (.int .i64 0) (.slice va xs.length vc) (.int .i64 ((tk T k).frm : Int)) (.int .i64 (to : Int)) (.int .i64 ((tk T k).frm : Int)))
        have R531 := hide (fun i hi h2 => (NRset7 (unhide R519 i hi h2) (b2 := w.heap.size) (fun b hb _ => by have := unhide hPr b hb; omega) (.int .i64 2) (.string (tk T k).text) (.int .i64 0) (.slice va xs.length vc) (.int .i64 ((tk T k).frm : Int)) (.int .i64 (to : Int)) (.int .i64 ((tk T k).frm : Int))))
        have O532 := hide (own_set (own_set (own_set (own_set (own_set (own_set (own_set (unhide O520) (b := w.heap.size) (by omega) 0 (.int .i64 2)) (b := w.heap.size) (by omega) 1 (.string (tk T k).text)) (b := w.heap.size) (by omega) 2 (.int .i64 0)) (b := w.heap.size) (by omega) 3 (.slice va xs.length vc)) (b := w.heap.size) (by omega) 4 (.int .i64 ((tk T k).frm : Int))) (b := w.heap.size) (by omega) 5 (.int .i64 (to : Int))) (b := w.heap.size) (by omega) 6 (.int .i64 ((tk T k).frm : Int)))
        clear H514 K515 B517 B518 R519 O520 c0 f0 y0 c1 f1 y1 c508 f509 y510 c511 f512 y513 c521 f522 y523 c524 f525 y526
        obtain ⟨cF, fF, zF⟩ := unhide B529
        refine bodyPost_ret (v := NV.v ⟨2, (tk T k).text, 0, va, xs.length, vc, ((tk T k).frm : Int), (to : Int), ((tk T k).frm : Int)⟩) (by simp [results, Tryz.results114, go_sem, cF, NV.v]; try rfl) rfl ⟨_, rfl, unhide K528, ?_, fun a k' hq => ?_⟩
        · rw [nx_ok (unhide hE2)]; exact unhide H527
        · rw [unhide hE2] at hq
          cases hq
          exact (NR.ofOwn (P := fun b => w.heap.size ≤ b) 2 _ 0 _ _ _ L xs (unhide hl) (unhide O532) (unhide hnil) (fun i hi => (unhide R531 i hi (by have := unhide hl; omega)).wide _ (fun b hb => by have := unhide hPr b hb; omega)) (fun q h1 h2 => by omega))
      · have hrow := hide (own_block (unhide OR))
        rcases hsk : small kr with fl | ⟨b, k2⟩
        · obtain ⟨c0, f0, y0⟩ := unhide BX
          obtain ⟨c1, f1, y1⟩ := unhide BR
          go_wp2_with fail
          refine (ok_S (unhide HR)).mono ?_
          rintro e w9 ⟨rfl, rfl⟩
          go_wp2_with fail
          refine (next_S (unhide HR)).mono ?_
          rintro e w3 ⟨t, rfl, hb, ht⟩
          have H501 := hide ((unhide HR).below hb)
          have K502 := hide ((unhide KR).below hb)
          have z503 := hb.size
          try simp [World.setCell] at z503
          have B504 := hide ((unhide BR).below hb)
          have B505 := hide ((unhide BX).below hb)
          have R506 := hide (fun i hi h2 => NR.bel (unhide hNN i hi h2) hb)
          have O507 := hide (own_below (unhide OR) hb)
          clear HR KR BR BX hNN OR hb
          obtain ⟨c508, f509, y510⟩ := unhide B504
          obtain ⟨c511, f512, y513⟩ := unhide B505
          have ht' := ht kr rfl
          subst ht'
          clear ht
          unfold tokV
          go_wp2_with fail
          refine (begins_any (tk T kr) _ sort hs).mono ?_
          rintro e w4 ⟨rfl, hb⟩
          have H514 := hide ((unhide H501).below hb)
          have K515 := hide ((unhide K502).below hb)
          have z516 := hb.size
          try simp [World.setCell] at z516
          have B517 := hide ((unhide B504).below hb)
          have B518 := hide ((unhide B505).below hb)
          have R519 := hide (fun i hi h2 => NR.bel (unhide R506 i hi h2) hb)
          have O520 := hide (own_below (unhide O507) hb)
          clear H501 K502 B504 B505 R506 O507 hb
          obtain ⟨c521, f522, y523⟩ := unhide B517
          obtain ⟨c524, f525, y526⟩ := unhide B518
          go_wp2_with fail
          refine (unhide HS' _ _ (unhide H514) (by intro j hj; cases hj; omega)).mono ?_
          rintro e w5 ⟨y, rfl, hb, hS, hN⟩
          have H527 := hide hS
          have K528 := hide ((unhide K515).trans hb)
          have z529 := hb.size
          try simp [World.setCell] at z529
          have B530 := hide ((unhide B517).ke hb (by omega))
          have B531 := hide ((unhide B518).ke hb (by omega))
          have R532 := hide (fun i hi h2 => NR.ke (unhide R519 i hi h2) hb (fun b hb => by have := unhide hPr b hb; omega))
          have O533 := hide (own_ke (unhide O520) hb (by omega))
          clear H514 K515 B517 B518 R519 O520 hb hS
          obtain ⟨c534, f535, y536⟩ := unhide B530
          obtain ⟨c537, f538, y539⟩ := unhide B531
          have hsk' := hide hsk
          rw [nx_err (unhide hsk')] at H527
          clear hN hsk
          unfold NV.v
          have H540 := hide (((unhide H527).alloc (.cells (nvA y) 62)).alloc (.cells (nvA y) 62))
          have K541 := hide (((unhide K528).alloc (.cells (nvA y) 62)).alloc (.cells (nvA y) 62))
          have B542 := hide (((unhide B530).alloc (.cells (nvA y) 62)).alloc (.cells (nvA y) 62))
          have B543 := hide (((unhide B531).alloc (.cells (nvA y) 62)).alloc (.cells (nvA y) 62))
          have B544 := hide ((Bx.at w5 (nvA y) 62 (w5.heap.size) (by simp [World.setCell])).alloc (.cells (nvA y) 62))
          have B545 := hide (Bx.at (w5.alloc (.cells (nvA y) 62)) #[.int .i64 y.k, .string y.s, .int .i64 y.n, .slice y.la y.ll y.lc, .int .i64 y.f, .int .i64 y.t, .int .i64 y.a] 62 (w5.heap.size + 1) (by simp [World.setCell]))
          have R546 := hide (fun i hi h2 => (NR.bel (NR.bel (unhide R532 i hi h2) ((Below.refl _ _).alloc (Nat.le_refl _) (.cells (nvA y) 62))) ((Below.refl _ _).alloc (Nat.le_refl _) (.cells (nvA y) 62))))
          have O547 := hide (((unhide O533).alloc (.cells (nvA y) 62)).alloc (.cells (nvA y) 62))
          clear H527 K528 B530 B531 R532 O533
          go_wp2_with (at_builtin; go_must (refine wpList_append_own_at _ rfl (.tmp 28) (.tmp 30) 60 rfl (w2.heap.size + 1) 62 i0 _ 7 80 nodesUnder hi0 hz0 hz1 hz2 rfl (by decide) _ _ _ rfl (unhide O547) ⟨w5.heap.size + 1, 0, none⟩ 1 1 [.int .i64 y.k, .string y.s, .int .i64 y.n, .slice y.la y.ll y.lc, .int .i64 y.f, .int .i64 y.t, .int .i64 y.a] rfl rfl (cells_at _ _ _ _ (by simp)) (by intro u hu; simp at hu; rcases hu with rfl | rfl | rfl | rfl | rfl | rfl | rfl <;> rfl) (by unfold maxLen; omega) (by omega) (by simp <;> omega) ?_; intro v3 w6 hown3 hg3 hnil3 hat3; have hex := own_some hown3 (by omega); obtain ⟨q3, c3, hv3⟩ := hex; subst hv3; have H548 := hide (SS.grown hg3 (unhide H540) (fun j hj => by have := unhide hrow j hj; omega)); have K549 := hide (Ke.grown hg3 (unhide K541) (fun j hj => by have := unhide hrow j hj; omega)); have z550 := hg3.size; try simp [World.setCell] at z550; have B551 := hide (Bx.grown hg3 (unhide B542) (fun j hj => by have := unhide hrow j hj; omega)); have B552 := hide (Bx.grown hg3 (unhide B543) (fun j hj => by have := unhide hrow j hj; omega)); have B553 := hide (Bx.grown hg3 (unhide B544) (fun j hj => by have := unhide hrow j hj; omega)); have B554 := hide (Bx.grown hg3 (unhide B545) (fun j hj => by have := unhide hrow j hj; omega)); have R555 := hide (fun i hi h2 => NR.grown hg3 (unhide R546 i hi h2) (fun j b hj hb => by have := unhide hrow j hj; have := unhide hPr b hb; have := unhide hPq b j hb hj; omega)); clear H540 K541 B542 B543 B544 B545 R546; obtain ⟨c556, f557, y558⟩ := unhide B551; obtain ⟨c559, f560, y561⟩ := unhide B552; obtain ⟨c562, f563, y564⟩ := unhide B553; obtain ⟨c565, f566, y567⟩ := unhide B554; have OW := hide hown3; have AT := hide hat3; clear hown3 hg3 hnil3 hat3))
          have H568 := hide ((unhide H548).set (b := w2.heap.size) (by omega) (by omega) 3 (.slice (some ⟨q3, 0, none⟩) (xs.length + 1) c3))
          have K569 := hide ((unhide K549).setNew (b := w2.heap.size) (by omega) 3 (.slice (some ⟨q3, 0, none⟩) (xs.length + 1) c3))
          have B570 := hide ((unhide B551).setO (b2 := w2.heap.size) (by omega) 3 (.slice (some ⟨q3, 0, none⟩) (xs.length + 1) c3))
          have B571 := hide ((unhide B552).setS 3 (.slice (some ⟨q3, 0, none⟩) (xs.length + 1) c3) #[.int .i64 2, .string (tk T k).text, .int .i64 0, .slice (some ⟨q3, 0, none⟩) (xs.length + 1) c3, .int .i64 ((tk T k).frm : Int), .int .i64 (to : Int), .int .i64 ((tk T k).frm : Int)] rfl (by simp))
          have B572 := hide ((unhide B553).setO (b2 := w2.heap.size) (by omega) 3 (.slice (some ⟨q3, 0, none⟩) (xs.length + 1) c3))
          have B573 := hide ((unhide B554).setO (b2 := w2.heap.size) (by omega) 3 (.slice (some ⟨q3, 0, none⟩) (xs.length + 1) c3))
          have R574 := hide (fun i hi h2 => (NR.set (unhide R555 i hi h2) (b2 := w2.heap.size) (fun b hb _ => by have := unhide hPr b hb; omega) 3 (.slice (some ⟨q3, 0, none⟩) (xs.length + 1) c3)))
          have O575 := hide (own_set (unhide OW) (b := w2.heap.size) (by omega) 3 (.slice (some ⟨q3, 0, none⟩) (xs.length + 1) c3))
          clear H548 K549 B551 B552 B553 B554 R555 OW c0 f0 y0 c1 f1 y1 c508 f509 y510 c511 f512 y513 c521 f522 y523 c524 f525 y526 c534 f535 y536 c537 f538 y539 c556 f557 y558 c559 f560 y561 c562 f563 y564 c565 f566 y567
          refine (last_S (unhide H568)).mono ?_
          rintro e w7 ⟨m, rfl, hb, hn⟩
          have H576 := hide ((unhide H568).below hb)
          have K577 := hide ((unhide K569).below hb)
          have z578 := hb.size
          try simp [World.setCell] at z578
          have B579 := hide ((unhide B570).below hb)
          have B580 := hide ((unhide B571).below hb)
          have B581 := hide ((unhide B572).below hb)
          have B582 := hide ((unhide B573).below hb)
          have R583 := hide (fun i hi h2 => NR.bel (unhide R574 i hi h2) hb)
          have O584 := hide (own_below (unhide O575) hb)
          clear H568 K569 B570 B571 B572 B573 R574 O575 hb
          obtain ⟨c585, f586, y587⟩ := unhide B579
          obtain ⟨c588, f589, y590⟩ := unhide B580
          obtain ⟨c591, f592, y593⟩ := unhide B581
          obtain ⟨c594, f595, y596⟩ := unhide B582
          have hn1 := hide hn
          clear hn
          go_wp2_with fail
          have H597 := hide ((unhide H576).set (b := w2.heap.size) (by omega) (by omega) 5 (.int .i64 (m : Int)))
          have K598 := hide ((unhide K577).setNew (b := w2.heap.size) (by omega) 5 (.int .i64 (m : Int)))
          have B599 := hide ((unhide B579).setO (b2 := w2.heap.size) (by omega) 5 (.int .i64 (m : Int)))
          have B600 := hide ((unhide B580).setS 5 (.int .i64 (m : Int)) #[.int .i64 2, .string (tk T k).text, .int .i64 0, .slice (some ⟨q3, 0, none⟩) (xs.length + 1) c3, .int .i64 ((tk T k).frm : Int), .int .i64 (m : Int), .int .i64 ((tk T k).frm : Int)] rfl (by simp))
          have B601 := hide ((unhide B581).setO (b2 := w2.heap.size) (by omega) 5 (.int .i64 (m : Int)))
          have B602 := hide ((unhide B582).setO (b2 := w2.heap.size) (by omega) 5 (.int .i64 (m : Int)))
          have R603 := hide (fun i hi h2 => (NR.set (unhide R583 i hi h2) (b2 := w2.heap.size) (fun b hb _ => by have := unhide hPr b hb; omega) 5 (.int .i64 (m : Int))))
          have O604 := hide (own_set (unhide O584) (b := w2.heap.size) (by omega) 5 (.int .i64 (m : Int)))
          clear H576 K577 B579 B580 B581 B582 R583 O584 c585 f586 y587 c588 f589 y590 c591 f592 y593 c594 f595 y596
          have e1 : (xs ++ [y]).length = xs.length + 1 := by simp
          have E1 := hide e1
          clear e1
          obtain ⟨f2, rfl⟩ : ∃ f2, f = f2 + 1 := ⟨f - 1, by omega⟩
          have hgk2 := unhide hgk
          go_roundg 0
          case measure => omega
          case rel =>
            refine ⟨.error fl, xs ++ [y], some ⟨q3, 0, none⟩, c3, m, unhide H597, unhide K598, by simp [World.setCell]; omega, (by rw [unhide E1]; exact unhide B600), unhide B599, (by rw [unhide E1]; exact own_num (unhide O604) rfl (by simp [flat, NV.l])), fun h => by simp at h, by rw [unhide E1]; omega, ?_⟩
            show headF _ _ _ _ _ _ = _
            rw [unhide hE, headF_err hbg (unhide hsk')]
        · obtain ⟨c0, f0, y0⟩ := unhide BX
          obtain ⟨c1, f1, y1⟩ := unhide BR
          go_wp2_with fail
          refine (ok_S (unhide HR)).mono ?_
          rintro e w9 ⟨rfl, rfl⟩
          go_wp2_with fail
          refine (next_S (unhide HR)).mono ?_
          rintro e w3 ⟨t, rfl, hb, ht⟩
          have H501 := hide ((unhide HR).below hb)
          have K502 := hide ((unhide KR).below hb)
          have z503 := hb.size
          try simp [World.setCell] at z503
          have B504 := hide ((unhide BR).below hb)
          have B505 := hide ((unhide BX).below hb)
          have R506 := hide (fun i hi h2 => NR.bel (unhide hNN i hi h2) hb)
          have O507 := hide (own_below (unhide OR) hb)
          clear HR KR BR BX hNN OR hb
          obtain ⟨c508, f509, y510⟩ := unhide B504
          obtain ⟨c511, f512, y513⟩ := unhide B505
          have ht' := ht kr rfl
          subst ht'
          clear ht
          unfold tokV
          go_wp2_with fail
          refine (begins_any (tk T kr) _ sort hs).mono ?_
          rintro e w4 ⟨rfl, hb⟩
          have H514 := hide ((unhide H501).below hb)
          have K515 := hide ((unhide K502).below hb)
          have z516 := hb.size
          try simp [World.setCell] at z516
          have B517 := hide ((unhide B504).below hb)
          have B518 := hide ((unhide B505).below hb)
          have R519 := hide (fun i hi h2 => NR.bel (unhide R506 i hi h2) hb)
          have O520 := hide (own_below (unhide O507) hb)
          clear H501 K502 B504 B505 R506 O507 hb
          obtain ⟨c521, f522, y523⟩ := unhide B517
          obtain ⟨c524, f525, y526⟩ := unhide B518
          go_wp2_with fail
          refine (unhide HS' _ _ (unhide H514) (by intro j hj; cases hj; omega)).mono ?_
          rintro e w5 ⟨y, rfl, hb, hS, hN⟩
          have H527 := hide hS
          have K528 := hide ((unhide K515).trans hb)
          have z529 := hb.size
          try simp [World.setCell] at z529
          have B530 := hide ((unhide B517).ke hb (by omega))
          have B531 := hide ((unhide B518).ke hb (by omega))
          have R532 := hide (fun i hi h2 => NR.ke (unhide R519 i hi h2) hb (fun b hb => by have := unhide hPr b hb; omega))
          have O533 := hide (own_ke (unhide O520) hb (by omega))
          clear H514 K515 B517 B518 R519 O520 hb hS
          obtain ⟨c534, f535, y536⟩ := unhide B530
          obtain ⟨c537, f538, y539⟩ := unhide B531
          have hsk' := hide hsk
          rw [nx_ok (unhide hsk')] at H527
          have hNy := hide ((hN _ _ _ rfl (unhide hsk')).rng w4.heap.size (fun b hb => by simpa using hb))
          clear hN hsk
          unfold NV.v
          have H540 := hide (((unhide H527).alloc (.cells (nvA y) 62)).alloc (.cells (nvA y) 62))
          have K541 := hide (((unhide K528).alloc (.cells (nvA y) 62)).alloc (.cells (nvA y) 62))
          have B542 := hide (((unhide B530).alloc (.cells (nvA y) 62)).alloc (.cells (nvA y) 62))
          have B543 := hide (((unhide B531).alloc (.cells (nvA y) 62)).alloc (.cells (nvA y) 62))
          have B544 := hide ((Bx.at w5 (nvA y) 62 (w5.heap.size) (by simp [World.setCell])).alloc (.cells (nvA y) 62))
          have B545 := hide (Bx.at (w5.alloc (.cells (nvA y) 62)) #[.int .i64 y.k, .string y.s, .int .i64 y.n, .slice y.la y.ll y.lc, .int .i64 y.f, .int .i64 y.t, .int .i64 y.a] 62 (w5.heap.size + 1) (by simp [World.setCell]))
          have R546 := hide (fun i hi h2 => (NR.bel (NR.bel (unhide R532 i hi h2) ((Below.refl _ _).alloc (Nat.le_refl _) (.cells (nvA y) 62))) ((Below.refl _ _).alloc (Nat.le_refl _) (.cells (nvA y) 62))))
          have R547 := hide ((NR.bel (NR.bel (unhide hNy ) ((Below.refl _ _).alloc (Nat.le_refl _) (.cells (nvA y) 62))) ((Below.refl _ _).alloc (Nat.le_refl _) (.cells (nvA y) 62))))
          have O548 := hide (((unhide O533).alloc (.cells (nvA y) 62)).alloc (.cells (nvA y) 62))
          clear H527 K528 B530 B531 R532 hNy O533
          go_wp2_with (at_builtin; go_must (refine wpList_append_own_at _ rfl (.tmp 28) (.tmp 30) 60 rfl (w2.heap.size + 1) 62 i0 _ 7 80 nodesUnder hi0 hz0 hz1 hz2 rfl (by decide) _ _ _ rfl (unhide O548) ⟨w5.heap.size + 1, 0, none⟩ 1 1 [.int .i64 y.k, .string y.s, .int .i64 y.n, .slice y.la y.ll y.lc, .int .i64 y.f, .int .i64 y.t, .int .i64 y.a] rfl rfl (cells_at _ _ _ _ (by simp)) (by intro u hu; simp at hu; rcases hu with rfl | rfl | rfl | rfl | rfl | rfl | rfl <;> rfl) (by unfold maxLen; omega) (by omega) (by simp <;> omega) ?_; intro v3 w6 hown3 hg3 hnil3 hat3; have hex := own_some hown3 (by omega); obtain ⟨q3, c3, hv3⟩ := hex; subst hv3; have H549 := hide (SS.grown hg3 (unhide H540) (fun j hj => by have := unhide hrow j hj; omega)); have K550 := hide (Ke.grown hg3 (unhide K541) (fun j hj => by have := unhide hrow j hj; omega)); have z551 := hg3.size; try simp [World.setCell] at z551; have B552 := hide (Bx.grown hg3 (unhide B542) (fun j hj => by have := unhide hrow j hj; omega)); have B553 := hide (Bx.grown hg3 (unhide B543) (fun j hj => by have := unhide hrow j hj; omega)); have B554 := hide (Bx.grown hg3 (unhide B544) (fun j hj => by have := unhide hrow j hj; omega)); have B555 := hide (Bx.grown hg3 (unhide B545) (fun j hj => by have := unhide hrow j hj; omega)); have R556 := hide (fun i hi h2 => NR.grown hg3 (unhide R546 i hi h2) (fun j b hj hb => by have := unhide hrow j hj; have := unhide hPr b hb; have := unhide hPq b j hb hj; omega)); have R557 := hide (NR.grown hg3 (unhide R547 ) (fun j b hj hb => by have := unhide hrow j hj; omega)); clear H540 K541 B542 B543 B544 B545 R546 R547; obtain ⟨c558, f559, y560⟩ := unhide B552; obtain ⟨c561, f562, y563⟩ := unhide B553; obtain ⟨c564, f565, y566⟩ := unhide B554; obtain ⟨c567, f568, y569⟩ := unhide B555; have OW := hide hown3; have AT := hide hat3; clear hown3 hg3 hnil3 hat3))
          have H570 := hide ((unhide H549).set (b := w2.heap.size) (by omega) (by omega) 3 (.slice (some ⟨q3, 0, none⟩) (xs.length + 1) c3))
          have K571 := hide ((unhide K550).setNew (b := w2.heap.size) (by omega) 3 (.slice (some ⟨q3, 0, none⟩) (xs.length + 1) c3))
          have B572 := hide ((unhide B552).setO (b2 := w2.heap.size) (by omega) 3 (.slice (some ⟨q3, 0, none⟩) (xs.length + 1) c3))
          have B573 := hide ((unhide B553).setS 3 (.slice (some ⟨q3, 0, none⟩) (xs.length + 1) c3) #[.int .i64 2, .string (tk T k).text, .int .i64 0, .slice (some ⟨q3, 0, none⟩) (xs.length + 1) c3, .int .i64 ((tk T k).frm : Int), .int .i64 (to : Int), .int .i64 ((tk T k).frm : Int)] rfl (by simp))
          have B574 := hide ((unhide B554).setO (b2 := w2.heap.size) (by omega) 3 (.slice (some ⟨q3, 0, none⟩) (xs.length + 1) c3))
          have B575 := hide ((unhide B555).setO (b2 := w2.heap.size) (by omega) 3 (.slice (some ⟨q3, 0, none⟩) (xs.length + 1) c3))
          have R576 := hide (fun i hi h2 => (NR.set (unhide R556 i hi h2) (b2 := w2.heap.size) (fun b hb _ => by have := unhide hPr b hb; omega) 3 (.slice (some ⟨q3, 0, none⟩) (xs.length + 1) c3)))
          have R577 := hide ((NR.set (unhide R557 ) (b2 := w2.heap.size) (fun b hb _ => by omega) 3 (.slice (some ⟨q3, 0, none⟩) (xs.length + 1) c3)))
          have O578 := hide (own_set (unhide OW) (b := w2.heap.size) (by omega) 3 (.slice (some ⟨q3, 0, none⟩) (xs.length + 1) c3))
          clear H549 K550 B552 B553 B554 B555 R556 R557 OW c0 f0 y0 c1 f1 y1 c508 f509 y510 c511 f512 y513 c521 f522 y523 c524 f525 y526 c534 f535 y536 c537 f538 y539 c558 f559 y560 c561 f562 y563 c564 f565 y566 c567 f568 y569
          refine (last_S (unhide H570)).mono ?_
          rintro e w7 ⟨m, rfl, hb, hn⟩
          have H579 := hide ((unhide H570).below hb)
          have K580 := hide ((unhide K571).below hb)
          have z581 := hb.size
          try simp [World.setCell] at z581
          have B582 := hide ((unhide B572).below hb)
          have B583 := hide ((unhide B573).below hb)
          have B584 := hide ((unhide B574).below hb)
          have B585 := hide ((unhide B575).below hb)
          have R586 := hide (fun i hi h2 => NR.bel (unhide R576 i hi h2) hb)
          have R587 := hide (NR.bel (unhide R577 ) hb)
          have O588 := hide (own_below (unhide O578) hb)
          clear H570 K571 B572 B573 B574 B575 R576 R577 O578 hb
          obtain ⟨c589, f590, y591⟩ := unhide B582
          obtain ⟨c592, f593, y594⟩ := unhide B583
          obtain ⟨c595, f596, y597⟩ := unhide B584
          obtain ⟨c598, f599, y600⟩ := unhide B585
          have hn1 := hide hn
          clear hn
          go_wp2_with fail
          have H601 := hide ((unhide H579).set (b := w2.heap.size) (by omega) (by omega) 5 (.int .i64 (m : Int)))
          have K602 := hide ((unhide K580).setNew (b := w2.heap.size) (by omega) 5 (.int .i64 (m : Int)))
          have B603 := hide ((unhide B582).setO (b2 := w2.heap.size) (by omega) 5 (.int .i64 (m : Int)))
          have B604 := hide ((unhide B583).setS 5 (.int .i64 (m : Int)) #[.int .i64 2, .string (tk T k).text, .int .i64 0, .slice (some ⟨q3, 0, none⟩) (xs.length + 1) c3, .int .i64 ((tk T k).frm : Int), .int .i64 (m : Int), .int .i64 ((tk T k).frm : Int)] rfl (by simp))
          have B605 := hide ((unhide B584).setO (b2 := w2.heap.size) (by omega) 5 (.int .i64 (m : Int)))
          have B606 := hide ((unhide B585).setO (b2 := w2.heap.size) (by omega) 5 (.int .i64 (m : Int)))
          have R607 := hide (fun i hi h2 => (NR.set (unhide R586 i hi h2) (b2 := w2.heap.size) (fun b hb _ => by have := unhide hPr b hb; omega) 5 (.int .i64 (m : Int))))
          have R608 := hide ((NR.set (unhide R587 ) (b2 := w2.heap.size) (fun b hb _ => by omega) 5 (.int .i64 (m : Int))))
          have O609 := hide (own_set (unhide O588) (b := w2.heap.size) (by omega) 5 (.int .i64 (m : Int)))
          clear H579 K580 B582 B583 B584 B585 R586 R587 O588 c589 f590 y591 c592 f593 y594 c595 f596 y597 c598 f599 y600
          have e1 : (xs ++ [y]).length = xs.length + 1 := by simp
          have E1 := hide e1
          clear e1
          obtain ⟨f2, rfl⟩ : ∃ f2, f = f2 + 1 := ⟨f - 1, by omega⟩
          have hk2 := unhide hm' _ _ _ (unhide hsk')
          have hgk2 := unhide hgk
          have hl2 : m = lastK T k2 := unhide hn1 k2 rfl
          subst hl2
          go_roundg (T.length - k2)
          case measure => omega
          case rel =>
            refine ⟨.ok k2, xs ++ [y], some ⟨q3, 0, none⟩, c3, lastK T k2, unhide H601, unhide K602, by simp [World.setCell]; omega, (by rw [unhide E1]; exact unhide B604), unhide B603, (by rw [unhide E1]; exact own_num (unhide O609) rfl (by simp [flat, NV.l])), fun h => by simp at h, hide rfl, by omega, by rw [unhide E1]; omega, L ++ [b], f2, (fun b => P b ∨ (w4.heap.size ≤ b ∧ b < w5.heap.size)), hide (by simp [unhide hl]), by omega, ?_, ?_, ?_, ?_⟩
            · show headF _ _ _ _ _ _ = _
              rw [unhide hE, headF_step hbg (unhide hsk')]
              rfl
            · intro b hb
              simp only [World.setCell, Array.size_modify]
              rcases hb with hb | hb
              · have := unhide hPr b hb; omega
              · omega
            · intro b q hb hq
              rcases unhide AT with a1 | a1
              · rw [unhide E1] at hq
                rw [show (Value.slice (some ⟨q3, 0, none⟩) (xs.length + 1) c3).ownBlock = some q3 from rfl] at hq a1
                cases hq
                rcases hb with hb | hb
                · exact unhide hPq b q3 hb a1.symm
                · have := unhide hrow q3 a1.symm; omega
              · rw [unhide E1] at hq
                rw [show (Value.slice (some ⟨q3, 0, none⟩) (xs.length + 1) c3).ownBlock = some q3 from rfl] at hq a1
                cases hq
                simp at a1
                rcases hb with hb | hb
                · have := unhide hPr b hb; omega
                · omega
            · intro i hi h2
              by_cases hlt : i < xs.length
              · rw [List.getElem_append_left hlt, List.getElem_append_left (by rw [← unhide hl]; exact hlt)]
                exact (unhide R607 i (by rw [← unhide hl]; exact hlt) hlt).move (Nat.le_refl _) (fun _ _ _ => rfl) (fun b hb _ => Or.inl hb)
              · have hi2 : i = xs.length := by simp at h2; omega
                subst hi2
                rw [List.getElem_append_right (Nat.le_refl _), List.getElem_append_right (by rw [unhide hl]; exact Nat.le_refl _)]
                simp only [Nat.sub_self, unhide hl, List.getElem_cons_zero]
                exact (unhide R608).move (Nat.le_refl _) (fun _ _ _ => rfl) (fun b hb _ => Or.inr hb)
end
end Go.Proofs.YtfflpeklkfjdnaaGreatDoor
namespace Go.Proofs.YtfflpeklkfjdnaaGreatDoor
open Go Go.RowKit
section
variable {rb g cap : Nat} {T : List Pu.Tok} {σ : St} {w : World}

theorem head_C {n : Nat} {small : M Nd} (sort : Nat) (hs : sort = 1 ∨ sort = 2 ∨ sort = 3) (HS : NodeC rb g cap T 199 #[.pointer (some ⟨rb, 0, none⟩), .int .i64 (sort : Int)] small n)
    (hm : ∀ k a k', small k = .ok (a, k') → k < k') (hsm : ∀ k, (tk T k).kind = 2 → small k = .ok (leafN (tk T k), k + 1)) :
    NodeC rb g cap T 114 #[.pointer (some ⟨rb, 0, none⟩), .int .i64 (sort : Int)] (headM T small sort) n := by
  intro w σ h hf
  rcases hu : ofS T σ 2 with _ | _
  · refine (head_plain h sort hf HS hu).mono ?_
    rintro e w' ⟨x, he, hK, hS, hN⟩
    have hE : ∀ k, σ = .ok k → headM T small sort k = small k := by
      intro k hk
      subst hk
      have : (tk T k).kind ≠ 2 := by simpa [ofS] using hu
      unfold headM
      rw [if_neg (by simpa using this)]
    refine ⟨x, he, hK, ?_, fun k a k' hk hq => hN k a k' hk (by rw [← hE k hk]; exact hq)⟩
    cases σ with
    | error f => exact hS
    | ok k => simp only [nx, hE k rfl]; exact hS
  · obtain ⟨k, rfl, hk⟩ := ofS_yes hu
    have hE : headM T small sort k = headF T small sort T.length (leafN (tk T k)) (k + 1) := by
      unfold headM
      rw [if_pos (by simp [hk]), bnd_ok (hsm k hk)]
    refine (head_up h sort hs (hf k rfl) HS hk hm (hsm k hk)).mono ?_
    rintro e w' ⟨x, he, hK, hS, hN⟩
    refine ⟨x, he, hK, ?_, fun j a k' hj hq => ?_⟩
    · simp only [nx, hE] at hS ⊢; exact hS
    · cases hj; exact hN a k' (by rw [← hE]; exact hq)

theorem want_mono (s : ByteArray) : ∀ k a k', wantM T s k = .ok (a, k') → k' = k + 1 := by
  intro k a k' h
  unfold wantM at h
  split at h
  · cases h; rfl
  · cases h
theorem bnd_inv {α β : Type} {m : M α} {f : α → M β} {k k' : Nat} {b : β} (h : bnd m f k = .ok (b, k')) : ∃ a k1, m k = .ok (a, k1) ∧ f a k1 = .ok (b, k') := by
  unfold bnd at h
  split at h
  · cases h
  · next a k1 hm => exact ⟨a, k1, hm, h⟩
theorem close_mono {mk : Nat → Nd} {k k' : Nat} {a : Nd} (h : closeM T mk k = .ok (a, k')) : k < k' := by
  obtain ⟨_, k1, h1, h2⟩ := bnd_inv h
  have := want_mono _ _ _ _ h1
  cases h2
  omega
theorem small_mono {part typ : M Nd} (hp : Mono part) (ht : Mono typ) (sort : Nat) : ∀ k a k', smallM T part typ sort k = .ok (a, k') → k < k' := by
  intro k a k' h
  unfold smallM at h
  split at h
  · split at h
    · unfold groupM at h
      split at h
      · cases h; omega
      · obtain ⟨a1, k1, h1, h2⟩ := bnd_inv h
        have m1 := hp _ _ _ h1
        unfold restM at h2
        split at h2
        · obtain ⟨b, k3, h3, h4⟩ := bnd_inv h2
          have := hp _ _ _ h3
          have := close_mono h4
          omega
        · split at h2
          · obtain ⟨b, k3, h3, h4⟩ := bnd_inv h2
            have := ht _ _ _ h3
            have := close_mono h4
            omega
          · have := close_mono h2
            omega
    · cases h; omega
  · cases h
theorem small_up {part typ : M Nd} (sort : Nat) : ∀ k, (tk T k).kind = 2 → smallM T part typ sort k = .ok (leafN (tk T k), k + 1) := by
  intro k hk
  have h1 : isT (tk T k) kOpen = false := by simp [isT, hk]
  have h2 : beginsB (tk T k) sort = true := by
    unfold beginsB leafK
    simp [hk]
  unfold smallM
  rw [h1, h2]
  rfl
theorem headF_mono {small : M Nd} (hm : ∀ k a k', small k = .ok (a, k') → k < k') (sort : Nat) : ∀ f x k a k', headF T small sort f x k = .ok (a, k') → k ≤ k' := by
  intro f
  induction f with
  | zero => intro x k a k' h; cases h; omega
  | succ f ih =>
    intro x k a k' h
    unfold headF at h
    split at h
    · obtain ⟨y, k1, h1, h2⟩ := bnd_inv h
      have := hm _ _ _ h1
      have := ih _ _ _ _ h2
      omega
    · cases h; omega
theorem head_mono {small : M Nd} (hm : ∀ k a k', small k = .ok (a, k') → k < k') (sort : Nat) : ∀ k a k', headM T small sort k = .ok (a, k') → k < k' := by
  intro k a k' h
  unfold headM at h
  split at h
  · obtain ⟨y, k1, h1, h2⟩ := bnd_inv h
    have := hm _ _ _ h1
    have := headF_mono hm sort _ _ _ _ _ h2
    omega
  · exact hm _ _ _ h
theorem wrong_mono {α : Type} : Mono (wrongM (α := α) T) := by
  intro k a k' h
  cases h
theorem typ_mono : ∀ n, Mono (typM T n) := by
  intro n
  induction n with
  | zero => exact wrong_mono
  | succ n ih =>
    intro k a k' h
    unfold typM at h
    obtain ⟨y, k1, h1, h2⟩ := bnd_inv h
    have := head_mono (small_mono ih ih 1) 1 _ _ _ h1
    unfold arrowM at h2
    split at h2
    · obtain ⟨z, k3, h3, h4⟩ := bnd_inv h2
      have := ih _ _ _ h3
      cases h4
      omega
    · cases h2; omega
end
end Go.Proofs.YtfflpeklkfjdnaaGreatDoor

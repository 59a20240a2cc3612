import Derived.Deep.LoopGhost
import Derived.LoopN
import Derived.Test.YtfflpeklkfjdnaaGreatDoorKSd
set_option linter.unusedSimpArgs false
set_option linter.unusedVariables false
set_option linter.unusedSectionVars false
namespace Go.Proofs.YtfflpeklkfjdnaaGreatDoor
open Go Go.RowKit
section
variable {rb g cap : Nat} {T : List Pu.Tok} {σ : St} {w : World}

set_option maxRecDepth 100000 in
set_option maxHeartbeats 4000000 in
theorem head_plain {n : Nat} {small : M Nd} (h : SS w rb g cap T σ) (sort : Nat) (hf : ∀ k, σ = .ok k → T.length ≤ k + n) (HS : NodeC rb g cap T 199 #[.pointer (some ⟨rb, 0, none⟩), .int .i64 (sort : Int)] small n) (hu : ofS T σ 2 = false) :
    Calls Tryz.prog 114 #[.pointer (some ⟨rb, 0, none⟩), .int .i64 (sort : Int)] w fun e w' => ∃ x : NV, e = .returned x.v ∧ Ke rb w w' ∧ SS w' rb g cap T (nx σ small) ∧ ∀ k a k', σ = .ok k → small k = .ok (a, k') → NR w' (fun b => w.heap.size ≤ b) a x := by
  have HS' := hide HS
  have hf' := hide hf
  clear HS hf
  have hr := h.hr
  have hg := h.hg
  have H1 := hide h
  have K2 := hide (Ke.refl rb w)
  clear h
  go_enter Tryz.func114, Tryz.ntmps114
  go_wp2_with fail
  have H3 := hide ((unhide H1).alloc (.cells zNode 62))
  have K4 := hide ((unhide K2).alloc (.cells zNode 62))
  have B5 := hide (Bx.at w zNode 62 (w.heap.size) (by simp [World.setCell]))
  clear H1 K2
  refine (of_S (unhide H3) 2).mono ?_
  rintro e w1 ⟨rfl, hb⟩
  have H6 := hide ((unhide H3).below hb)
  have K7 := hide ((unhide K4).below hb)
  have z8 := hb.size
  try simp [World.setCell] at z8
  have B9 := hide ((unhide B5).below hb)
  clear H3 K4 B5 hb
  obtain ⟨c10, f11, y12⟩ := unhide B9
  go_wp2_with fail
  clear c10 f11 y12
  refine (unhide HS' _ _ (unhide H6) (unhide hf')).mono ?_
  rintro e w2 ⟨x, rfl, hb, hS, hN⟩
  have H16 := hide hS
  have K17 := hide ((unhide K7).trans hb)
  have z18 := hb.size
  try simp [World.setCell] at z18
  have B19 := hide ((unhide B9).ke hb (by omega))
  clear H6 K7 B9 hb hS
  obtain ⟨c20, f21, y22⟩ := unhide B19
  have hN1 := hide (fun k a k' (h1 : σ = .ok k) (hq : small k = .ok (a, k')) => (hN k a k' h1 hq).rng w1.heap.size (fun b hb => by simpa using hb))
  clear hN
  unfold NV.v
  go_wp2_with fail
  refine wp_loop_rounds 1 ?_
  rw [rounds_succ]
  go_wp2_with fail
  have H23 := hide (((unhide H16).st7 (b := w.heap.size) (by omega) (by omega) x).alloc (.cells (nvA x) 62))
  have K24 := hide (((unhide K17).st7 (b := w.heap.size) (by omega) x).alloc (.cells (nvA x) 62))
  have B25 := hide (((unhide B19).st7 rfl x).alloc (.cells (nvA x) 62))
  have B26 := hide (Bx.at (((((((w2.setCell ⟨w.heap.size, 0, none⟩ (.int .i64 x.k)).setCell ⟨w.heap.size, 1, none⟩ (.string x.s)).setCell ⟨w.heap.size, 2, none⟩ (.int .i64 x.n)).setCell ⟨w.heap.size, 3, none⟩ (.slice x.la x.ll x.lc)).setCell ⟨w.heap.size, 4, none⟩ (.int .i64 x.f)).setCell ⟨w.heap.size, 5, none⟩ (.int .i64 x.t)).setCell ⟨w.heap.size, 6, none⟩ (.int .i64 x.a)) #[.int .i64 x.k, .string x.s, .int .i64 x.n, .slice x.la x.ll x.lc, .int .i64 x.f, .int .i64 x.t, .int .i64 x.a] 62 (w2.heap.size) (by simp [World.setCell]))
  have R27 := hide (fun k a k' h1 hq => (NR.bel (NRst7 (unhide hN1 k a k' h1 hq) (b2 := w.heap.size) (fun b hb _ => by omega) x) ((Below.refl _ _).alloc (Nat.le_refl _) (.cells (nvA x) 62))))
  clear H16 K17 B19 hN1 c20 f21 y22
  obtain ⟨cF, fF, zF⟩ := unhide B25
  refine bodyPost_ret (v := NV.v x) (by simp [results, Tryz.results114, go_sem, cF, NV.v]; try rfl) rfl ⟨x, rfl, unhide K24, unhide H23, fun k a k' h1 hq => ?_⟩
  exact (unhide R27 k a k' h1 hq).wide _ (fun b hb => by omega)
end
end Go.Proofs.YtfflpeklkfjdnaaGreatDoor

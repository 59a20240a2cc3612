import Derived.BigQuiet
import Derived.Deep.LoopGhost
import Derived.Deep.QuietTactic
import Derived.Test.YtfflpeklkfjdnaaGreatDoorKSa
set_option linter.unusedSimpArgs false
set_option linter.unusedVariables false
set_option linter.unusedSectionVars false
namespace Go.Proofs.YtfflpeklkfjdnaaGreatDoor
open Go Go.RowKit
section
variable {rb g cap : Nat} {T : List Pu.Tok} {σ : St} {w : World}

set_option maxRecDepth 100000 in
set_option maxHeartbeats 4000000 in
theorem small_colon {k n : Nat} {part typ : M Nd} (h : SS w rb g cap T (.ok k)) (sort : Nat) (hs : sort = 3) (hf : T.length ≤ k + (n + 1)) (ho : isT (tk T k) kOpen = true) (hc : isT (tk T (k + 1)) kClose = false)
    (HP : NodeC rb g cap T 301 #[.pointer (some ⟨rb, 0, none⟩), .int .i64 (sort : Int)] part n)
    (HT : NodeC rb g cap T 131 #[.pointer (some ⟨rb, 0, none⟩)] typ n) (hm : Mono part) {a : Nd} {k2 : Nat} (hp : part (k + 1) = .ok (a, k2)) (hk0 : isT (tk T k2) kComma = false) (hk : isT (tk T k2) kColon = true) :
    Calls Tryz.prog 199 #[.pointer (some ⟨rb, 0, none⟩), .int .i64 (sort : Int)] w fun e w' => ∃ x : NV, e = .returned x.v ∧ Ke rb w w' ∧ SS w' rb g cap T (nx (nx (.ok (k2 + 1)) typ) (wantM T kClose)) ∧
      ∀ b k3 k4, typ (k2 + 1) = .ok (b, k3) → wantM T kClose k3 = .ok ((), k4) → NR w' (fun b => w.heap.size ≤ b) (.mk 14 kNo 0 [a, b] (tk T k).frm (lastK T k4) (tk T k).frm) x := by
  have hb : beginsB (tk T k) sort = true := by unfold beginsB; rw [ho]; rfl
  obtain ⟨q5, q⟩ : (tk T k).kind = 5 ∧ ((tk T k).text.toList == [40]) = true := by rw [isT_open] at ho; simpa using ho
  have h7 : (tk T k).kind ≠ 7 := by omega
  have e5 : (((tk T k).kind : Int) != 5) = false := by rw [q5]; rfl
  have hs3 : sort = 1 ∨ sort = 2 ∨ sort = 3 := by omega
  have s1 : ((sort : Int) != 1) = true := by simp; omega
  have hC : isS T (.ok (k + 1)) kClose = false := hc
  have h7' : (tk T k2).kind ≠ 7 := by have := isT_kind hk; omega
  have hD : isS T (.ok k2) kColon = true := hk
  have hD0 : isS T (.ok k2) kComma = false := hk0
  have s3 : ((sort : Int) == 3) = true := by rw [hs]; rfl
  have HT' := hide HT
  clear HT hk0
  have hk2 := hm _ _ _ hp
  have HP' := hide HP
  have hp' := hide hp
  clear ho q5 hc hk HP hp hm hs
  have hr := h.hr
  have hg := h.hg
  have H1 := hide h
  have K2 := hide (Ke.refl rb w)
  clear h
  go_enter Tryz.func199, Tryz.ntmps199
  go_wp2_with fail
  have H3 := hide ((unhide H1).alloc (.cells zNode 62))
  have K4 := hide ((unhide K2).alloc (.cells zNode 62))
  have B5 := hide (Bx.at w zNode 62 (w.heap.size) (by simp [World.setCell]))
  clear H1 K2
  refine (next_S (unhide H3)).mono ?_
  rintro e w1 ⟨t, rfl, hb, ht⟩
  have H6 := hide ((unhide H3).below hb)
  have K7 := hide ((unhide K4).below hb)
  have z8 := hb.size
  try simp [World.setCell] at z8
  have B9 := hide ((unhide B5).below hb)
  clear H3 K4 B5 hb
  obtain ⟨c10, f11, y12⟩ := unhide B9
  have ht' := ht k rfl
  subst ht'
  clear ht
  unfold tokV
  go_wp2_with fail
  have H13 := hide ((unhide H6).alloc (.cells #[.int .i64 ((tk T k).kind : Int), .string (tk T k).text, .int .i64 ((tk T k).frm : Int), .int .i64 ((tk T k).to : Int)] 58))
  have K14 := hide ((unhide K7).alloc (.cells #[.int .i64 ((tk T k).kind : Int), .string (tk T k).text, .int .i64 ((tk T k).frm : Int), .int .i64 ((tk T k).to : Int)] 58))
  have B15 := hide ((unhide B9).alloc (.cells #[.int .i64 ((tk T k).kind : Int), .string (tk T k).text, .int .i64 ((tk T k).frm : Int), .int .i64 ((tk T k).to : Int)] 58))
  have B16 := hide (Bx.at w1 #[.int .i64 ((tk T k).kind : Int), .string (tk T k).text, .int .i64 ((tk T k).frm : Int), .int .i64 ((tk T k).to : Int)] 58 (w1.heap.size) (by simp [World.setCell]))
  clear H6 K7 B9 c10 f11 y12
  refine (ok_S (unhide H13)).mono ?_
  rintro e w2 ⟨rfl, rfl⟩
  go_wp2_with fail
  refine (begins_any (tk T k) _ sort hs3).mono ?_
  rintro e w3 ⟨rfl, hb⟩
  have H17 := hide ((unhide H13).below hb)
  have K18 := hide ((unhide K14).below hb)
  have z19 := hb.size
  try simp [World.setCell] at z19
  have B20 := hide ((unhide B15).below hb)
  have B21 := hide ((unhide B16).below hb)
  clear H13 K14 B15 B16 hb
  obtain ⟨c22, f23, y24⟩ := unhide B20
  obtain ⟨c25, f26, y27⟩ := unhide B21
  go_wp2_with fail
  clear c22 f23 y24 c25 f26 y27
  refine (pass_S (unhide H17) h7).mono ?_
  rintro e w4 ⟨rfl, hb, hS⟩
  have H32 := hide hS
  have K33 := hide ((unhide K18).trans hb)
  have z34 := hb.size
  try simp [World.setCell] at z34
  have B35 := hide ((unhide B20).ke hb (by omega))
  have B36 := hide ((unhide B21).ke hb (by omega))
  clear H17 K18 B20 B21 hb hS
  obtain ⟨c37, f38, y39⟩ := unhide B35
  obtain ⟨c40, f41, y42⟩ := unhide B36
  go_wp2_with fail
  clear c37 f38 y39 c40 f41 y42
  refine (is_S (unhide H32) kClose).mono ?_
  rintro e w5 ⟨rfl, hb⟩
  have H47 := hide ((unhide H32).below hb)
  have K48 := hide ((unhide K33).below hb)
  have z49 := hb.size
  try simp [World.setCell] at z49
  have B50 := hide ((unhide B35).below hb)
  have B51 := hide ((unhide B36).below hb)
  clear H32 K33 B35 B36 hb
  obtain ⟨c52, f53, y54⟩ := unhide B50
  obtain ⟨c55, f56, y57⟩ := unhide B51
  go_wp2_with fail
  clear c52 f53 y54 c55 f56 y57
  refine (unhide HP' _ _ (unhide H47) (by intro j hj; cases hj; omega)).mono ?_
  rintro e w6 ⟨x, rfl, hb, hS, hN⟩
  have H62 := hide hS
  have K63 := hide ((unhide K48).trans hb)
  have z64 := hb.size
  try simp [World.setCell] at z64
  have B65 := hide ((unhide B50).ke hb (by omega))
  have B66 := hide ((unhide B51).ke hb (by omega))
  clear H47 K48 B50 B51 hb hS
  obtain ⟨c67, f68, y69⟩ := unhide B65
  obtain ⟨c70, f71, y72⟩ := unhide B66
  have hN1 := hide ((hN _ _ _ rfl (unhide hp')).rng w5.heap.size (fun b hb => by simpa using hb))
  clear hN
  rw [nx_ok (unhide hp')] at H62
  unfold NV.v
  go_wp2_with fail
  have H73 := hide (((unhide H62).alloc (.cells (nvA x) 62)).alloc (.cells #[.int .i64 0, .string ⟨#[]⟩, .int .i64 0, .slice none 0 0, .int .i64 ((tk T k).frm : Int), .int .i64 0, .int .i64 ((tk T k).frm : Int)] 62))
  have K74 := hide (((unhide K63).alloc (.cells (nvA x) 62)).alloc (.cells #[.int .i64 0, .string ⟨#[]⟩, .int .i64 0, .slice none 0 0, .int .i64 ((tk T k).frm : Int), .int .i64 0, .int .i64 ((tk T k).frm : Int)] 62))
  have B75 := hide (((unhide B65).alloc (.cells (nvA x) 62)).alloc (.cells #[.int .i64 0, .string ⟨#[]⟩, .int .i64 0, .slice none 0 0, .int .i64 ((tk T k).frm : Int), .int .i64 0, .int .i64 ((tk T k).frm : Int)] 62))
  have B76 := hide (((unhide B66).alloc (.cells (nvA x) 62)).alloc (.cells #[.int .i64 0, .string ⟨#[]⟩, .int .i64 0, .slice none 0 0, .int .i64 ((tk T k).frm : Int), .int .i64 0, .int .i64 ((tk T k).frm : Int)] 62))
  have B77 := hide ((Bx.at w6 (nvA x) 62 (w6.heap.size) (by simp [World.setCell])).alloc (.cells #[.int .i64 0, .string ⟨#[]⟩, .int .i64 0, .slice none 0 0, .int .i64 ((tk T k).frm : Int), .int .i64 0, .int .i64 ((tk T k).frm : Int)] 62))
  have B78 := hide (Bx.at (w6.alloc (.cells (nvA x) 62)) #[.int .i64 0, .string ⟨#[]⟩, .int .i64 0, .slice none 0 0, .int .i64 ((tk T k).frm : Int), .int .i64 0, .int .i64 ((tk T k).frm : Int)] 62 (w6.heap.size + 1) (by simp [World.setCell]))
  have R79 := hide ((NR.bel (NR.bel (unhide hN1 ) ((Below.refl _ _).alloc (Nat.le_refl _) (.cells (nvA x) 62))) ((Below.refl _ _).alloc (Nat.le_refl _) (.cells #[.int .i64 0, .string ⟨#[]⟩, .int .i64 0, .slice none 0 0, .int .i64 ((tk T k).frm : Int), .int .i64 0, .int .i64 ((tk T k).frm : Int)] 62))))
  clear H62 K63 B65 B66 hN1 c67 f68 y69 c70 f71 y72
  refine (is_S (unhide H73) kComma).mono ?_
  rintro e w7 ⟨rfl, hb⟩
  have H80 := hide ((unhide H73).below hb)
  have K81 := hide ((unhide K74).below hb)
  have z82 := hb.size
  try simp [World.setCell] at z82
  have B83 := hide ((unhide B75).below hb)
  have B84 := hide ((unhide B76).below hb)
  have B85 := hide ((unhide B77).below hb)
  have B86 := hide ((unhide B78).below hb)
  have R87 := hide (NR.bel (unhide R79 ) hb)
  clear H73 K74 B75 B76 B77 B78 R79 hb
  obtain ⟨c88, f89, y90⟩ := unhide B83
  obtain ⟨c91, f92, y93⟩ := unhide B84
  obtain ⟨c94, f95, y96⟩ := unhide B85
  obtain ⟨c97, f98, y99⟩ := unhide B86
  go_wp2_with fail
  clear c88 f89 y90 c91 f92 y93 c94 f95 y96 c97 f98 y99
  refine (is_S (unhide H80) kColon).mono ?_
  rintro e w7b ⟨rfl, hb⟩
  have H106 := hide ((unhide H80).below hb)
  have K107 := hide ((unhide K81).below hb)
  have z108 := hb.size
  try simp [World.setCell] at z108
  have B109 := hide ((unhide B83).below hb)
  have B110 := hide ((unhide B84).below hb)
  have B111 := hide ((unhide B85).below hb)
  have B112 := hide ((unhide B86).below hb)
  have R113 := hide (NR.bel (unhide R87 ) hb)
  clear H80 K81 B83 B84 B85 B86 R87 hb
  obtain ⟨c114, f115, y116⟩ := unhide B109
  obtain ⟨c117, f118, y119⟩ := unhide B110
  obtain ⟨c120, f121, y122⟩ := unhide B111
  obtain ⟨c123, f124, y125⟩ := unhide B112
  go_wp2_with fail
  clear c114 f115 y116 c117 f118 y119 c120 f121 y122 c123 f124 y125
  refine (pass_S (unhide H106) h7').mono ?_
  rintro e w8 ⟨rfl, hb, hS⟩
  have H132 := hide hS
  have K133 := hide ((unhide K107).trans hb)
  have z134 := hb.size
  try simp [World.setCell] at z134
  have B135 := hide ((unhide B109).ke hb (by omega))
  have B136 := hide ((unhide B110).ke hb (by omega))
  have B137 := hide ((unhide B111).ke hb (by omega))
  have B138 := hide ((unhide B112).ke hb (by omega))
  have R139 := hide (NR.ke (unhide R113 ) hb (fun b hb => by omega))
  clear H106 K107 B109 B110 B111 B112 R113 hb hS
  obtain ⟨c140, f141, y142⟩ := unhide B135
  obtain ⟨c143, f144, y145⟩ := unhide B136
  obtain ⟨c146, f147, y148⟩ := unhide B137
  obtain ⟨c149, f150, y151⟩ := unhide B138
  go_wp2_with fail
  clear c140 f141 y142 c143 f144 y145 c146 f147 y148 c149 f150 y151
  refine (unhide HT' _ _ (unhide H132) (by intro j hj; cases hj; omega)).mono ?_
  rintro e w9 ⟨y, rfl, hb, hS, hN⟩
  have H158 := hide hS
  have K159 := hide ((unhide K133).trans hb)
  have z160 := hb.size
  try simp [World.setCell] at z160
  have B161 := hide ((unhide B135).ke hb (by omega))
  have B162 := hide ((unhide B136).ke hb (by omega))
  have B163 := hide ((unhide B137).ke hb (by omega))
  have B164 := hide ((unhide B138).ke hb (by omega))
  have R165 := hide (NR.ke (unhide R139 ) hb (fun b hb => by omega))
  clear H132 K133 B135 B136 B137 B138 R139 hb hS
  obtain ⟨c166, f167, y168⟩ := unhide B161
  obtain ⟨c169, f170, y171⟩ := unhide B162
  obtain ⟨c172, f173, y174⟩ := unhide B163
  obtain ⟨c175, f176, y177⟩ := unhide B164
  have hN2 := hide (fun b k3 (hq : typ (k2 + 1) = .ok (b, k3)) => (hN _ b k3 rfl hq).rng w8.heap.size (fun b hb => by simpa using hb))
  clear hN
  unfold NV.v
  go_wp2_with fail
  have H178 := hide (((((unhide H158).set (b := w6.heap.size + 1) (by omega) (by omega) 0 (.int .i64 14)).set (b := w6.heap.size + 1) (by omega) (by omega) 3 (.slice (some ⟨w9.heap.size + 1, 0, none⟩) 2 2)).alloc (.cells (nvA y) 62)).alloc (.cells (nvB x y) 62))
  have K179 := hide (((((unhide K159).setNew (b := w6.heap.size + 1) (by omega) 0 (.int .i64 14)).setNew (b := w6.heap.size + 1) (by omega) 3 (.slice (some ⟨w9.heap.size + 1, 0, none⟩) 2 2)).alloc (.cells (nvA y) 62)).alloc (.cells (nvB x y) 62))
  have B180 := hide (((((unhide B161).setO (b2 := w6.heap.size + 1) (by omega) 0 (.int .i64 14)).setO (b2 := w6.heap.size + 1) (by omega) 3 (.slice (some ⟨w9.heap.size + 1, 0, none⟩) 2 2)).alloc (.cells (nvA y) 62)).alloc (.cells (nvB x y) 62))
  have B181 := hide (((((unhide B162).setO (b2 := w6.heap.size + 1) (by omega) 0 (.int .i64 14)).setO (b2 := w6.heap.size + 1) (by omega) 3 (.slice (some ⟨w9.heap.size + 1, 0, none⟩) 2 2)).alloc (.cells (nvA y) 62)).alloc (.cells (nvB x y) 62))
  have B182 := hide (((((unhide B163).setO (b2 := w6.heap.size + 1) (by omega) 0 (.int .i64 14)).setO (b2 := w6.heap.size + 1) (by omega) 3 (.slice (some ⟨w9.heap.size + 1, 0, none⟩) 2 2)).alloc (.cells (nvA y) 62)).alloc (.cells (nvB x y) 62))
  have B183 := hide (((((unhide B164).setS 0 (.int .i64 14) #[.int .i64 14, .string ⟨#[]⟩, .int .i64 0, .slice none 0 0, .int .i64 ((tk T k).frm : Int), .int .i64 0, .int .i64 ((tk T k).frm : Int)] rfl (by simp)).setS 3 (.slice (some ⟨w9.heap.size + 1, 0, none⟩) 2 2) #[.int .i64 14, .string ⟨#[]⟩, .int .i64 0, .slice (some ⟨w9.heap.size + 1, 0, none⟩) 2 2, .int .i64 ((tk T k).frm : Int), .int .i64 0, .int .i64 ((tk T k).frm : Int)] rfl (by simp)).alloc (.cells (nvA y) 62)).alloc (.cells (nvB x y) 62))
  have B184 := hide ((Bx.at ((w9.setCell ⟨w6.heap.size + 1, 0, none⟩ (.int .i64 14)).setCell ⟨w6.heap.size + 1, 3, none⟩ (.slice (some ⟨w9.heap.size + 1, 0, none⟩) 2 2)) #[.int .i64 y.k, .string y.s, .int .i64 y.n, .slice y.la y.ll y.lc, .int .i64 y.f, .int .i64 y.t, .int .i64 y.a] 62 (w9.heap.size) (by simp [World.setCell])).alloc (.cells (nvB x y) 62))
  have B185 := hide (Bx.at (((w9.setCell ⟨w6.heap.size + 1, 0, none⟩ (.int .i64 14)).setCell ⟨w6.heap.size + 1, 3, none⟩ (.slice (some ⟨w9.heap.size + 1, 0, none⟩) 2 2)).alloc (.cells (nvA y) 62)) (nvB x y) 62 (w9.heap.size + 1) (by simp [World.setCell]))
  have R186 := hide ((NR.bel (NR.bel (NR.set (NR.set (unhide R165 ) (b2 := w6.heap.size + 1) (fun b hb _ => by omega) 0 (.int .i64 14)) (b2 := w6.heap.size + 1) (fun b hb _ => by omega) 3 (.slice (some ⟨w9.heap.size + 1, 0, none⟩) 2 2)) ((Below.refl _ _).alloc (Nat.le_refl _) (.cells (nvA y) 62))) ((Below.refl _ _).alloc (Nat.le_refl _) (.cells (nvB x y) 62))))
  have R187 := hide (fun b k3 hq => (NR.bel (NR.bel (NR.set (NR.set (unhide hN2 b k3 hq) (b2 := w6.heap.size + 1) (fun b hb _ => by omega) 0 (.int .i64 14)) (b2 := w6.heap.size + 1) (fun b hb _ => by omega) 3 (.slice (some ⟨w9.heap.size + 1, 0, none⟩) 2 2)) ((Below.refl _ _).alloc (Nat.le_refl _) (.cells (nvA y) 62))) ((Below.refl _ _).alloc (Nat.le_refl _) (.cells (nvB x y) 62))))
  clear H158 K159 B161 B162 B163 B164 R165 hN2 c166 f167 y168 c169 f170 y171 c172 f173 y174 c175 f176 y177
  refine (want_S (unhide H178) kClose).mono ?_
  rintro e w10 ⟨rfl, hb, hS⟩
  have H188 := hide hS
  have K189 := hide ((unhide K179).trans hb)
  have z190 := hb.size
  try simp [World.setCell] at z190
  have B191 := hide ((unhide B180).ke hb (by omega))
  have B192 := hide ((unhide B181).ke hb (by omega))
  have B193 := hide ((unhide B182).ke hb (by omega))
  have B194 := hide ((unhide B183).ke hb (by omega))
  have B195 := hide ((unhide B184).ke hb (by omega))
  have B196 := hide ((unhide B185).ke hb (by omega))
  have R197 := hide (NR.ke (unhide R186 ) hb (fun b hb => by omega))
  have R198 := hide (fun b k3 hq => NR.ke (unhide R187 b k3 hq) hb (fun b hb => by omega))
  clear H178 K179 B180 B181 B182 B183 B184 B185 R186 R187 hb hS
  obtain ⟨c199, f200, y201⟩ := unhide B191
  obtain ⟨c202, f203, y204⟩ := unhide B192
  obtain ⟨c205, f206, y207⟩ := unhide B193
  obtain ⟨c208, f209, y210⟩ := unhide B194
  obtain ⟨c211, f212, y213⟩ := unhide B195
  obtain ⟨c214, f215, y216⟩ := unhide B196
  go_wp2_with fail
  clear c199 f200 y201 c202 f203 y204 c205 f206 y207 c208 f209 y210 c211 f212 y213 c214 f215 y216
  refine (last_S (unhide H188)).mono ?_
  rintro e w11 ⟨m, rfl, hb, hn⟩
  have H225 := hide ((unhide H188).below hb)
  have K226 := hide ((unhide K189).below hb)
  have z227 := hb.size
  try simp [World.setCell] at z227
  have B228 := hide ((unhide B191).below hb)
  have B229 := hide ((unhide B192).below hb)
  have B230 := hide ((unhide B193).below hb)
  have B231 := hide ((unhide B194).below hb)
  have B232 := hide ((unhide B195).below hb)
  have B233 := hide ((unhide B196).below hb)
  have R234 := hide (NR.bel (unhide R197 ) hb)
  have R235 := hide (fun b k3 hq => NR.bel (unhide R198 b k3 hq) hb)
  clear H188 K189 B191 B192 B193 B194 B195 B196 R197 R198 hb
  obtain ⟨c236, f237, y238⟩ := unhide B228
  obtain ⟨c239, f240, y241⟩ := unhide B229
  obtain ⟨c242, f243, y244⟩ := unhide B230
  obtain ⟨c245, f246, y247⟩ := unhide B231
  obtain ⟨c248, f249, y250⟩ := unhide B232
  obtain ⟨c251, f252, y253⟩ := unhide B233
  have hn1 := hide hn
  clear hn
  go_wp2_with fail
  have H254 := hide (((unhide H225).set (b := w6.heap.size + 1) (by omega) (by omega) 5 (.int .i64 (m : Int))).set7 (b := w.heap.size) (by omega) (by omega) (.int .i64 14) (.string ⟨#[]⟩) (.int .i64 0) (.slice (some ⟨w9.heap.size + 1, 0, none⟩) 2 2) (.int .i64 ((tk T k).frm : Int)) (.int .i64 (m : Int)) (.int .i64 ((tk T k).frm : Int)))
  have K255 := hide (((unhide K226).setNew (b := w6.heap.size + 1) (by omega) 5 (.int .i64 (m : Int))).set7 (b := w.heap.size) (by omega) (.int .i64 14) (.string ⟨#[]⟩) (.int .i64 0) (.slice (some ⟨w9.heap.size + 1, 0, none⟩) 2 2) (.int .i64 ((tk T k).frm : Int)) (.int .i64 (m : Int)) (.int .i64 ((tk T k).frm : Int)))
  have B256 := hide (((unhide B228).setO (b2 := w6.heap.size + 1) (by omega) 5 (.int .i64 (m : Int))).set7 rfl (.int .i64 14) (.string ⟨#[]⟩) (.int .i64 0) (.slice (some ⟨w9.heap.size + 1, 0, none⟩) 2 2) (.int .i64 ((tk T k).frm : Int)) (.int .i64 (m : Int)) (.int .i64 ((tk T k).frm : Int)))
  have B257 := hide (((unhide B229).setO (b2 := w6.heap.size + 1) (by omega) 5 (.int .i64 (m : Int))).setO7 (b := w.heap.size) (by omega) (.int .i64 14) (.string ⟨#[]⟩) (.int .i64 0) (.slice (some ⟨w9.heap.size + 1, 0, none⟩) 2 2) (.int .i64 ((tk T k).frm : Int)) (.int .i64 (m : Int)) (.int .i64 ((tk T k).frm : Int)))
  have B258 := hide (((unhide B230).setO (b2 := w6.heap.size + 1) (by omega) 5 (.int .i64 (m : Int))).setO7 (b := w.heap.size) (by omega) (.int .i64 14) (.string ⟨#[]⟩) (.int .i64 0) (.slice (some ⟨w9.heap.size + 1, 0, none⟩) 2 2) (.int .i64 ((tk T k).frm : Int)) (.int .i64 (m : Int)) (.int .i64 ((tk T k).frm : Int)))
  have B259 := hide (((unhide B231).setS 5 (.int .i64 (m : Int)) #[.int .i64 14, .string ⟨#[]⟩, .int .i64 0, .slice (some ⟨w9.heap.size + 1, 0, none⟩) 2 2, .int .i64 ((tk T k).frm : Int), .int .i64 (m : Int), .int .i64 ((tk T k).frm : Int)] rfl (by simp)).setO7 (b := w.heap.size) (by omega) (.int .i64 14) (.string ⟨#[]⟩) (.int .i64 0) (.slice (some ⟨w9.heap.size + 1, 0, none⟩) 2 2) (.int .i64 ((tk T k).frm : Int)) (.int .i64 (m : Int)) (.int .i64 ((tk T k).frm : Int)))
  have B260 := hide (((unhide B232).setO (b2 := w6.heap.size + 1) (by omega) 5 (.int .i64 (m : Int))).setO7 (b := w.heap.size) (by omega) (.int .i64 14) (.string ⟨#[]⟩) (.int .i64 0) (.slice (some ⟨w9.heap.size + 1, 0, none⟩) 2 2) (.int .i64 ((tk T k).frm : Int)) (.int .i64 (m : Int)) (.int .i64 ((tk T k).frm : Int)))
  have B261 := hide (((unhide B233).setO (b2 := w6.heap.size + 1) (by omega) 5 (.int .i64 (m : Int))).setO7 (b := w.heap.size) (by omega) (.int .i64 14) (.string ⟨#[]⟩) (.int .i64 0) (.slice (some ⟨w9.heap.size + 1, 0, none⟩) 2 2) (.int .i64 ((tk T k).frm : Int)) (.int .i64 (m : Int)) (.int .i64 ((tk T k).frm : Int)))
  have R262 := hide ((NRset7 (NR.set (unhide R234 ) (b2 := w6.heap.size + 1) (fun b hb _ => by omega) 5 (.int .i64 (m : Int))) (b2 := w.heap.size) (fun b hb _ => by omega) (.int .i64 14) (.string ⟨#[]⟩) (.int .i64 0) (.slice (some ⟨w9.heap.size + 1, 0, none⟩) 2 2) (.int .i64 ((tk T k).frm : Int)) (.int .i64 (m : Int)) (.int .i64 ((tk T k).frm : Int))))
  have R263 := hide (fun b k3 hq => (NRset7 (NR.set (unhide R235 b k3 hq) (b2 := w6.heap.size + 1) (fun b hb _ => by omega) 5 (.int .i64 (m : Int))) (b2 := w.heap.size) (fun b hb _ => by omega) (.int .i64 14) (.string ⟨#[]⟩) (.int .i64 0) (.slice (some ⟨w9.heap.size + 1, 0, none⟩) 2 2) (.int .i64 ((tk T k).frm : Int)) (.int .i64 (m : Int)) (.int .i64 ((tk T k).frm : Int))))
  clear H225 K226 B228 B229 B230 B231 B232 B233 R234 R235 c236 f237 y238 c239 f240 y241 c242 f243 y244 c245 f246 y247 c248 f249 y250 c251 f252 y253
  obtain ⟨cF, fF, zF⟩ := unhide B256
  refine bodyPost_ret (v := NV.v ⟨14, kNo, 0, some ⟨w9.heap.size + 1, 0, none⟩, 2, 2, ((tk T k).frm : Int), (m : Int), ((tk T k).frm : Int)⟩) (by simp [results, Tryz.results199, go_sem, cF, NV.v]; try rfl) rfl ⟨_, rfl, unhide K255, unhide H254, fun b k3 k4 h3 h4 => ?_⟩
  have hl : m = lastK T k4 := unhide hn1 k4 (by rw [nx_ok h3, nx_ok h4])
  subst hl
  exact NR.two (P := fun b => w.heap.size ≤ b) 14 kNo 0 (tk T k).frm (lastK T k4) (tk T k).frm (unhide B261) rfl ((unhide R262).wide _ (fun b hb => by omega)) ((unhide R263 b k3 h3).wide _ (fun b hb => by omega)) (by omega) 2
end
end Go.Proofs.YtfflpeklkfjdnaaGreatDoor
namespace Go.Proofs.YtfflpeklkfjdnaaGreatDoor
open Go Go.RowKit
section
variable {rb g cap : Nat} {T : List Pu.Tok} {σ : St} {w : World}

set_option maxRecDepth 100000 in
set_option maxHeartbeats 4000000 in
theorem small_paren {k n : Nat} {part : M Nd} (h : SS w rb g cap T (.ok k)) (sort : Nat) (hs : sort = 2 ∨ sort = 3) (hf : T.length ≤ k + (n + 1)) (ho : isT (tk T k) kOpen = true) (hc : isT (tk T (k + 1)) kClose = false)
    (HP : NodeC rb g cap T 301 #[.pointer (some ⟨rb, 0, none⟩), .int .i64 (sort : Int)] part n) (hk0 : isS T (nx (.ok (k + 1)) part) kComma = false) (hk1 : sort = 3 → isS T (nx (.ok (k + 1)) part) kColon = false) :
    Calls Tryz.prog 199 #[.pointer (some ⟨rb, 0, none⟩), .int .i64 (sort : Int)] w fun e w' => ∃ x : NV, e = .returned x.v ∧ Ke rb w w' ∧ SS w' rb g cap T (nx (nx (.ok (k + 1)) part) (wantM T kClose)) ∧
      ∀ a k2, part (k + 1) = .ok (a, k2) → NR w' (fun b => w.heap.size ≤ b) a x := by
  have hb : beginsB (tk T k) sort = true := by unfold beginsB; rw [ho]; rfl
  obtain ⟨q5, q⟩ : (tk T k).kind = 5 ∧ ((tk T k).text.toList == [40]) = true := by rw [isT_open] at ho; simpa using ho
  have h7 : (tk T k).kind ≠ 7 := by omega
  have e5 : (((tk T k).kind : Int) != 5) = false := by rw [q5]; rfl
  have hs3 : sort = 1 ∨ sort = 2 ∨ sort = 3 := by omega
  have s1 : ((sort : Int) != 1) = true := by simp; omega
  have hC : isS T (.ok (k + 1)) kClose = false := hc
  have HP' := hide HP
  clear ho q5 hc HP
  rcases hs with hs | hs
  · have s3 : ((sort : Int) == 3) = false := by rw [hs]; rfl
    clear hk1 hs
    have hr := h.hr
    have hg := h.hg
    have H1 := hide h
    have K2 := hide (Ke.refl rb w)
    clear h
    go_enter Tryz.func199, Tryz.ntmps199
    go_wp2_with fail
    have H3 := hide ((unhide H1).alloc (.cells zNode 62))
    have K4 := hide ((unhide K2).alloc (.cells zNode 62))
    have B5 := hide (Bx.at w zNode 62 (w.heap.size) (by simp [World.setCell]))
    clear H1 K2
    refine (next_S (unhide H3)).mono ?_
    rintro e w1 ⟨t, rfl, hb, ht⟩
    have H6 := hide ((unhide H3).below hb)
    have K7 := hide ((unhide K4).below hb)
    have z8 := hb.size
    try simp [World.setCell] at z8
    have B9 := hide ((unhide B5).below hb)
    clear H3 K4 B5 hb
    obtain ⟨c10, f11, y12⟩ := unhide B9
    have ht' := ht k rfl
    subst ht'
    clear ht
    unfold tokV
    go_wp2_with fail
    have H13 := hide ((unhide H6).alloc (.cells #[.int .i64 ((tk T k).kind : Int), .string (tk T k).text, .int .i64 ((tk T k).frm : Int), .int .i64 ((tk T k).to : Int)] 58))
    have K14 := hide ((unhide K7).alloc (.cells #[.int .i64 ((tk T k).kind : Int), .string (tk T k).text, .int .i64 ((tk T k).frm : Int), .int .i64 ((tk T k).to : Int)] 58))
    have B15 := hide ((unhide B9).alloc (.cells #[.int .i64 ((tk T k).kind : Int), .string (tk T k).text, .int .i64 ((tk T k).frm : Int), .int .i64 ((tk T k).to : Int)] 58))
    have B16 := hide (Bx.at w1 #[.int .i64 ((tk T k).kind : Int), .string (tk T k).text, .int .i64 ((tk T k).frm : Int), .int .i64 ((tk T k).to : Int)] 58 (w1.heap.size) (by simp [World.setCell]))
    clear H6 K7 B9 c10 f11 y12
    refine (ok_S (unhide H13)).mono ?_
    rintro e w2 ⟨rfl, rfl⟩
    go_wp2_with fail
    refine (begins_any (tk T k) _ sort hs3).mono ?_
    rintro e w3 ⟨rfl, hb⟩
    have H17 := hide ((unhide H13).below hb)
    have K18 := hide ((unhide K14).below hb)
    have z19 := hb.size
    try simp [World.setCell] at z19
    have B20 := hide ((unhide B15).below hb)
    have B21 := hide ((unhide B16).below hb)
    clear H13 K14 B15 B16 hb
    obtain ⟨c22, f23, y24⟩ := unhide B20
    obtain ⟨c25, f26, y27⟩ := unhide B21
    go_wp2_with fail
    clear c22 f23 y24 c25 f26 y27
    refine (pass_S (unhide H17) h7).mono ?_
    rintro e w4 ⟨rfl, hb, hS⟩
    have H32 := hide hS
    have K33 := hide ((unhide K18).trans hb)
    have z34 := hb.size
    try simp [World.setCell] at z34
    have B35 := hide ((unhide B20).ke hb (by omega))
    have B36 := hide ((unhide B21).ke hb (by omega))
    clear H17 K18 B20 B21 hb hS
    obtain ⟨c37, f38, y39⟩ := unhide B35
    obtain ⟨c40, f41, y42⟩ := unhide B36
    go_wp2_with fail
    clear c37 f38 y39 c40 f41 y42
    refine (is_S (unhide H32) kClose).mono ?_
    rintro e w5 ⟨rfl, hb⟩
    have H47 := hide ((unhide H32).below hb)
    have K48 := hide ((unhide K33).below hb)
    have z49 := hb.size
    try simp [World.setCell] at z49
    have B50 := hide ((unhide B35).below hb)
    have B51 := hide ((unhide B36).below hb)
    clear H32 K33 B35 B36 hb
    obtain ⟨c52, f53, y54⟩ := unhide B50
    obtain ⟨c55, f56, y57⟩ := unhide B51
    go_wp2_with fail
    clear c52 f53 y54 c55 f56 y57
    refine (unhide HP' _ _ (unhide H47) (by intro j hj; cases hj; omega)).mono ?_
    rintro e w6 ⟨x, rfl, hb, hS, hN⟩
    have H62 := hide hS
    have K63 := hide ((unhide K48).trans hb)
    have z64 := hb.size
    try simp [World.setCell] at z64
    have B65 := hide ((unhide B50).ke hb (by omega))
    have B66 := hide ((unhide B51).ke hb (by omega))
    clear H47 K48 B50 B51 hb hS
    obtain ⟨c67, f68, y69⟩ := unhide B65
    obtain ⟨c70, f71, y72⟩ := unhide B66
    have hN1 := hide (fun a k2 (hq : part (k + 1) = .ok (a, k2)) => (hN _ a k2 rfl hq).rng w5.heap.size (fun b hb => by simpa using hb))
    clear hN
    unfold NV.v
    go_wp2_with fail
    have H73 := hide (((unhide H62).alloc (.cells (nvA x) 62)).alloc (.cells #[.int .i64 0, .string ⟨#[]⟩, .int .i64 0, .slice none 0 0, .int .i64 ((tk T k).frm : Int), .int .i64 0, .int .i64 ((tk T k).frm : Int)] 62))
    have K74 := hide (((unhide K63).alloc (.cells (nvA x) 62)).alloc (.cells #[.int .i64 0, .string ⟨#[]⟩, .int .i64 0, .slice none 0 0, .int .i64 ((tk T k).frm : Int), .int .i64 0, .int .i64 ((tk T k).frm : Int)] 62))
    have B75 := hide (((unhide B65).alloc (.cells (nvA x) 62)).alloc (.cells #[.int .i64 0, .string ⟨#[]⟩, .int .i64 0, .slice none 0 0, .int .i64 ((tk T k).frm : Int), .int .i64 0, .int .i64 ((tk T k).frm : Int)] 62))
    have B76 := hide (((unhide B66).alloc (.cells (nvA x) 62)).alloc (.cells #[.int .i64 0, .string ⟨#[]⟩, .int .i64 0, .slice none 0 0, .int .i64 ((tk T k).frm : Int), .int .i64 0, .int .i64 ((tk T k).frm : Int)] 62))
    have B77 := hide ((Bx.at w6 (nvA x) 62 (w6.heap.size) (by simp [World.setCell])).alloc (.cells #[.int .i64 0, .string ⟨#[]⟩, .int .i64 0, .slice none 0 0, .int .i64 ((tk T k).frm : Int), .int .i64 0, .int .i64 ((tk T k).frm : Int)] 62))
    have B78 := hide (Bx.at (w6.alloc (.cells (nvA x) 62)) #[.int .i64 0, .string ⟨#[]⟩, .int .i64 0, .slice none 0 0, .int .i64 ((tk T k).frm : Int), .int .i64 0, .int .i64 ((tk T k).frm : Int)] 62 (w6.heap.size + 1) (by simp [World.setCell]))
    have R79 := hide (fun a k2 hq => (NR.bel (NR.bel (unhide hN1 a k2 hq) ((Below.refl _ _).alloc (Nat.le_refl _) (.cells (nvA x) 62))) ((Below.refl _ _).alloc (Nat.le_refl _) (.cells #[.int .i64 0, .string ⟨#[]⟩, .int .i64 0, .slice none 0 0, .int .i64 ((tk T k).frm : Int), .int .i64 0, .int .i64 ((tk T k).frm : Int)] 62))))
    clear H62 K63 B65 B66 hN1 c67 f68 y69 c70 f71 y72
    refine (is_S (unhide H73) kComma).mono ?_
    rintro e w7 ⟨rfl, hb⟩
    have H80 := hide ((unhide H73).below hb)
    have K81 := hide ((unhide K74).below hb)
    have z82 := hb.size
    try simp [World.setCell] at z82
    have B83 := hide ((unhide B75).below hb)
    have B84 := hide ((unhide B76).below hb)
    have B85 := hide ((unhide B77).below hb)
    have B86 := hide ((unhide B78).below hb)
    have R87 := hide (fun a k2 hq => NR.bel (unhide R79 a k2 hq) hb)
    clear H73 K74 B75 B76 B77 B78 R79 hb
    obtain ⟨c88, f89, y90⟩ := unhide B83
    obtain ⟨c91, f92, y93⟩ := unhide B84
    obtain ⟨c94, f95, y96⟩ := unhide B85
    obtain ⟨c97, f98, y99⟩ := unhide B86
    go_wp2_with fail
    clear c88 f89 y90 c91 f92 y93 c94 f95 y96 c97 f98 y99
    refine (want_S (unhide H80) kClose).mono ?_
    rintro e w10 ⟨rfl, hb, hS⟩
    have H106 := hide hS
    have K107 := hide ((unhide K81).trans hb)
    have z108 := hb.size
    try simp [World.setCell] at z108
    have B109 := hide ((unhide B83).ke hb (by omega))
    have B110 := hide ((unhide B84).ke hb (by omega))
    have B111 := hide ((unhide B85).ke hb (by omega))
    have B112 := hide ((unhide B86).ke hb (by omega))
    have R113 := hide (fun a k2 hq => NR.ke (unhide R87 a k2 hq) hb (fun b hb => by omega))
    clear H80 K81 B83 B84 B85 B86 R87 hb hS
    obtain ⟨c114, f115, y116⟩ := unhide B109
    obtain ⟨c117, f118, y119⟩ := unhide B110
    obtain ⟨c120, f121, y122⟩ := unhide B111
    obtain ⟨c123, f124, y125⟩ := unhide B112
    go_wp2_with fail
    have H126 := hide ((unhide H106).st7 (b := w.heap.size) (by omega) (by omega) x)
    have K127 := hide ((unhide K107).st7 (b := w.heap.size) (by omega) x)
    have B128 := hide ((unhide B109).st7 rfl x)
    have B129 := hide ((unhide B110).stO7 (b := w.heap.size) (by omega) x)
    have B130 := hide ((unhide B111).stO7 (b := w.heap.size) (by omega) x)
    have B131 := hide ((unhide B112).stO7 (b := w.heap.size) (by omega) x)
    have R132 := hide (fun a k2 hq => (NRst7 (unhide R113 a k2 hq) (b2 := w.heap.size) (fun b hb _ => by omega) x))
    clear H106 K107 B109 B110 B111 B112 R113 c114 f115 y116 c117 f118 y119 c120 f121 y122 c123 f124 y125
    obtain ⟨cF, fF, zF⟩ := unhide B128
    refine bodyPost_ret (v := NV.v x) (by simp [results, Tryz.results199, go_sem, cF, NV.v]; try rfl) rfl ⟨x, rfl, unhide K127, unhide H126, fun a k2 h3 => ?_⟩
    exact (unhide R132 a k2 h3).wide _ (fun b hb => by omega)
  · have s3 : ((sort : Int) == 3) = true := by rw [hs]; rfl
    have hD := hk1 hs
    clear hk1 hs
    have hr := h.hr
    have hg := h.hg
    have H1 := hide h
    have K2 := hide (Ke.refl rb w)
    clear h
    go_enter Tryz.func199, Tryz.ntmps199
    go_wp2_with fail
    have H3 := hide ((unhide H1).alloc (.cells zNode 62))
    have K4 := hide ((unhide K2).alloc (.cells zNode 62))
    have B5 := hide (Bx.at w zNode 62 (w.heap.size) (by simp [World.setCell]))
    clear H1 K2
    refine (next_S (unhide H3)).mono ?_
    rintro e w1 ⟨t, rfl, hb, ht⟩
    have H6 := hide ((unhide H3).below hb)
    have K7 := hide ((unhide K4).below hb)
    have z8 := hb.size
    try simp [World.setCell] at z8
    have B9 := hide ((unhide B5).below hb)
    clear H3 K4 B5 hb
    obtain ⟨c10, f11, y12⟩ := unhide B9
    have ht' := ht k rfl
    subst ht'
    clear ht
    unfold tokV
    go_wp2_with fail
    have H13 := hide ((unhide H6).alloc (.cells #[.int .i64 ((tk T k).kind : Int), .string (tk T k).text, .int .i64 ((tk T k).frm : Int), .int .i64 ((tk T k).to : Int)] 58))
    have K14 := hide ((unhide K7).alloc (.cells #[.int .i64 ((tk T k).kind : Int), .string (tk T k).text, .int .i64 ((tk T k).frm : Int), .int .i64 ((tk T k).to : Int)] 58))
    have B15 := hide ((unhide B9).alloc (.cells #[.int .i64 ((tk T k).kind : Int), .string (tk T k).text, .int .i64 ((tk T k).frm : Int), .int .i64 ((tk T k).to : Int)] 58))
    have B16 := hide (Bx.at w1 #[.int .i64 ((tk T k).kind : Int), .string (tk T k).text, .int .i64 ((tk T k).frm : Int), .int .i64 ((tk T k).to : Int)] 58 (w1.heap.size) (by simp [World.setCell]))
    clear H6 K7 B9 c10 f11 y12
    refine (ok_S (unhide H13)).mono ?_
    rintro e w2 ⟨rfl, rfl⟩
    go_wp2_with fail
    refine (begins_any (tk T k) _ sort hs3).mono ?_
    rintro e w3 ⟨rfl, hb⟩
    have H17 := hide ((unhide H13).below hb)
    have K18 := hide ((unhide K14).below hb)
    have z19 := hb.size
    try simp [World.setCell] at z19
    have B20 := hide ((unhide B15).below hb)
    have B21 := hide ((unhide B16).below hb)
    clear H13 K14 B15 B16 hb
    obtain ⟨c22, f23, y24⟩ := unhide B20
    obtain ⟨c25, f26, y27⟩ := unhide B21
    go_wp2_with fail
    have H17 := hide (unhide H17)
    have K18 := hide (unhide K18)
    have B20 := hide (unhide B20)
    have B21 := hide (unhide B21)
    clear H17 K18 B20 B21 c22 f23 y24 c25 f26 y27
    refine (pass_S (unhide H17) h7).mono ?_
    rintro e w4 ⟨rfl, hb, hS⟩
    have H32 := hide hS
    have K33 := hide ((unhide K18).trans hb)
    have z34 := hb.size
    try simp [World.setCell] at z34
    have B35 := hide ((unhide B20).ke hb (by omega))
    have B36 := hide ((unhide B21).ke hb (by omega))
    clear H17 K18 B20 B21 hb hS
    obtain ⟨c37, f38, y39⟩ := unhide B35
    obtain ⟨c40, f41, y42⟩ := unhide B36
    go_wp2_with fail
    have H32 := hide (unhide H32)
    have K33 := hide (unhide K33)
    have B35 := hide (unhide B35)
    have B36 := hide (unhide B36)
    clear H32 K33 B35 B36 c37 f38 y39 c40 f41 y42
    refine (is_S (unhide H32) kClose).mono ?_
    rintro e w5 ⟨rfl, hb⟩
    have H47 := hide ((unhide H32).below hb)
    have K48 := hide ((unhide K33).below hb)
    have z49 := hb.size
    try simp [World.setCell] at z49
    have B50 := hide ((unhide B35).below hb)
    have B51 := hide ((unhide B36).below hb)
    clear H32 K33 B35 B36 hb
    obtain ⟨c52, f53, y54⟩ := unhide B50
    obtain ⟨c55, f56, y57⟩ := unhide B51
    go_wp2_with fail
    have H47 := hide (unhide H47)
    have K48 := hide (unhide K48)
    have B50 := hide (unhide B50)
    have B51 := hide (unhide B51)
    clear H47 K48 B50 B51 c52 f53 y54 c55 f56 y57
    refine (unhide HP' _ _ (unhide H47) (by intro j hj; cases hj; omega)).mono ?_
    rintro e w6 ⟨x, rfl, hb, hS, hN⟩
    have H62 := hide hS
    have K63 := hide ((unhide K48).trans hb)
    have z64 := hb.size
    try simp [World.setCell] at z64
    have B65 := hide ((unhide B50).ke hb (by omega))
    have B66 := hide ((unhide B51).ke hb (by omega))
    clear H47 K48 B50 B51 hb hS
    obtain ⟨c67, f68, y69⟩ := unhide B65
    obtain ⟨c70, f71, y72⟩ := unhide B66
    have hN1 := hide (fun a k2 (hq : part (k + 1) = .ok (a, k2)) => (hN _ a k2 rfl hq).rng w5.heap.size (fun b hb => by simpa using hb))
    clear hN
    unfold NV.v
    go_wp2_with fail
    have H73 := hide (((unhide H62).alloc (.cells (nvA x) 62)).alloc (.cells #[.int .i64 0, .string ⟨#[]⟩, .int .i64 0, .slice none 0 0, .int .i64 ((tk T k).frm : Int), .int .i64 0, .int .i64 ((tk T k).frm : Int)] 62))
    have K74 := hide (((unhide K63).alloc (.cells (nvA x) 62)).alloc (.cells #[.int .i64 0, .string ⟨#[]⟩, .int .i64 0, .slice none 0 0, .int .i64 ((tk T k).frm : Int), .int .i64 0, .int .i64 ((tk T k).frm : Int)] 62))
    have B75 := hide (((unhide B65).alloc (.cells (nvA x) 62)).alloc (.cells #[.int .i64 0, .string ⟨#[]⟩, .int .i64 0, .slice none 0 0, .int .i64 ((tk T k).frm : Int), .int .i64 0, .int .i64 ((tk T k).frm : Int)] 62))
    have B76 := hide (((unhide B66).alloc (.cells (nvA x) 62)).alloc (.cells #[.int .i64 0, .string ⟨#[]⟩, .int .i64 0, .slice none 0 0, .int .i64 ((tk T k).frm : Int), .int .i64 0, .int .i64 ((tk T k).frm : Int)] 62))
    have B77 := hide ((Bx.at w6 (nvA x) 62 (w6.heap.size) (by simp [World.setCell])).alloc (.cells #[.int .i64 0, .string ⟨#[]⟩, .int .i64 0, .slice none 0 0, .int .i64 ((tk T k).frm : Int), .int .i64 0, .int .i64 ((tk T k).frm : Int)] 62))
    have B78 := hide (Bx.at (w6.alloc (.cells (nvA x) 62)) #[.int .i64 0, .string ⟨#[]⟩, .int .i64 0, .slice none 0 0, .int .i64 ((tk T k).frm : Int), .int .i64 0, .int .i64 ((tk T k).frm : Int)] 62 (w6.heap.size + 1) (by simp [World.setCell]))
    have R79 := hide (fun a k2 hq => (NR.bel (NR.bel (unhide hN1 a k2 hq) ((Below.refl _ _).alloc (Nat.le_refl _) (.cells (nvA x) 62))) ((Below.refl _ _).alloc (Nat.le_refl _) (.cells #[.int .i64 0, .string ⟨#[]⟩, .int .i64 0, .slice none 0 0, .int .i64 ((tk T k).frm : Int), .int .i64 0, .int .i64 ((tk T k).frm : Int)] 62))))
    clear H62 K63 B65 B66 hN1 c67 f68 y69 c70 f71 y72
    refine (is_S (unhide H73) kComma).mono ?_
    rintro e w7 ⟨rfl, hb⟩
    have H80 := hide ((unhide H73).below hb)
    have K81 := hide ((unhide K74).below hb)
    have z82 := hb.size
    try simp [World.setCell] at z82
    have B83 := hide ((unhide B75).below hb)
    have B84 := hide ((unhide B76).below hb)
    have B85 := hide ((unhide B77).below hb)
    have B86 := hide ((unhide B78).below hb)
    have R87 := hide (fun a k2 hq => NR.bel (unhide R79 a k2 hq) hb)
    clear H73 K74 B75 B76 B77 B78 R79 hb
    obtain ⟨c88, f89, y90⟩ := unhide B83
    obtain ⟨c91, f92, y93⟩ := unhide B84
    obtain ⟨c94, f95, y96⟩ := unhide B85
    obtain ⟨c97, f98, y99⟩ := unhide B86
    go_wp2_with fail
    have H80 := hide (unhide H80)
    have K81 := hide (unhide K81)
    have B83 := hide (unhide B83)
    have B84 := hide (unhide B84)
    have B85 := hide (unhide B85)
    have B86 := hide (unhide B86)
    clear H80 K81 B83 B84 B85 B86 c88 f89 y90 c91 f92 y93 c94 f95 y96 c97 f98 y99
    refine (is_S (unhide H80) kColon).mono ?_
    rintro e w7b ⟨rfl, hb⟩
    have H106 := hide ((unhide H80).below hb)
    have K107 := hide ((unhide K81).below hb)
    have z108 := hb.size
    try simp [World.setCell] at z108
    have B109 := hide ((unhide B83).below hb)
    have B110 := hide ((unhide B84).below hb)
    have B111 := hide ((unhide B85).below hb)
    have B112 := hide ((unhide B86).below hb)
    have R113 := hide (fun a k2 hq => NR.bel (unhide R87 a k2 hq) hb)
    clear H80 K81 B83 B84 B85 B86 R87 hb
    obtain ⟨c114, f115, y116⟩ := unhide B109
    obtain ⟨c117, f118, y119⟩ := unhide B110
    obtain ⟨c120, f121, y122⟩ := unhide B111
    obtain ⟨c123, f124, y125⟩ := unhide B112
    go_wp2_with fail
    clear c114 f115 y116 c117 f118 y119 c120 f121 y122 c123 f124 y125
    refine (want_S (unhide H106) kClose).mono ?_
    rintro e w10 ⟨rfl, hb, hS⟩
    have H132 := hide hS
    have K133 := hide ((unhide K107).trans hb)
    have z134 := hb.size
    try simp [World.setCell] at z134
    have B135 := hide ((unhide B109).ke hb (by omega))
    have B136 := hide ((unhide B110).ke hb (by omega))
    have B137 := hide ((unhide B111).ke hb (by omega))
    have B138 := hide ((unhide B112).ke hb (by omega))
    have R139 := hide (fun a k2 hq => NR.ke (unhide R113 a k2 hq) hb (fun b hb => by omega))
    clear H106 K107 B109 B110 B111 B112 R113 hb hS
    obtain ⟨c140, f141, y142⟩ := unhide B135
    obtain ⟨c143, f144, y145⟩ := unhide B136
    obtain ⟨c146, f147, y148⟩ := unhide B137
    obtain ⟨c149, f150, y151⟩ := unhide B138
    go_wp2_with fail
    have H152 := hide ((unhide H132).st7 (b := w.heap.size) (by omega) (by omega) x)
    have K153 := hide ((unhide K133).st7 (b := w.heap.size) (by omega) x)
    have B154 := hide ((unhide B135).st7 rfl x)
    have B155 := hide ((unhide B136).stO7 (b := w.heap.size) (by omega) x)
    have B156 := hide ((unhide B137).stO7 (b := w.heap.size) (by omega) x)
    have B157 := hide ((unhide B138).stO7 (b := w.heap.size) (by omega) x)
    have R158 := hide (fun a k2 hq => (NRst7 (unhide R139 a k2 hq) (b2 := w.heap.size) (fun b hb _ => by omega) x))
    clear H132 K133 B135 B136 B137 B138 R139 c140 f141 y142 c143 f144 y145 c146 f147 y148 c149 f150 y151
    obtain ⟨cF, fF, zF⟩ := unhide B154
    refine bodyPost_ret (v := NV.v x) (by simp [results, Tryz.results199, go_sem, cF, NV.v]; try rfl) rfl ⟨x, rfl, unhide K153, unhide H152, fun a k2 h3 => ?_⟩
    exact (unhide R158 a k2 h3).wide _ (fun b hb => by omega)

set_option maxRecDepth 100000 in
set_option maxHeartbeats 4000000 in
theorem small_paren1 {k n : Nat} {part : M Nd} (h : SS w rb g cap T (.ok k)) (sort : Nat) (hs : sort = 1) (hf : T.length ≤ k + (n + 1)) (ho : isT (tk T k) kOpen = true)
    (HP : NodeC rb g cap T 301 #[.pointer (some ⟨rb, 0, none⟩), .int .i64 (sort : Int)] part n) (hk0 : isS T (nx (.ok (k + 1)) part) kComma = false) :
    Calls Tryz.prog 199 #[.pointer (some ⟨rb, 0, none⟩), .int .i64 (sort : Int)] w fun e w' => ∃ x : NV, e = .returned x.v ∧ Ke rb w w' ∧ SS w' rb g cap T (nx (nx (.ok (k + 1)) part) (wantM T kClose)) ∧
      ∀ a k2, part (k + 1) = .ok (a, k2) → NR w' (fun b => w.heap.size ≤ b) a x := by
  have hb : beginsB (tk T k) sort = true := by unfold beginsB; rw [ho]; rfl
  obtain ⟨q5, q⟩ : (tk T k).kind = 5 ∧ ((tk T k).text.toList == [40]) = true := by rw [isT_open] at ho; simpa using ho
  have h7 : (tk T k).kind ≠ 7 := by omega
  have e5 : (((tk T k).kind : Int) != 5) = false := by rw [q5]; rfl
  have hs3 : sort = 1 ∨ sort = 2 ∨ sort = 3 := by omega
  have s1 : ((sort : Int) != 1) = false := by rw [hs]; rfl
  have s3 : ((sort : Int) == 3) = false := by rw [hs]; rfl
  have HP' := hide HP
  clear ho q5 HP
  clear hs
  have hr := h.hr
  have hg := h.hg
  have H1 := hide h
  have K2 := hide (Ke.refl rb w)
  clear h
  go_enter Tryz.func199, Tryz.ntmps199
  go_wp2_with fail
  have H3 := hide ((unhide H1).alloc (.cells zNode 62))
  have K4 := hide ((unhide K2).alloc (.cells zNode 62))
  have B5 := hide (Bx.at w zNode 62 (w.heap.size) (by simp [World.setCell]))
  clear H1 K2
  refine (next_S (unhide H3)).mono ?_
  rintro e w1 ⟨t, rfl, hb, ht⟩
  have H6 := hide ((unhide H3).below hb)
  have K7 := hide ((unhide K4).below hb)
  have z8 := hb.size
  try simp [World.setCell] at z8
  have B9 := hide ((unhide B5).below hb)
  clear H3 K4 B5 hb
  obtain ⟨c10, f11, y12⟩ := unhide B9
  have ht' := ht k rfl
  subst ht'
  clear ht
  unfold tokV
  go_wp2_with fail
  have H13 := hide ((unhide H6).alloc (.cells #[.int .i64 ((tk T k).kind : Int), .string (tk T k).text, .int .i64 ((tk T k).frm : Int), .int .i64 ((tk T k).to : Int)] 58))
  have K14 := hide ((unhide K7).alloc (.cells #[.int .i64 ((tk T k).kind : Int), .string (tk T k).text, .int .i64 ((tk T k).frm : Int), .int .i64 ((tk T k).to : Int)] 58))
  have B15 := hide ((unhide B9).alloc (.cells #[.int .i64 ((tk T k).kind : Int), .string (tk T k).text, .int .i64 ((tk T k).frm : Int), .int .i64 ((tk T k).to : Int)] 58))
  have B16 := hide (Bx.at w1 #[.int .i64 ((tk T k).kind : Int), .string (tk T k).text, .int .i64 ((tk T k).frm : Int), .int .i64 ((tk T k).to : Int)] 58 (w1.heap.size) (by simp [World.setCell]))
  clear H6 K7 B9 c10 f11 y12
  refine (ok_S (unhide H13)).mono ?_
  rintro e w2 ⟨rfl, rfl⟩
  go_wp2_with fail
  refine (begins_any (tk T k) _ sort hs3).mono ?_
  rintro e w3 ⟨rfl, hb⟩
  have H17 := hide ((unhide H13).below hb)
  have K18 := hide ((unhide K14).below hb)
  have z19 := hb.size
  try simp [World.setCell] at z19
  have B20 := hide ((unhide B15).below hb)
  have B21 := hide ((unhide B16).below hb)
  clear H13 K14 B15 B16 hb
  obtain ⟨c22, f23, y24⟩ := unhide B20
  obtain ⟨c25, f26, y27⟩ := unhide B21
  go_wp2_with fail
  clear c22 f23 y24 c25 f26 y27
  refine (pass_S (unhide H17) h7).mono ?_
  rintro e w4 ⟨rfl, hb, hS⟩
  have H32 := hide hS
  have K33 := hide ((unhide K18).trans hb)
  have z34 := hb.size
  try simp [World.setCell] at z34
  have B35 := hide ((unhide B20).ke hb (by omega))
  have B36 := hide ((unhide B21).ke hb (by omega))
  clear H17 K18 B20 B21 hb hS
  obtain ⟨c37, f38, y39⟩ := unhide B35
  obtain ⟨c40, f41, y42⟩ := unhide B36
  go_wp2_with fail
  clear c37 f38 y39 c40 f41 y42
  refine (unhide HP' _ _ (unhide H32) (by intro j hj; cases hj; omega)).mono ?_
  rintro e w6 ⟨x, rfl, hb, hS, hN⟩
  have H47 := hide hS
  have K48 := hide ((unhide K33).trans hb)
  have z49 := hb.size
  try simp [World.setCell] at z49
  have B50 := hide ((unhide B35).ke hb (by omega))
  have B51 := hide ((unhide B36).ke hb (by omega))
  clear H32 K33 B35 B36 hb hS
  obtain ⟨c52, f53, y54⟩ := unhide B50
  obtain ⟨c55, f56, y57⟩ := unhide B51
  have hN1 := hide (fun a k2 (hq : part (k + 1) = .ok (a, k2)) => (hN _ a k2 rfl hq).rng w4.heap.size (fun b hb => by simpa using hb))
  clear hN
  unfold NV.v
  go_wp2_with fail
  have H58 := hide (((unhide H47).alloc (.cells (nvA x) 62)).alloc (.cells #[.int .i64 0, .string ⟨#[]⟩, .int .i64 0, .slice none 0 0, .int .i64 ((tk T k).frm : Int), .int .i64 0, .int .i64 ((tk T k).frm : Int)] 62))
  have K59 := hide (((unhide K48).alloc (.cells (nvA x) 62)).alloc (.cells #[.int .i64 0, .string ⟨#[]⟩, .int .i64 0, .slice none 0 0, .int .i64 ((tk T k).frm : Int), .int .i64 0, .int .i64 ((tk T k).frm : Int)] 62))
  have B60 := hide (((unhide B50).alloc (.cells (nvA x) 62)).alloc (.cells #[.int .i64 0, .string ⟨#[]⟩, .int .i64 0, .slice none 0 0, .int .i64 ((tk T k).frm : Int), .int .i64 0, .int .i64 ((tk T k).frm : Int)] 62))
  have B61 := hide (((unhide B51).alloc (.cells (nvA x) 62)).alloc (.cells #[.int .i64 0, .string ⟨#[]⟩, .int .i64 0, .slice none 0 0, .int .i64 ((tk T k).frm : Int), .int .i64 0, .int .i64 ((tk T k).frm : Int)] 62))
  have B62 := hide ((Bx.at w6 (nvA x) 62 (w6.heap.size) (by simp [World.setCell])).alloc (.cells #[.int .i64 0, .string ⟨#[]⟩, .int .i64 0, .slice none 0 0, .int .i64 ((tk T k).frm : Int), .int .i64 0, .int .i64 ((tk T k).frm : Int)] 62))
  have B63 := hide (Bx.at (w6.alloc (.cells (nvA x) 62)) #[.int .i64 0, .string ⟨#[]⟩, .int .i64 0, .slice none 0 0, .int .i64 ((tk T k).frm : Int), .int .i64 0, .int .i64 ((tk T k).frm : Int)] 62 (w6.heap.size + 1) (by simp [World.setCell]))
  have R64 := hide (fun a k2 hq => (NR.bel (NR.bel (unhide hN1 a k2 hq) ((Below.refl _ _).alloc (Nat.le_refl _) (.cells (nvA x) 62))) ((Below.refl _ _).alloc (Nat.le_refl _) (.cells #[.int .i64 0, .string ⟨#[]⟩, .int .i64 0, .slice none 0 0, .int .i64 ((tk T k).frm : Int), .int .i64 0, .int .i64 ((tk T k).frm : Int)] 62))))
  clear H47 K48 B50 B51 hN1 c52 f53 y54 c55 f56 y57
  refine (is_S (unhide H58) kComma).mono ?_
  rintro e w7 ⟨rfl, hb⟩
  have H65 := hide ((unhide H58).below hb)
  have K66 := hide ((unhide K59).below hb)
  have z67 := hb.size
  try simp [World.setCell] at z67
  have B68 := hide ((unhide B60).below hb)
  have B69 := hide ((unhide B61).below hb)
  have B70 := hide ((unhide B62).below hb)
  have B71 := hide ((unhide B63).below hb)
  have R72 := hide (fun a k2 hq => NR.bel (unhide R64 a k2 hq) hb)
  clear H58 K59 B60 B61 B62 B63 R64 hb
  obtain ⟨c73, f74, y75⟩ := unhide B68
  obtain ⟨c76, f77, y78⟩ := unhide B69
  obtain ⟨c79, f80, y81⟩ := unhide B70
  obtain ⟨c82, f83, y84⟩ := unhide B71
  go_wp2_with fail
  clear c73 f74 y75 c76 f77 y78 c79 f80 y81 c82 f83 y84
  refine (want_S (unhide H65) kClose).mono ?_
  rintro e w10 ⟨rfl, hb, hS⟩
  have H91 := hide hS
  have K92 := hide ((unhide K66).trans hb)
  have z93 := hb.size
  try simp [World.setCell] at z93
  have B94 := hide ((unhide B68).ke hb (by omega))
  have B95 := hide ((unhide B69).ke hb (by omega))
  have B96 := hide ((unhide B70).ke hb (by omega))
  have B97 := hide ((unhide B71).ke hb (by omega))
  have R98 := hide (fun a k2 hq => NR.ke (unhide R72 a k2 hq) hb (fun b hb => by omega))
  clear H65 K66 B68 B69 B70 B71 R72 hb hS
  obtain ⟨c99, f100, y101⟩ := unhide B94
  obtain ⟨c102, f103, y104⟩ := unhide B95
  obtain ⟨c105, f106, y107⟩ := unhide B96
  obtain ⟨c108, f109, y110⟩ := unhide B97
  go_wp2_with fail
  have H111 := hide ((unhide H91).st7 (b := w.heap.size) (by omega) (by omega) x)
  have K112 := hide ((unhide K92).st7 (b := w.heap.size) (by omega) x)
  have B113 := hide ((unhide B94).st7 rfl x)
  have B114 := hide ((unhide B95).stO7 (b := w.heap.size) (by omega) x)
  have B115 := hide ((unhide B96).stO7 (b := w.heap.size) (by omega) x)
  have B116 := hide ((unhide B97).stO7 (b := w.heap.size) (by omega) x)
  have R117 := hide (fun a k2 hq => (NRst7 (unhide R98 a k2 hq) (b2 := w.heap.size) (fun b hb _ => by omega) x))
  clear H91 K92 B94 B95 B96 B97 R98 c99 f100 y101 c102 f103 y104 c105 f106 y107 c108 f109 y110
  obtain ⟨cF, fF, zF⟩ := unhide B113
  refine bodyPost_ret (v := NV.v x) (by simp [results, Tryz.results199, go_sem, cF, NV.v]; try rfl) rfl ⟨x, rfl, unhide K112, unhide H111, fun a k2 h3 => ?_⟩
  exact (unhide R117 a k2 h3).wide _ (fun b hb => by omega)
end
end Go.Proofs.YtfflpeklkfjdnaaGreatDoor
namespace Go.Proofs.YtfflpeklkfjdnaaGreatDoor
open Go Go.RowKit
section
variable {rb g cap : Nat} {T : List Pu.Tok} {σ : St} {w : World}

theorem bnd_ok {α β : Type} {m : M α} {f : α → M β} {k k' : Nat} {a : α} (h : m k = .ok (a, k')) : bnd m f k = f a k' := by simp only [bnd, h]
theorem bnd_err {α β : Type} {m : M α} {f : α → M β} {k : Nat} {e : Fl} (h : m k = .error e) : bnd m f k = .error e := by simp only [bnd, h]

theorem small_C {n : Nat} {part typ : M Nd} (sort : Nat) (hs : sort = 1 ∨ sort = 2 ∨ sort = 3)
    (HP : NodeC rb g cap T 301 #[.pointer (some ⟨rb, 0, none⟩), .int .i64 (sort : Int)] part n) (HT : sort = 3 → NodeC rb g cap T 131 #[.pointer (some ⟨rb, 0, none⟩)] typ n) (hm : Mono part) :
    NodeC rb g cap T 199 #[.pointer (some ⟨rb, 0, none⟩), .int .i64 (sort : Int)] (smallM T part typ sort) (n + 1) := by
  intro w σ h hf
  cases σ with
  | error fl =>
    refine (small_bad h sort).mono ?_
    rintro e w' ⟨rfl, hK, hS⟩
    exact ⟨_, rfl, hK, hS, fun k a k' hk => by cases hk⟩
  | ok k =>
    have hf' := hf k rfl
    rcases hb : beginsB (tk T k) sort with _ | _
    · refine (small_no h sort hs hb).mono ?_
      rintro e w' ⟨rfl, hK, hS⟩
      have hM : smallM T part typ sort k = .error (flOf (tk T k)) := by unfold smallM; rw [hb]; rfl
      refine ⟨_, rfl, hK, by rw [nx_err hM]; exact hS, fun j a k' hj hq => ?_⟩
      cases hj
      rw [hM] at hq
      cases hq
    rcases ho : isT (tk T k) kOpen with _ | _
    · refine (small_leaf h sort hs hb ho).mono ?_
      rintro e w' ⟨rfl, hK, hS⟩
      have hM : smallM T part typ sort k = .ok (leafN (tk T k), k + 1) := by unfold smallM; rw [hb, ho]; rfl
      refine ⟨⟨(leafK (tk T k) : Int), (tk T k).text, (leafNum (tk T k) : Int), none, 0, 0, ((tk T k).frm : Int), ((tk T k).to : Int), ((tk T k).frm : Int)⟩, rfl, hK, by rw [nx_ok hM]; exact hS, fun j a k' hj hq => ?_⟩
      cases hj
      rw [hM] at hq
      cases hq
      exact .leaf _ _ _ _ _ _
    have hG : smallM T part typ sort k = groupM T part typ sort (tk T k).frm (k + 1) := by unfold smallM; rw [hb, ho]; rfl
    by_cases hu : sort ≠ 1 ∧ isT (tk T (k + 1)) kClose = true
    · refine (small_unit h sort (by omega) ho hu.2).mono ?_
      rintro e w' ⟨rfl, hK, hS⟩
      have hM : smallM T part typ sort k = .ok (.mk 5 kNo 0 [] (tk T k).frm (lastK T (k + 2)) (tk T k).frm, k + 2) := by rw [hG]; unfold groupM; rw [if_pos hu]
      refine ⟨⟨5, kNo, 0, none, 0, 0, ((tk T k).frm : Int), (lastK T (k + 2) : Int), ((tk T k).frm : Int)⟩, rfl, hK, by rw [nx_ok hM]; exact hS, fun j a k' hj hq => ?_⟩
      cases hj
      rw [hM] at hq
      cases hq
      exact .leaf _ _ _ _ _ _
    have hG2 : smallM T part typ sort k = bnd part (restM T part typ sort (tk T k).frm) (k + 1) := by rw [hG]; unfold groupM; rw [if_neg hu]
    have hcl : sort ≠ 1 → isT (tk T (k + 1)) kClose = false := fun hs1 => by
      rcases q : isT (tk T (k + 1)) kClose with _ | _
      · rfl
      · exact absurd ⟨hs1, q⟩ hu
    -- what stands behind the first part
    rcases hp : part (k + 1) with fl | ⟨a, k2⟩
    · have hM : smallM T part typ sort k = .error fl := by rw [hG2, bnd_err hp]
      have fin : ∀ e w', (∃ x : NV, e = Ending.returned x.v ∧ Ke rb w w' ∧ SS w' rb g cap T (nx (nx (.ok (k + 1)) part) (wantM T kClose)) ∧ ∀ a k2, part (k + 1) = .ok (a, k2) → NR w' (fun b => w.heap.size ≤ b) a x) →
          ∃ x : NV, e = Ending.returned x.v ∧ Ke rb w w' ∧ SS w' rb g cap T (nx (.ok k) (smallM T part typ sort)) ∧ ∀ j a k', (Except.ok k : St) = .ok j → smallM T part typ sort j = .ok (a, k') → NR w' (fun b => w.heap.size ≤ b) a x := by
        rintro e w' ⟨x, he, hK, hS, hN⟩
        refine ⟨x, he, hK, by rw [nx_err hM]; rw [nx_err hp] at hS; exact hS, fun j a k' hj hq => ?_⟩
        cases hj
        rw [hM] at hq
        cases hq
      by_cases h1 : sort = 1
      · exact (small_paren1 h sort h1 hf' ho HP (by rw [nx_err hp]; rfl)).mono fin
      · exact (small_paren h sort (by omega) hf' ho (hcl h1) HP (by rw [nx_err hp]; rfl) (fun _ => by rw [nx_err hp]; rfl)).mono fin
    have hG3 : smallM T part typ sort k = restM T part typ sort (tk T k).frm a k2 := by rw [hG2, bnd_ok hp]
    rcases hc : isT (tk T k2) kComma with _ | _
    · by_cases h3 : sort = 3 ∧ isT (tk T k2) kColon = true
      · have hG4 : smallM T part typ sort k = bnd typ (fun b => closeM T fun k' => .mk 14 kNo 0 [a, b] (tk T k).frm (lastK T k') (tk T k).frm) (k2 + 1) := by rw [hG3]; unfold restM; rw [if_neg (by simp [hc]), if_pos h3]
        refine (small_colon h sort h3.1 hf' ho (hcl (by omega)) HP (HT h3.1) hm hp hc h3.2).mono ?_
        rintro e w' ⟨x, he, hK, hS, hN⟩
        rcases hq2 : typ (k2 + 1) with fl | ⟨b, k3⟩
        · have hM : smallM T part typ sort k = .error fl := by rw [hG4, bnd_err hq2]
          refine ⟨x, he, hK, by rw [nx_err hM]; rw [nx_err hq2] at hS; exact hS, fun j a k' hj hq => ?_⟩
          cases hj; rw [hM] at hq; cases hq
        · rcases hq3 : wantM T kClose k3 with fl | ⟨u, k4⟩
          · have hM : smallM T part typ sort k = .error fl := by rw [hG4, bnd_ok hq2]; unfold closeM; rw [bnd_err hq3]
            refine ⟨x, he, hK, by rw [nx_err hM]; rw [nx_ok hq2, nx_err hq3] at hS; exact hS, fun j a k' hj hq => ?_⟩
            cases hj; rw [hM] at hq; cases hq
          · have hM : smallM T part typ sort k = .ok (.mk 14 kNo 0 [a, b] (tk T k).frm (lastK T k4) (tk T k).frm, k4) := by rw [hG4, bnd_ok hq2]; unfold closeM; rw [bnd_ok hq3]
            refine ⟨x, he, hK, by rw [nx_ok hM]; rw [nx_ok hq2, nx_ok hq3] at hS; exact hS, fun j a k' hj hq => ?_⟩
            cases hj; rw [hM] at hq; cases hq
            exact hN b k3 k4 hq2 hq3
      · have hG4 : smallM T part typ sort k = closeM T (fun _ => a) k2 := by rw [hG3]; unfold restM; rw [if_neg (by simp [hc]), if_neg h3]
        have fin : ∀ e w', (∃ x : NV, e = Ending.returned x.v ∧ Ke rb w w' ∧ SS w' rb g cap T (nx (nx (.ok (k + 1)) part) (wantM T kClose)) ∧ ∀ a k2, part (k + 1) = .ok (a, k2) → NR w' (fun b => w.heap.size ≤ b) a x) →
            ∃ x : NV, e = Ending.returned x.v ∧ Ke rb w w' ∧ SS w' rb g cap T (nx (.ok k) (smallM T part typ sort)) ∧ ∀ j a k', (Except.ok k : St) = .ok j → smallM T part typ sort j = .ok (a, k') → NR w' (fun b => w.heap.size ≤ b) a x := by
          rintro e w' ⟨x, he, hK, hS, hN⟩
          rcases hq3 : wantM T kClose k2 with fl | ⟨u, k4⟩
          · have hM : smallM T part typ sort k = .error fl := by rw [hG4]; unfold closeM; rw [bnd_err hq3]
            refine ⟨x, he, hK, by rw [nx_err hM]; rw [nx_ok hp, nx_err hq3] at hS; exact hS, fun j a k' hj hq => ?_⟩
            cases hj; rw [hM] at hq; cases hq
          · have hM : smallM T part typ sort k = .ok (a, k4) := by rw [hG4]; unfold closeM; rw [bnd_ok hq3]
            refine ⟨x, he, hK, by rw [nx_ok hM]; rw [nx_ok hp, nx_ok hq3] at hS; exact hS, fun j a' k' hj hq => ?_⟩
            cases hj; rw [hM] at hq; cases hq
            exact hN a k2 hp
        by_cases h1 : sort = 1
        · exact (small_paren1 h sort h1 hf' ho HP (by rw [nx_ok hp]; exact hc)).mono fin
        · exact (small_paren h sort (by omega) hf' ho (hcl h1) HP (by rw [nx_ok hp]; exact hc) (fun h3' => by
            rw [nx_ok hp]
            rcases q : isT (tk T k2) kColon with _ | _
            · exact q
            · exact absurd ⟨h3', q⟩ h3)).mono fin
    · have hG4 : smallM T part typ sort k = bnd part (fun b => closeM T fun k' => .mk 6 kNo 0 [a, b] (tk T k).frm (lastK T k') (tk T k).frm) (k2 + 1) := by rw [hG3]; unfold restM; rw [if_pos hc]
      have fin : ∀ e w', (∃ x : NV, e = Ending.returned x.v ∧ Ke rb w w' ∧ SS w' rb g cap T (nx (nx (.ok (k2 + 1)) part) (wantM T kClose)) ∧ ∀ b k3 k4, part (k2 + 1) = .ok (b, k3) → wantM T kClose k3 = .ok ((), k4) → NR w' (fun b => w.heap.size ≤ b) (.mk 6 kNo 0 [a, b] (tk T k).frm (lastK T k4) (tk T k).frm) x) →
          ∃ x : NV, e = Ending.returned x.v ∧ Ke rb w w' ∧ SS w' rb g cap T (nx (.ok k) (smallM T part typ sort)) ∧ ∀ j a k', (Except.ok k : St) = .ok j → smallM T part typ sort j = .ok (a, k') → NR w' (fun b => w.heap.size ≤ b) a x := by
        rintro e w' ⟨x, he, hK, hS, hN⟩
        rcases hq2 : part (k2 + 1) with fl | ⟨b, k3⟩
        · have hM : smallM T part typ sort k = .error fl := by rw [hG4, bnd_err hq2]
          refine ⟨x, he, hK, by rw [nx_err hM]; rw [nx_err hq2] at hS; exact hS, fun j a k' hj hq => ?_⟩
          cases hj; rw [hM] at hq; cases hq
        · rcases hq3 : wantM T kClose k3 with fl | ⟨u, k4⟩
          · have hM : smallM T part typ sort k = .error fl := by rw [hG4, bnd_ok hq2]; unfold closeM; rw [bnd_err hq3]
            refine ⟨x, he, hK, by rw [nx_err hM]; rw [nx_ok hq2, nx_err hq3] at hS; exact hS, fun j a k' hj hq => ?_⟩
            cases hj; rw [hM] at hq; cases hq
          · have hM : smallM T part typ sort k = .ok (.mk 6 kNo 0 [a, b] (tk T k).frm (lastK T k4) (tk T k).frm, k4) := by rw [hG4, bnd_ok hq2]; unfold closeM; rw [bnd_ok hq3]
            refine ⟨x, he, hK, by rw [nx_ok hM]; rw [nx_ok hq2, nx_ok hq3] at hS; exact hS, fun j a k' hj hq => ?_⟩
            cases hj; rw [hM] at hq; cases hq
            exact hN b k3 k4 hq2 hq3
      by_cases h1 : sort = 1
      · exact (small_pair1 h sort h1 hf' ho HP hm hp hc).mono fin
      · exact (small_pair h sort (by omega) hf' ho (hcl h1) HP hm hp hc).mono fin
end
end Go.Proofs.YtfflpeklkfjdnaaGreatDoor
namespace Go.Proofs.YtfflpeklkfjdnaaGreatDoor
open Go Go.RowKit Un

/-- How far a type's head is known. -/
def far (rk : Nat → Nat) : Ty → Nat
  | .var n => rk n + 1
  | .con _ _ => 0
abbrev zTy : Array Value := #[.int .i64 0, .string ⟨#[]⟩, .slice none 0 0]
def TV.a (x : TV) : Array Value := #[.int .i64 x.n, .string x.s, .slice x.la x.ll x.lc]
theorem Bx.set3 {w : World} {b : Nat} {C : Array Value} (h : Bx w b C) (hC : C.size = 3) (v0 v1 v2 : Value) : Bx (((w.setCell ⟨b, 0, none⟩ v0).setCell ⟨b, 1, none⟩ v1).setCell ⟨b, 2, none⟩ v2) b #[v0, v1, v2] := by
  obtain ⟨a0, a1, a2, rfl⟩ : ∃ a0 a1 a2, C = #[a0, a1, a2] := by
    obtain ⟨l⟩ := C
    match l, hC with
    | [a, b, c], _ => exact ⟨a, b, c, rfl⟩
  exact ((h.setS 0 v0 #[v0, a1, a2] rfl (by simp)).setS 1 v1 #[v0, v1, a2] rfl (by simp)).setS 2 v2 #[v0, v1, v2] rfl (by simp)
theorem _root_.Go.RowKit.Below.drewN {B : Nat} {a w : World} (h : Below B a w) (n : Nat) : Below B a (w.drewN n) := ⟨h.os, h.tape, h.output, h.size, h.block⟩
theorem Bx.drewN {w : World} {b : Nat} {C : Array Value} (h : Bx w b C) (n : Nat) : Bx (w.drewN n) b C := h.below ((Below.refl _ _).drewN n)
theorem _root_.Go.RowKit.Below.set3 {B : Nat} {a w : World} (h : Below B a w) {b : Nat} (hb : B ≤ b) (v0 v1 v2 : Value) : Below B a (((w.setCell ⟨b, 0, none⟩ v0).setCell ⟨b, 1, none⟩ v1).setCell ⟨b, 2, none⟩ v2) :=
  ((h.setCell (p := ⟨b, 0, none⟩) hb v0).setCell (p := ⟨b, 1, none⟩) hb v1).setCell (p := ⟨b, 2, none⟩) hb v2
section
variable {w : World} {kb : Nat} {hv iv : Value} {N : Nat} {K : Nat → Option Ty} {P : Nat → Prop} {R : Nat → Ty} {rk : Nat → Nat}

/-- Ahead of each round of look. -/
def LookRel (w : World) (P : Nat → Prop) (N : Nat) (R : Nat → Ty) (rk : Nat → Nat) (t0 : Ty) (gk : Nat) (wr : World) : Prop :=
  ∃ t x, Hid (gk = far rk t) ∧ Below w.heap.size w wr ∧ Bx wr w.heap.size x.a ∧ Bx wr (w.heap.size + 1) zTy ∧ TR w P N t x ∧ Hid (sub R t = sub R t0)

set_option maxRecDepth 100000 in
set_option maxHeartbeats 4000000 in
theorem look_C (h : KS w kb hv iv N K P) (hK : Knw K R rk) {t : Ty} {x : TV} (hx : TR w P N t x) :
    Calls Tryz.prog 69 #[.pointer (some ⟨kb, 0, none⟩), x.v] w fun e w' => ∃ t' x', e = .returned (TV.v x') ∧ Below w.heap.size w w' ∧ TR w P N t' x' ∧ sub R t' = sub R t ∧ ∀ n, t' = .var n → K n = none := by
  have H := hide h
  have HK := hide hK
  have HX := hide hx
  have hkb := h.hk
  have B1 := hide (Bx.at (w.alloc (.cells x.a 85)) zTy 85 (w.heap.size + 1) (by simp))
  have B0 := hide ((Bx.new w x.a 85).alloc (.cells zTy 85))
  have HB := hide (((Below.refl w.heap.size w).alloc (Nat.le_refl _) (.cells x.a 85)).alloc (by simp) (.cells zTy 85))
  clear h hK hx
  unfold TV.v
  go_enter Tryz.func69, Tryz.ntmps69
  go_wp2_with fail
  go_loopg [] (far rk t) (fun gk wr => LookRel w P N R rk t gk wr)
  case atStart => exact ⟨t, x, hide rfl, unhide HB, unhide B0, unhide B1, unhide HX, hide rfl⟩
  case round =>
    clear B0 B1 HB HX
    obtain ⟨t1, x1, hgk, HB, B0, B1, HX, HS⟩ := hrel
    have HB := hide HB
    have B0 := hide B0
    have B1 := hide B1
    obtain ⟨c0, f0, y0⟩ := unhide B0
    obtain ⟨c1, f1, y1⟩ := unhide B1
    cases HX with
    | var n hn hnN =>
      obtain ⟨m, rfl⟩ : ∃ m, n = m + 1 := ⟨n - 1, by omega⟩
      obtain ⟨gh, ch, gi, ci, y, rfl, rfl, zh, zi, d1, d2, d3⟩ := (unhide H).at hn hnN
      have k0 := (oldCell (unhide HB) kb 0 hkb).trans (unhide H).c0
      have k1 := (oldCell (unhide HB) kb 1 hkb).trans (unhide H).c1
      have d1 := (oldCell (unhide HB) gh _ zh).trans d1
      have hN := (unhide H).hN
      have hm : (m : Int) < (N : Int) := by omega
      simp only [Nat.add_sub_cancel] at d1 d2
      simp [TV.a] at c0
      have c00 := c0 0
      have c01 := c0 1
      have c02 := c0 2
      simp at c00 c01 c02
      cases e : K (m + 1) with
      | none =>
        rw [e] at d1
        simp at d1
        go_wp2_with fail
        go_quiet (fail)
        go_wp2_with fail
        have BF := hide (((unhide B1).drewN nq).set3 rfl (.int .i64 ((m : Int) + 1)) (.string ⟨#[]⟩) (.slice none 0 0))
        have HF := hide (((unhide HB).drewN nq).set3 (b := w.heap.size + 1) (by omega) (.int .i64 ((m : Int) + 1)) (.string ⟨#[]⟩) (.slice none 0 0))
        obtain ⟨cF, fF, zF⟩ := unhide BF
        refine bodyPost_ret (v := TV.v ⟨((m : Int) + 1), ⟨#[]⟩, none, 0, 0⟩) (by simp [results, Tryz.results69, go_sem, cF, TV.v]) rfl ⟨.var (m + 1), ⟨((m : Int) + 1), ⟨#[]⟩, none, 0, 0⟩, rfl, unhide HF, TR.var (m + 1) hn hnN, unhide HS, fun n h => by cases h; exact e⟩
      | some t' =>
        rw [e] at d1
        simp at d1
        have g0 := (oldCell (unhide HB) gi _ zi).trans (d2 0 (by omega))
        have g1 := (oldCell (unhide HB) gi _ zi).trans (d2 1 (by omega))
        have g2 := (oldCell (unhide HB) gi _ zi).trans (d2 2 (by omega))
        simp [TV.l] at g0 g1 g2
        have D3 := hide (d3 t' e)
        have E := hide e
        clear d2 d3 e
        go_wp2_with fail
        go_quiet (fail)
        go_wp2_with fail
        go_region
        go_wp2_with fail
        go_roundg (far rk t')
        case measure =>
          rw [unhide hgk]
          cases t' with
          | var u => have := (unhide HK).rank _ _ (unhide E); simp [far]; omega
          | con c l => simp [far]
        case rel =>
          refine ⟨t', y, hide rfl, ?_, ?_, ?_, unhide D3, hide ?_⟩
          · exact ((unhide HB).drewN _).set3 (Nat.le_refl _) _ _ _
          · exact ((unhide B0).drewN _).set3 rfl _ _ _
          · exact ((((unhide B1).drewN _).setO (by omega) 0 _).setO (by omega) 1 _).setO (by omega) 2 _
          · rw [← unhide HS]; simpa [sub] using ((unhide HK).shut _ _ (unhide E)).symm
    | leaf c hw =>
        simp [TV.a] at c0
        have c00 := c0 0
        have c01 := c0 1
        have c02 := c0 2
        simp at c00 c01 c02
        go_wp2_with fail
        go_quiet (fail)
        go_wp2_with fail
        have BF := hide (((unhide B1).drewN nq).set3 rfl (.int .i64 0) (.string c) (.slice none 0 0))
        have HF := hide (((unhide HB).drewN nq).set3 (b := w.heap.size + 1) (by omega) (.int .i64 0) (.string c) (.slice none 0 0))
        obtain ⟨cF, fF, zF⟩ := unhide BF
        refine bodyPost_ret (v := TV.v ⟨0, c, none, 0, 0⟩) (by simp [results, Tryz.results69, go_sem, cF, TV.v]) rfl ⟨.con c [], ⟨0, c, none, 0, 0⟩, rfl, unhide HF, TR.leaf c hw, unhide HS, fun n h => by cases h⟩
    | row c L g cap xs hw h0 hL hP hz hc hr =>
        have HT := hide (TR.row (N := N) c L g cap xs hw h0 hL hP hz hc hr)
        clear hc hr
        simp [TV.a] at c0
        have c00 := c0 0
        have c01 := c0 1
        have c02 := c0 2
        simp at c00 c01 c02
        go_wp2_with fail
        go_quiet (fail)
        go_wp2_with fail
        have BF := hide (((unhide B1).drewN nq).set3 rfl (.int .i64 0) (.string c) (.slice (some ⟨g, 0, none⟩) L.length cap))
        have HF := hide (((unhide HB).drewN nq).set3 (b := w.heap.size + 1) (by omega) (.int .i64 0) (.string c) (.slice (some ⟨g, 0, none⟩) L.length cap))
        obtain ⟨cF, fF, zF⟩ := unhide BF
        refine bodyPost_ret (v := TV.v ⟨0, c, (some ⟨g, 0, none⟩), L.length, cap⟩) (by simp [results, Tryz.results69, go_sem, cF, TV.v]) rfl ⟨.con c L, ⟨0, c, (some ⟨g, 0, none⟩), L.length, cap⟩, rfl, unhide HF, unhide HT, unhide HS, fun n h => by cases h⟩
end
end Go.Proofs.YtfflpeklkfjdnaaGreatDoor

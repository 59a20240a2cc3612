import Derived.Deep.RegionLaw
import Derived.Maps.AppendAt
import Derived.Test.YtfflpeklkfjdnaaGreatDoorKSd
import Derived.Test.YtfflpeklkfjdnaaGreatDoorKSh0
set_option linter.unusedSimpArgs false
set_option linter.unusedVariables false
set_option linter.unusedSectionVars false
namespace Go.Proofs.YtfflpeklkfjdnaaGreatDoor
open Go Go.RowKit Un

/-- append onto a row of the call's own, as one step of a region that draws. -/
theorem step_append_own {P : Program} {ops : Array Oper} {o : Oper} {a : Act} {w : World} {K : Act → World → Prop} {Q : Exit → Act → World → Prop} {E : Prop}
    (hg : o.guard = none) (s x : Operand) (t : TypeId) (hop : o.op = Op.call { callee := Callee.builtin Builtin.append, args := #[s, x], argTypes := #[t, t] })
    (base : Nat) (e : TypeId) (i : TypeInfo) (z : Value) (size bytes : Nat) (h1 : P.underlying t = some (.slice e)) (h2 : P.info? e = some i) (h3 : i.zero = some z) (h4 : i.size = size) (h5 : i.bytes = bytes) (h6 : z.cells.size = size) (h7 : 0 < size)
    (v : Value) (n : Nat) (xs : List Value) (hs : a.eval s = v) (hown : w.ownsRow base e size v n xs)
    (ad : Addr) (m c : Nat) (news : List Value) (hx : a.eval x = .slice (some ad) m c) (hn : news.length = m * size) (hc : ∀ j u, news[j]? = some u → w.cell? (ad.add j) = some u) (h1c : ∀ u ∈ news, u.oneCell' = true)
    (b1 : n + m ≤ maxLen) (b2 : (n + m) * bytes ≤ 140737488355328) (hbase : base ≤ w.heap.size)
    (hK : ∀ v' w', w'.ownsRow base e size v' (n + m) (xs ++ news) → w.grownBy w' v.ownBlock → (v'.ownBlock = v.ownBlock ∨ v'.ownBlock = some w.heap.size) → K (a.put o.dst v') w') :
    if Region.wanted o (yielded ops a.tmps) = true then Oper.wp P o a w K Q else E := by
  have hw : Region.wanted o (yielded ops a.tmps) = true := by simp [Region.wanted, hg]
  rw [if_pos hw]
  obtain ⟨v', w', hrun, r1, r2, _, r4⟩ := run_append_own_at (P := P) w base t o.type e i z size bytes h1 h2 h3 h4 h5 h6 h7 v n xs hown ad m c news hn hc h1c b1 b2 hbase
  unfold Oper.wp
  simp [execOp, hop, resolve, invoke, builtin, hs, hx, hrun, Result.andThen]
  exact hK v' w' r1 r2 r4

theorem refTypeInfo : (Tryz.prog.info? 85).map (fun i => (i.zero, i.size, i.bytes)) = some (some (.agg #[.int .i64 0, .string ⟨#[]⟩, .slice none 0 0]), 3, 48) := by kernel_rfl
theorem boolInfo : (Tryz.prog.info? 4).map (fun i => (i.zero, i.size, i.bytes)) = some (some (.bool false), 1, 1) := by kernel_rfl
section
variable {w : World}
set_option maxRecDepth 100000 in
set_option maxHeartbeats 400000 in
theorem variable_C (n : Int) : Calls Tryz.prog 92 #[.int .i64 n] w fun e w' => e = .returned (TV.v ⟨n, ⟨#[]⟩, none, 0, 0⟩) ∧ Below w.heap.size w w' := by
  go_enter Tryz.func92, Tryz.ntmps92
  go_wp2_with fail
  exact bodyPost_ret (v := TV.v ⟨n, ⟨#[]⟩, none, 0, 0⟩) (by simp [results, Tryz.results92, go_sem, TV.v]) rfl ⟨rfl, (Below.refl _ _).alloc (Nat.le_refl _) _⟩
set_option maxRecDepth 100000 in
set_option maxHeartbeats 400000 in
theorem plain_C (s : ByteArray) : Calls Tryz.prog 93 #[.string s] w fun e w' => e = .returned (TV.v ⟨0, s, none, 0, 0⟩) ∧ Below w.heap.size w w' := by
  go_enter Tryz.func93, Tryz.ntmps93
  go_wp2_with fail
  exact bodyPost_ret (v := TV.v ⟨0, s, none, 0, 0⟩) (by simp [results, Tryz.results93, go_sem, TV.v]) rfl ⟨rfl, (Below.refl _ _).alloc (Nat.le_refl _) _⟩
set_option maxRecDepth 100000 in
set_option maxHeartbeats 400000 in
theorem pairOf_C (x y : TV) : Calls Tryz.prog 135 #[x.v, y.v] w fun e w' => ∃ g, e = .returned (TV.v ⟨0, nPr, some ⟨g, 0, none⟩, 2, 2⟩) ∧ Below w.heap.size w w' ∧ w.heap.size ≤ g ∧ Bx w' g (flat3 [x, y]).toArray := by
  unfold TV.v
  go_enter Tryz.func135, Tryz.ntmps135
  go_wp2_with fail
  refine bodyPost_ret (v := TV.v ⟨0, nPr, some ⟨w.heap.size + 1 + 1 + 1, 0, none⟩, 2, 2⟩) (by simp [results, Tryz.results135, go_sem, TV.v]) rfl ⟨w.heap.size + 1 + 1 + 1, rfl, ?_, by omega, ?_⟩
  · exact ((((Below.refl w.heap.size w).alloc (Nat.le_refl _) _).alloc (by simp) _).alloc (by simp <;> omega) _).alloc (by simp <;> omega) _
  · exact Bx.at _ _ _ _ (by simp)
set_option maxRecDepth 100000 in
set_option maxHeartbeats 400000 in
theorem functionOf_C (x y : TV) : Calls Tryz.prog 134 #[x.v, y.v] w fun e w' => ∃ g, e = .returned (TV.v ⟨0, nFn, some ⟨g, 0, none⟩, 2, 2⟩) ∧ Below w.heap.size w w' ∧ w.heap.size ≤ g ∧ Bx w' g (flat3 [x, y]).toArray := by
  unfold TV.v
  go_enter Tryz.func134, Tryz.ntmps134
  go_wp2_with fail
  refine bodyPost_ret (v := TV.v ⟨0, nFn, some ⟨w.heap.size + 1 + 1 + 1, 0, none⟩, 2, 2⟩) (by simp [results, Tryz.results134, go_sem, TV.v]) rfl ⟨w.heap.size + 1 + 1 + 1, rfl, ?_, by omega, ?_⟩
  · exact ((((Below.refl w.heap.size w).alloc (Nat.le_refl _) _).alloc (by simp) _).alloc (by simp <;> omega) _).alloc (by simp <;> omega) _
  · exact Bx.at _ _ _ _ (by simp)
end
end Go.Proofs.YtfflpeklkfjdnaaGreatDoor
namespace Go.Proofs.YtfflpeklkfjdnaaGreatDoor
open Go Go.RowKit Un
theorem boolsUnder : Tryz.prog.underlying 76 = some (.slice 4) := by kernel_rfl
theorem typesUnder : Tryz.prog.underlying 77 = some (.slice 85) := by kernel_rfl
theorem own_slice {w : World} {base : Nat} {e : TypeId} {size : Nat} {v : Value} {n : Nat} {xs : List Value} (h : w.ownsRow base e size v n xs) : ∃ la cap, v = .slice la n cap := by
  obtain ⟨h1, h2⟩ := h
  rcases h2 with ⟨h2, rfl⟩ | ⟨g', cap', cur, hv, _⟩
  · exact ⟨none, 0, h2⟩
  · exact ⟨_, _, hv⟩
theorem zrow {xs : List TV} {N : Nat} (h : xs.length = N) (a b c : Value) : (flat3 xs ++ [a, b, c])[N * 3]? = some a ∧ (flat3 xs ++ [a, b, c])[N * 3 + 1]? = some b ∧ (flat3 xs ++ [a, b, c])[N * 3 + 2]? = some c := by
  have hl : (flat3 xs).length = N * 3 := by rw [flat3_len, h]
  refine ⟨?_, ?_, ?_⟩ <;> rw [List.getElem?_append_right (by omega), hl] <;> simp
theorem flat3_snoc (xs : List TV) : flat3 xs ++ [.int .i64 0, .string ⟨#[]⟩, .slice none 0 0] = flat3 (xs ++ [TV.no]) := by
  simp [flat3, TV.l, TV.no]
theorem flat3_same {xs : List TV} {N : Nat} (h : xs.length = N) :
    (((flat3 (xs ++ [TV.no])).set (N * 3) (.int .i64 0)).set (N * 3 + 1) (.string ⟨#[]⟩)).set (N * 3 + 2) (.slice none 0 0) = flat3 (xs ++ [TV.no]) := by
  have := flat3_set (xs ++ [TV.no]) N (by simp; omega) TV.no
  rw [show (xs ++ [TV.no]).set N TV.no = xs ++ [TV.no] by rw [← h]; simp] at this
  exact this
/-- Behind both appends, in whichever order the two stores came. -/
theorem fresh_KS {w w2 w3 W : World} {kb : Nat} {hv iv : Value} {N : Nat} {K : Nat → Option Ty} {P : Nat → Prop} {xs : List TV} {g1 q1 g2 q2 : Nat} (H : KS w kb hv iv N K P) (hN : N < 1000) (hxs : xs.length = N)
    (HX : ∀ i (h : i < xs.length) (t : Ty), K (i + 1) = some t → TR w P N t xs[i])
    (F2 : Fr (fun b => b = kb ∨ KB hv iv b) w w2) (OH : w2.ownsRow 0 4 1 (.slice (some ⟨g1, 0, none⟩) (N + 1) q1) (N + 1) ((List.range N).map (fun i => Value.bool (K (i + 1)).isSome) ++ [.bool false]))
    (hsz2 : w.heap.size + 2 ≤ w2.heap.size) (zg : g1 < w2.heap.size) (nk1 : g1 ≠ kb) (ni1 : iv.ownBlock ≠ some g1) (loc1 : hv.ownBlock = some g1 ∨ w.heap.size + 2 ≤ g1)
    (ob : ∀ b, iv.ownBlock = some b → b < w.heap.size) (BR : Bx w2 w.heap.size zTy)
    (o : Obj) (hg3 : (w2.alloc o).drew.grownBy w3 iv.ownBlock) (hown3 : w3.ownsRow 0 85 3 (.slice (some ⟨g2, 0, none⟩) (N + 1) q2) (N + 1) (flat3 xs ++ [.int .i64 0, .string ⟨#[]⟩, .slice none 0 0]))
    (hloc3 : (Value.slice (some ⟨g2, 0, none⟩) (N + 1) q2).ownBlock = iv.ownBlock ∨ (Value.slice (some ⟨g2, 0, none⟩) (N + 1) q2).ownBlock = some (w2.alloc o).drew.heap.size)
    (k0 : w3.cell? ⟨kb, 0, none⟩ = some (.slice (some ⟨g1, 0, none⟩) (N + 1) q1)) (k1 : w3.cell? ⟨kb, 1, none⟩ = some iv) (kf : ∀ j, w3.frozen? ⟨kb, j, none⟩ = false) (nk2 : g2 ≠ kb)
    (hW : W = (((w3.setCell ⟨g2, N * 3, none⟩ (.int .i64 0)).setCell ⟨g2, N * 3 + 1, none⟩ (.string ⟨#[]⟩)).setCell ⟨g2, N * 3 + 2, none⟩ (.slice none 0 0)).setCell ⟨kb, 1, none⟩ (.slice (some ⟨g2, 0, none⟩) (N + 1) q2) ∨
      W = (((w3.setCell ⟨kb, 1, none⟩ (.slice (some ⟨g2, 0, none⟩) (N + 1) q2)).setCell ⟨g2, N * 3, none⟩ (.int .i64 0)).setCell ⟨g2, N * 3 + 1, none⟩ (.string ⟨#[]⟩)).setCell ⟨g2, N * 3 + 2, none⟩ (.slice none 0 0)) :
    KS W kb (.slice (some ⟨g1, 0, none⟩) (N + 1) q1) (.slice (some ⟨g2, 0, none⟩) (N + 1) q2) (N + 1) K (fun b => P b ∧ b < w.heap.size) ∧ Fr (fun b => b = kb ∨ KB hv iv b) w W ∧ Bx W w.heap.size zTy ∧
      (∀ b, KB (.slice (some ⟨g1, 0, none⟩) (N + 1) q1) (.slice (some ⟨g2, 0, none⟩) (N + 1) q2) b → KB hv iv b ∨ w.heap.size + 2 ≤ b) := by
  have loc2 : iv.ownBlock = some g2 ∨ w2.heap.size < g2 := by
    rcases hloc3 with e | e
    · exact Or.inl e.symm
    · simp [Value.ownBlock] at e; exact Or.inr (by omega)
  have n12 : g1 ≠ g2 := by
    rintro rfl
    rcases loc2 with e | e
    · exact ni1 e
    · omega
  have hs3 : w2.heap.size ≤ w3.heap.size := by have := hg3.size; simp at this; omega
  have b3 : ∀ b, b < w2.heap.size → iv.ownBlock ≠ some b → w3.heap[b]? = w2.heap[b]? := fun b hb hn => (hg3.block b (by simp; omega) (fun e => hn e.symm)).trans (((Below.refl w2.heap.size w2).alloc (Nat.le_refl _) o).block b hb)
  have bW : ∀ b, b ≠ g2 → b ≠ kb → W.heap[b]? = w3.heap[b]? := fun b h1 h2 => by
    rcases hW with rfl | rfl
    · rw [Below.heap_setCell _ _ _ _ h2, Below.heap_setCell _ _ _ _ h1, Below.heap_setCell _ _ _ _ h1, Below.heap_setCell _ _ _ _ h1]
    · rw [Below.heap_setCell _ _ _ _ h1, Below.heap_setCell _ _ _ _ h1, Below.heap_setCell _ _ _ _ h1, Below.heap_setCell _ _ _ _ h2]
  have sW : W.heap.size = w3.heap.size := by rcases hW with rfl | rfl <;> simp [World.setCell]
  have fr3 : Fr (fun b => b = kb ∨ KB hv iv b) w w3 := ⟨hg3.os.trans F2.os, hg3.tape.trans F2.tape, hg3.output.trans F2.output, Nat.le_trans F2.size hs3, fun b hb hn => (b3 b (Nat.lt_of_lt_of_le hb F2.size) (fun e => hn (Or.inr (Or.inr e)))).trans (F2.block b hb hn)⟩
  have g2S : (g2 = kb ∨ KB hv iv g2) ∨ w.heap.size ≤ g2 := by
    rcases loc2 with e | e
    · exact Or.inl (Or.inr (Or.inr e))
    · exact Or.inr (by omega)
  have frW : Fr (fun b => b = kb ∨ KB hv iv b) w W := by
    rcases hW with rfl | rfl
    · exact (((fr3.set g2S _ _).set g2S _ _).set g2S _ _).set (Or.inl (Or.inl rfl)) _ _
    · exact (((fr3.set (Or.inl (Or.inl rfl)) _ _).set g2S _ _).set g2S _ _).set g2S _ _
  have hkb := H.hk
  have kb2 : kb < w3.heap.size := by omega
  have eq1 : (List.range N).map (fun i => Value.bool (K (i + 1)).isSome) ++ [.bool false] = (List.range (N + 1)).map fun i => Value.bool (K (i + 1)).isSome := by
    rw [List.range_succ, List.map_append]
    simp [H.out (N + 1) (Or.inr (by omega))]
  refine ⟨⟨?_, ?_, ?_, by omega, ?_, ⟨xs ++ [TV.no], by simp; omega, ?_, ?_⟩, ?_, ?_, ?_, ?_, by omega, fun n hn => H.out n (by omega)⟩, frW, ?_, ?_⟩
  · have : ∀ (u : World) (i : Nat) (v : Value), (u.setCell ⟨g2, i, none⟩ v).cell? ⟨kb, 0, none⟩ = u.cell? ⟨kb, 0, none⟩ := fun u i v => World.cell?_setCell_other _ _ _ _ (by intro e; injection e with e; exact nk2 e)
    have this2 : ∀ (u : World) (v : Value), (u.setCell ⟨kb, 1, none⟩ v).cell? ⟨kb, 0, none⟩ = u.cell? ⟨kb, 0, none⟩ := fun u v => World.cell?_setCell_other _ _ _ _ (by simp)
    rcases hW with rfl | rfl
    · rw [this2, this, this, this]; exact k0
    · rw [this, this, this, this2]; exact k0
  · have : ∀ (u : World) (i : Nat) (v : Value), (u.setCell ⟨g2, i, none⟩ v).cell? ⟨kb, 1, none⟩ = u.cell? ⟨kb, 1, none⟩ := fun u i v => World.cell?_setCell_other _ _ _ _ (by intro e; injection e with e; exact nk2 e)
    rcases hW with rfl | rfl
    · exact World.cell?_setCell_same (u := iv) _ _ _ (by rw [this, this, this]; exact k1)
    · rw [this, this, this]; exact World.cell?_setCell_same _ _ _ k1
  · intro j
    rcases hW with rfl | rfl <;> simp [kf j]
  · rw [← eq1]
    refine own_same OH fun g hg => ?_
    have : g = g1 := by simpa [Value.ownBlock] using hg.symm
    subst this
    rw [bW g n12 nk1, b3 g zg ni1]
  · rw [flat3_snoc] at hown3
    have nk : (Value.slice (some ⟨g2, 0, none⟩) (N + 1) q2).ownBlock ≠ some kb := by simp [Value.ownBlock]; exact nk2
    rcases hW with rfl | rfl
    · have := own_oth (own_put (own_put (own_put hown3 (N * 3) (.int .i64 0)) (N * 3 + 1) (.string ⟨#[]⟩)) (N * 3 + 2) (.slice none 0 0)) nk 1 (.slice (some ⟨g2, 0, none⟩) (N + 1) q2)
      rw [flat3_same hxs] at this
      exact this
    · have := own_put (own_put (own_put (own_oth hown3 nk 1 (.slice (some ⟨g2, 0, none⟩) (N + 1) q2)) (N * 3) (.int .i64 0)) (N * 3 + 1) (.string ⟨#[]⟩)) (N * 3 + 2) (.slice none 0 0)
      rw [flat3_same hxs] at this
      exact this
  · intro i hi t e
    have hiN : i < N := by
      simp at hi
      by_cases k : i = N
      · subst k; rw [H.out (i + 1) (Or.inr (by omega))] at e; cases e
      · omega
    rw [List.getElem_append_left (by omega)]
    exact (HX i (by omega) t e).low.move (Nat.le_succ _) frW.size (fun b p _ => frW.block b p.2 (fun k => by
      rcases k with k | k | k
      · exact (H.pk b p.1).1 k
      · exact (H.pk b p.1).2.1 k
      · exact (H.pk b p.1).2.2 k)) (fun _ p _ => p)
  · simp [Value.ownBlock]; exact nk1
  · simp [Value.ownBlock]; exact nk2
  · intro b hb
    have : b = g1 := by simpa [Value.ownBlock] using hb.symm
    subst this
    simp [Value.ownBlock]; exact Ne.symm n12
  · intro b p
    refine ⟨(H.pk b p.1).1, ?_, ?_⟩
    · intro e
      have : b = g1 := by simpa [Value.ownBlock] using e.symm
      subst this
      rcases loc1 with k | k
      · exact (H.pk b p.1).2.1 k
      · omega
    · intro e
      have : b = g2 := by simpa [Value.ownBlock] using e.symm
      subst this
      rcases loc2 with k | k
      · exact (H.pk b p.1).2.2 k
      · omega
  · refine BR.same (by omega) ?_
    have hne : w.heap.size ≠ g2 := by
      intro e
      rcases loc2 with k | k
      · have := ob g2 k; omega
      · omega
    rw [bW _ hne (by omega), b3 _ (by omega) (fun e => by have := ob _ e; omega)]
  · intro b hb
    rcases hb with hb | hb
    · have : b = g1 := by simpa [Value.ownBlock] using hb.symm
      subst this
      rcases loc1 with k | k
      · exact Or.inl (Or.inl k)
      · exact Or.inr k
    · have : b = g2 := by simpa [Value.ownBlock] using hb.symm
      subst this
      rcases loc2 with k | k
      · exact Or.inl (Or.inr k)
      · exact Or.inr (by omega)
section
variable {w : World} {kb : Nat} {hv iv : Value} {N : Nat} {K : Nat → Option Ty} {P : Nat → Prop}

set_option maxRecDepth 100000 in
set_option maxHeartbeats 4000000 in
theorem fresh_C (h : KS w kb hv iv N K P) (hN : N < 1000) :
    Calls Tryz.prog 133 #[.pointer (some ⟨kb, 0, none⟩)] w fun e w' => ∃ hv' iv', e = .returned (TV.v ⟨((N + 1 : Nat) : Int), ⟨#[]⟩, none, 0, 0⟩) ∧ Fr (fun b => b = kb ∨ KB hv iv b) w w' ∧
      KS w' kb hv' iv' (N + 1) K (fun b => P b ∧ b < w.heap.size) ∧ (∀ b, KB hv' iv' b → KB hv iv b ∨ w.heap.size + 2 ≤ b) := by
  obtain ⟨i0, hi0, hz0, hz1, hz2⟩ := info_parts boolInfo
  obtain ⟨i1, hi1, hy0, hy1, hy2⟩ := info_parts refTypeInfo
  have H := hide h
  have hkb := h.hk
  have c0 := h.c0
  have c1 := h.c1
  have fz := h.fz
  have HOh := hide h.oh
  obtain ⟨xs, hxs, x2, x3⟩ := h.oi
  obtain ⟨la, ci, rfl⟩ := own_slice x2
  have HOi := hide x2
  have HX := hide x3
  have hxs := hide hxs
  clear h x2 x3
  go_enter Tryz.func133, Tryz.ntmps133
  go_wp2_with (at_builtin; go_must (refine wpList_append_own_at _ rfl (.tmp 7) (.tmp 8) 76 rfl 0 4 i0 _ 1 1 boolsUnder hi0 hz0 hz1 hz2 rfl (by decide) hv N _ rfl (((unhide HOh).alloc _).alloc _) ⟨w.heap.size + 1, 0, none⟩ 1 1 [.bool false] rfl rfl (cells_at _ _ _ _ (by simp)) (by intro u hu; simp at hu; subst hu; rfl) (by unfold maxLen; omega) (by omega) (Nat.zero_le _) ?_; intro hv' w1 hown1 hg1 hnil1 hloc1; obtain ⟨g1, q1, rfl, zg1, hq1⟩ := own_open hown1 (by omega); have Hown1 := hide hown1; have Hg1 := hide hg1; have Hloc1 := hide hloc1; clear hown1 hg1 hnil1 hloc1 c0; have c0 : w1.cell? ⟨kb, 0, none⟩ = some hv := (grown_cell (unhide Hg1) kb 0 (by simp <;> omega) (fun j e k => (unhide H).nh (by rw [e, k]))).trans ((oldCell (((Below.refl w.heap.size w).alloc (Nat.le_refl _) _).alloc (by simp) _) kb 0 hkb).trans (unhide H).c0); have fz1 : ∀ j, w1.frozen? ⟨kb, j, none⟩ = false := fun o => (grown_frozen (unhide Hg1) kb o (by simp <;> omega) (fun j e k => (unhide H).nh (by rw [e, k]))).trans ((oldMark (((Below.refl w.heap.size w).alloc (Nat.le_refl _) _).alloc (by simp) _) kb o hkb).trans ((unhide H).fz o))))
  have bb := ((Below.refl w.heap.size w).alloc (Nat.le_refl _) (.cells zTy 85)).alloc (by simp) (.cells #[.bool false] 4)
  have hsz : w.heap.size + 2 ≤ w1.heap.size := by have := (unhide Hg1).size; simp at this; omega
  have nk1 : g1 ≠ kb := by
    intro e
    rcases unhide Hloc1 with e1 | e1
    · exact (unhide H).nh (by rw [← e1, ← e]; rfl)
    · simp [Value.ownBlock] at e1; omega
  have loc1 : Hid (hv.ownBlock = some g1 ∨ w.heap.size + 2 ≤ g1) := by
    rcases unhide Hloc1 with e1 | e1
    · exact Or.inl e1.symm
    · simp [Value.ownBlock] at e1; exact Or.inr (by omega)
  have ni1 : (Value.slice la N ci).ownBlock ≠ some g1 := by
    intro e
    rcases unhide loc1 with e1 | e1
    · exact (unhide H).na g1 e1 e
    · have := (own_block (unhide HOi) g1 e).2; omega
  have bl : ∀ b, b < w.heap.size → hv.ownBlock ≠ some b → w1.heap[b]? = w.heap[b]? := fun b hb hn => ((unhide Hg1).block b (by simp; omega) (fun e => hn e.symm)).trans (bb.block b hb)
  have OI := hide (own_oth (own_same (unhide HOi) (w' := w1) (fun g hg => bl g (own_block (unhide HOi) g hg).2 (fun e => (unhide H).na g e hg))) (unhide H).ni 0 (.slice (some ⟨g1, 0, none⟩) (N + 1) q1))
  have OH := hide (own_oth (unhide Hown1) (b := kb) (by simp [Value.ownBlock]; omega) 0 (.slice (some ⟨g1, 0, none⟩) (N + 1) q1))
  have d0 : (w1.setCell ⟨kb, 0, none⟩ (.slice (some ⟨g1, 0, none⟩) (N + 1) q1)).cell? ⟨kb, 0, none⟩ = some (.slice (some ⟨g1, 0, none⟩) (N + 1) q1) := World.cell?_setCell_same _ _ _ c0
  have d1 : (w1.setCell ⟨kb, 0, none⟩ (.slice (some ⟨g1, 0, none⟩) (N + 1) q1)).cell? ⟨kb, 1, none⟩ = some (.slice la N ci) := by
    rw [World.cell?_setCell_other _ _ _ _ (by simp)]
    exact (World.cell?_of_block (a := ⟨kb, 1, none⟩) (bl kb hkb (unhide H).nh)).trans c1
  have fz2 : ∀ j, (w1.setCell ⟨kb, 0, none⟩ (.slice (some ⟨g1, 0, none⟩) (N + 1) q1)).frozen? ⟨kb, j, none⟩ = false := fun j => by simpa using fz1 j
  have BR := hide ((((Bx.new w zTy 85).alloc (.cells #[.bool false] 4)).same (w' := w1) (by simp; omega) ((unhide Hg1).block w.heap.size (by simp; omega) (fun e => by have := (own_block (unhide HOh) w.heap.size e.symm).2; omega))).setO (b2 := kb) (by omega) 0 (.slice (some ⟨g1, 0, none⟩) (N + 1) q1))
  have F2 : Hid (Fr (fun b => b = kb ∨ KB hv (.slice la N ci) b) w (w1.setCell ⟨kb, 0, none⟩ (.slice (some ⟨g1, 0, none⟩) (N + 1) q1))) := by
    have f1 : Fr (fun b => b = kb ∨ KB hv (.slice la N ci) b) w w1 := ⟨(unhide Hg1).os, (unhide Hg1).tape, (unhide Hg1).output, by omega, fun b hb hn => bl b hb (fun e => hn (Or.inr (Or.inl e)))⟩
    exact f1.set (Or.inl (Or.inl rfl)) _ _
  have hsz2 : w.heap.size + 2 ≤ (w1.setCell ⟨kb, 0, none⟩ (.slice (some ⟨g1, 0, none⟩) (N + 1) q1)).heap.size := by simpa [World.setCell] using hsz
  have zg2' : g1 < (w1.setCell ⟨kb, 0, none⟩ (.slice (some ⟨g1, 0, none⟩) (N + 1) q1)).heap.size := by simpa [World.setCell] using zg1
  have ob := hide (fun b (e : (Value.slice la N ci).ownBlock = some b) => (own_block (unhide HOi) b e).2)
  clear bb bl c0 fz1 Hown1 Hg1 Hloc1 HOh HOi hsz zg1
  generalize (w1.setCell ⟨kb, 0, none⟩ (.slice (some ⟨g1, 0, none⟩) (N + 1) q1)) = w2 at OI OH d0 d1 fz2 BR F2 hsz2 zg2' ⊢
  have ob0 := hide (fun b (e : (Value.slice la N ci).ownBlock = some b) => (own_block (unhide OI) b e).2)
  have hNN : (N : Int) < (N : Int) + 1 := by omega
  have zr := zrow (unhide hxs) (.int .i64 0) (.string ⟨#[]⟩) (.slice none 0 0)
  have hkb2 : kb < w2.heap.size := by omega
  go_region_law (refine step_append_own rfl (.tmp 15) (.tmp 18) 77 rfl 0 85 i1 _ 3 48 typesUnder hi1 hy0 hy1 hy2 rfl (by decide) (.slice la N ci) N _ rfl (own_below (unhide OI) (((Below.refl _ _).alloc (Nat.le_refl _) _).drew)) ⟨w2.heap.size, 0, none⟩ 1 1 [.int .i64 0, .string ⟨#[]⟩, .slice none 0 0] rfl rfl (cells_at _ _ _ _ (by simp)) (by intro u hu; simp at hu; rcases hu with rfl | rfl | rfl <;> rfl) (by unfold maxLen; omega) (by omega) (Nat.zero_le _) ?_; intro iv' w3 hown3 hg3 hloc3; obtain ⟨g2, q2, rfl, zg3, hq2⟩ := own_open hown3 (by omega); have e0 := (own_cell hown3 (N * 3) (by omega)).trans zr.1; have e1 := (own_cell hown3 (N * 3 + 1) (by omega)).trans zr.2.1; have e2 := (own_cell hown3 (N * 3 + 2) (by omega)).trans zr.2.2; have fg := own_mark hown3 (by omega); have k1 : w3.cell? ⟨kb, 1, none⟩ = some (.slice la N ci) := (grown_cell hg3 kb 1 (by simp <;> omega) (fun j e k => (unhide H).ni (by rw [e, k]))).trans ((oldCell ((Below.refl _ _).alloc (Nat.le_refl _) _).drew kb 1 hkb2).trans d1); have k0 : w3.cell? ⟨kb, 0, none⟩ = some (.slice (some ⟨g1, 0, none⟩) (N + 1) q1) := (grown_cell hg3 kb 0 (by simp <;> omega) (fun j e k => (unhide H).ni (by rw [e, k]))).trans ((oldCell ((Below.refl _ _).alloc (Nat.le_refl _) _).drew kb 0 hkb2).trans d0); have kf : ∀ j, w3.frozen? ⟨kb, j, none⟩ = false := fun o => (grown_frozen hg3 kb o (by simp <;> omega) (fun j e k => (unhide H).ni (by rw [e, k]))).trans ((oldMark ((Below.refl _ _).alloc (Nat.le_refl _) _).drew kb o hkb2).trans (fz2 o)); have nk2 : g2 ≠ kb := (fun e => by rcases hloc3 with e1 | e1; exact (unhide H).ni (by rw [← e1, ← e]; rfl); simp [Value.ownBlock] at e1; omega); have Hown3 := hide hown3; have Hg3 := hide hg3; have Hloc3 := hide hloc3; clear hown3 hg3 hloc3)
  all_goals first
    | (have HF := fresh_KS (unhide H) hN (unhide hxs) (unhide HX) (unhide F2) (unhide OH) hsz2 zg2' nk1 ni1 (unhide loc1) (unhide ob) (unhide BR) _ (unhide Hg3) (unhide Hown3) (unhide Hloc3) k0 k1 kf nk2 (Or.inl (rfl : (((w3.setCell ⟨g2, N * 3, none⟩ (.int .i64 0)).setCell ⟨g2, N * 3 + 1, none⟩ (.string ⟨#[]⟩)).setCell ⟨g2, N * 3 + 2, none⟩ (.slice none 0 0)).setCell ⟨kb, 1, none⟩ (.slice (some ⟨g2, 0, none⟩) (N + 1) q2) = (((w3.setCell ⟨g2, N * 3, none⟩ (.int .i64 0)).setCell ⟨g2, N * 3 + 1, none⟩ (.string ⟨#[]⟩)).setCell ⟨g2, N * 3 + 2, none⟩ (.slice none 0 0)).setCell ⟨kb, 1, none⟩ (.slice (some ⟨g2, 0, none⟩) (N + 1) q2)))
       generalize (((w3.setCell ⟨g2, N * 3, none⟩ (.int .i64 0)).setCell ⟨g2, N * 3 + 1, none⟩ (.string ⟨#[]⟩)).setCell ⟨g2, N * 3 + 2, none⟩ (.slice none 0 0)).setCell ⟨kb, 1, none⟩ (.slice (some ⟨g2, 0, none⟩) (N + 1) q2) = W4 at HF ⊢
       obtain ⟨HK4, HF4, HB4, HL4⟩ := HF
       have HK4 := hide HK4
       have HF4 := hide HF4
       have HB4 := hide HB4
       have HL4 := hide HL4
       have d4 := (unhide HK4).c0
       clear e0 e1 e2 fg k1 k0 kf Hown3 Hg3 Hloc3 d0 d1
       go_wp2_with (go_at_call 92; refine (variable_C _).mono ?_; rintro e w5 ⟨rfl, hb5⟩; have HB5 := hide ((unhide HB4).below hb5); have HS5 := hide hb5; obtain ⟨c5, f5, y5⟩ := unhide HB5; unfold TV.v; clear hb5 d4)
       have BF := hide ((unhide HB5).set3 rfl (.int .i64 ((N : Int) + 1)) (.string ⟨#[]⟩) (.slice none 0 0))
       obtain ⟨cF, fF, zF⟩ := unhide BF
       refine bodyPost_ret (v := TV.v ⟨((N + 1 : Nat) : Int), ⟨#[]⟩, none, 0, 0⟩) (by simp [results, Tryz.results133, go_sem, cF, TV.v]) rfl ⟨_, _, rfl, ?_, ?_, unhide HL4⟩
       · exact (((unhide HF4).low ((unhide HS5).mono (unhide HF4).size)).low (((Below.refl _ _)).set3 (Nat.le_refl _) _ _ _))
       · have h5 := (unhide HK4).bel (unhide HS5)
         have n1 : w.heap.size ≠ kb := by omega
         have n2 : ¬ KB (.slice (some ⟨g1, 0, none⟩) (N + 1) q1) (.slice (some ⟨g2, 0, none⟩) (N + 1) q2) w.heap.size := fun k => by
           rcases unhide HL4 _ k with k | k
           · have := (unhide H).kb_lt k; omega
           · omega
         have n3 : ¬ (P w.heap.size ∧ w.heap.size < w.heap.size) := by omega
         exact ((h5.setO n1 n2 n3 _ _).setO n1 n2 n3 _ _).setO n1 n2 n3 _ _)
    | (have HF := fresh_KS (unhide H) hN (unhide hxs) (unhide HX) (unhide F2) (unhide OH) hsz2 zg2' nk1 ni1 (unhide loc1) (unhide ob) (unhide BR) _ (unhide Hg3) (unhide Hown3) (unhide Hloc3) k0 k1 kf nk2 (Or.inr (rfl : (((w3.setCell ⟨kb, 1, none⟩ (.slice (some ⟨g2, 0, none⟩) (N + 1) q2)).setCell ⟨g2, N * 3, none⟩ (.int .i64 0)).setCell ⟨g2, N * 3 + 1, none⟩ (.string ⟨#[]⟩)).setCell ⟨g2, N * 3 + 2, none⟩ (.slice none 0 0) = (((w3.setCell ⟨kb, 1, none⟩ (.slice (some ⟨g2, 0, none⟩) (N + 1) q2)).setCell ⟨g2, N * 3, none⟩ (.int .i64 0)).setCell ⟨g2, N * 3 + 1, none⟩ (.string ⟨#[]⟩)).setCell ⟨g2, N * 3 + 2, none⟩ (.slice none 0 0)))
       generalize (((w3.setCell ⟨kb, 1, none⟩ (.slice (some ⟨g2, 0, none⟩) (N + 1) q2)).setCell ⟨g2, N * 3, none⟩ (.int .i64 0)).setCell ⟨g2, N * 3 + 1, none⟩ (.string ⟨#[]⟩)).setCell ⟨g2, N * 3 + 2, none⟩ (.slice none 0 0) = W4 at HF ⊢
       obtain ⟨HK4, HF4, HB4, HL4⟩ := HF
       have HK4 := hide HK4
       have HF4 := hide HF4
       have HB4 := hide HB4
       have HL4 := hide HL4
       have d4 := (unhide HK4).c0
       clear e0 e1 e2 fg k1 k0 kf Hown3 Hg3 Hloc3 d0 d1
       go_wp2_with (go_at_call 92; refine (variable_C _).mono ?_; rintro e w5 ⟨rfl, hb5⟩; have HB5 := hide ((unhide HB4).below hb5); have HS5 := hide hb5; obtain ⟨c5, f5, y5⟩ := unhide HB5; unfold TV.v; clear hb5 d4)
       have BF := hide ((unhide HB5).set3 rfl (.int .i64 ((N : Int) + 1)) (.string ⟨#[]⟩) (.slice none 0 0))
       obtain ⟨cF, fF, zF⟩ := unhide BF
       refine bodyPost_ret (v := TV.v ⟨((N + 1 : Nat) : Int), ⟨#[]⟩, none, 0, 0⟩) (by simp [results, Tryz.results133, go_sem, cF, TV.v]) rfl ⟨_, _, rfl, ?_, ?_, unhide HL4⟩
       · exact (((unhide HF4).low ((unhide HS5).mono (unhide HF4).size)).low (((Below.refl _ _)).set3 (Nat.le_refl _) _ _ _))
       · have h5 := (unhide HK4).bel (unhide HS5)
         have n1 : w.heap.size ≠ kb := by omega
         have n2 : ¬ KB (.slice (some ⟨g1, 0, none⟩) (N + 1) q1) (.slice (some ⟨g2, 0, none⟩) (N + 1) q2) w.heap.size := fun k => by
           rcases unhide HL4 _ k with k | k
           · have := (unhide H).kb_lt k; omega
           · omega
         have n3 : ¬ (P w.heap.size ∧ w.heap.size < w.heap.size) := by omega
         exact ((h5.setO n1 n2 n3 _ _).setO n1 n2 n3 _ _).setO n1 n2 n3 _ _)
end
end Go.Proofs.YtfflpeklkfjdnaaGreatDoor
namespace Go.Proofs.YtfflpeklkfjdnaaGreatDoor
open Go Go.RowKit Un

def varT (n : Nat) : TV := ⟨(n : Int), ⟨#[]⟩, none, 0, 0⟩
/-- The names of variables, as they lie in memory: the i-th is the variable i + 1. -/
structure NS (w : World) (nb : Nat) (lv nv : Value) (ns : List ByteArray) : Prop where
  c0 : w.cell? ⟨nb, 0, none⟩ = some lv
  c1 : w.cell? ⟨nb, 1, none⟩ = some nv
  fz : ∀ j, w.frozen? ⟨nb, j, none⟩ = false
  hk : nb < w.heap.size
  ol : w.ownsRow 0 9 1 lv ns.length (ns.map .string)
  on_ : w.ownsRow 0 85 3 nv ns.length (flat3 ((List.range ns.length).map fun i => varT (i + 1)))
theorem NS.bel {w w' : World} {nb : Nat} {lv nv : Value} {ns : List ByteArray} (h : NS w nb lv nv ns) (hb : Below w.heap.size w w') : NS w' nb lv nv ns :=
  ⟨by rw [oldCell hb _ _ h.hk]; exact h.c0, by rw [oldCell hb _ _ h.hk]; exact h.c1, fun j => by rw [oldMark hb _ _ h.hk]; exact h.fz j, Nat.lt_of_lt_of_le h.hk hb.size, own_below h.ol hb, own_below h.on_ hb⟩
section
variable {w : World} {nb : Nat} {lv nv : Value} {ns : List ByteArray}

/-- Which of the names it is. -/
def ix (s : ByteArray) : List ByteArray → Nat
  | [] => 0
  | a :: l => if a.toList = s.toList then 0 else ix s l + 1
def OfPost (ns : List ByteArray) (s : ByteArray) (w : World) (e : Ending) (w' : World) : Prop :=
  ∃ y b, e = .returned (.tuple #[TV.v y, .bool b]) ∧ Below w.heap.size w w' ∧ ((b = true ∧ s ∈ ns ∧ y = varT (ix s ns + 1)) ∨ (b = false ∧ ¬ s ∈ ns ∧ y = TV.no))
theorem idx_at : ∀ {ns : List ByteArray} (_ : ns.Nodup) {j : Nat} (hj : j < ns.length) {s : ByteArray} (_ : ns[j] = s), ix s ns = j
  | [], _, _, hj, _, _ => by simp at hj
  | a :: ns, hd, 0, _, s, h => by have h : a = s := h; subst h; simp [ix]
  | a :: ns, hd, j + 1, hj, s, h => by
      obtain ⟨h1, h2⟩ := List.nodup_cons.1 hd
      have h' : ns[j]'(by simpa using hj) = s := by simpa using h
      have ne : ¬ a.toList = s.toList := fun e => by
        have e' : a = s := toList_inj e
        exact h1 (by rw [e', ← h']; exact List.getElem_mem _)
      have ih := idx_at h2 (by simpa using hj) h'
      simp only [ix, ne, ih, if_false]
set_option maxRecDepth 100000 in
set_option maxHeartbeats 4000000 in
theorem of_C (h : NS w nb lv nv ns) (hd : ns.Nodup) (hN : ns.length ≤ 1000) (s : ByteArray) :
    Calls Tryz.prog 132 #[.pointer (some ⟨nb, 0, none⟩), .string s] w (OfPost ns s w) := by
  obtain ⟨la, ca, rfl⟩ := own_slice h.ol
  obtain ⟨lb, cb, rfl⟩ := own_slice h.on_
  have H := hide h
  have hnb := h.hk
  have c0 := h.c0
  have c1 := h.c1
  have Hd := hide hd
  clear h hd
  go_enter Tryz.func132, Tryz.ntmps132
  go_wp2_with fail
  go_loopg [6] ns.length (fun gk c wr => ∃ j : Nat, Hid (gk = j) ∧ j ≤ ns.length ∧ c = .int .i64 ((j : Int) - 1) ∧ (∀ i (h : i < ns.length), j ≤ i → ns[i] ≠ s) ∧ Below w.heap.size w wr ∧ Bx wr w.heap.size zTy)
  case atStart => exact ⟨ns.length, hide rfl, Nat.le_refl _, by go_num, fun i h k => by omega, (Below.refl _ _).alloc (Nat.le_refl _) _, Bx.new _ _ _⟩
  case round =>
    obtain ⟨j, hgk, hj, rfl, hno, HB, BR⟩ := hrel
    have HB := hide HB
    have BR := hide BR
    have hno := hide hno
    obtain ⟨cb0, fb0, yb0⟩ := unhide BR
    cases j with
    | zero =>
      have hneg : ¬ (0 : Int) ≤ ((0 : Nat) : Int) - 1 := by omega
      go_wp2_with fail
      have BF := hide ((unhide BR).set3 rfl (.int .i64 0) (.string ⟨#[]⟩) (.slice none 0 0))
      have HF := hide ((unhide HB).set3 (b := w.heap.size) (Nat.le_refl _) (.int .i64 0) (.string ⟨#[]⟩) (.slice none 0 0))
      obtain ⟨cF, fF, zF⟩ := unhide BF
      refine bodyPost_ret (v := .tuple #[TV.v TV.no, .bool false]) (by simp [results, Tryz.results132, go_sem, cF, TV.v, TV.no]) rfl ⟨TV.no, false, rfl, unhide HF, Or.inr ⟨rfl, fun hm => ?_, rfl⟩⟩
      obtain ⟨i, hi, e⟩ := List.getElem_of_mem hm
      exact unhide hno i hi (Nat.zero_le _) e
    | succ j =>
      have k0 := (oldCell (unhide HB) nb 0 hnb).trans c0
      have k1 := (oldCell (unhide HB) nb 1 hnb).trans c1
      obtain ⟨ga, qa, ea, za, _⟩ := own_open (unhide H).ol (by omega)
      obtain ⟨gb, qb, eb, zb, _⟩ := own_open (unhide H).on_ (by omega)
      cases ea
      cases eb
      have d0 := (oldCell (unhide HB) ga _ za).trans (own_cell (unhide H).ol j (by omega))
      have t0 := (oldCell (unhide HB) gb _ zb).trans (own_cell (unhide H).on_ (j * 3) (by omega))
      have t1 := (oldCell (unhide HB) gb _ zb).trans (own_cell (unhide H).on_ (j * 3 + 1) (by omega))
      have t2 := (oldCell (unhide HB) gb _ zb).trans (own_cell (unhide H).on_ (j * 3 + 2) (by omega))
      rw [show j * 3 = j * 3 + 0 by omega, flat3_at _ j 0 (by simp; omega) (by omega)] at t0
      rw [flat3_at _ j 1 (by simp; omega) (by omega)] at t1
      rw [flat3_at _ j 2 (by simp; omega) (by omega)] at t2
      simp [TV.l, varT] at t0 t1 t2 d0
      rw [List.getElem?_eq_getElem (by omega)] at d0
      simp at d0
      have hlt : (j : Int) < (ns.length : Int) := by omega
      have hge : (0 : Int) ≤ (j : Int) := by omega
      cases he : (ns[j].toList == s.toList) with
      | true =>
        have hs : Hid (ns[j] = s) := toList_inj (by simpa using he)
        clear d0
        have d0 : wr.cell? ⟨ga, j, none⟩ = some (.string ns[j]) := (oldCell (unhide HB) ga _ za).trans ((own_cell (unhide H).ol j (by omega)).trans (by simp))
        go_wp2_with fail
        have BF := hide ((unhide BR).set3 rfl (.int .i64 ((j : Int) + 1)) (.string ⟨#[]⟩) (.slice none 0 0))
        have HF := hide ((unhide HB).set3 (b := w.heap.size) (Nat.le_refl _) (.int .i64 ((j : Int) + 1)) (.string ⟨#[]⟩) (.slice none 0 0))
        obtain ⟨cF, fF, zF⟩ := unhide BF
        refine bodyPost_ret (v := .tuple #[TV.v (varT (j + 1)), .bool true]) (by simp [results, Tryz.results132, go_sem, cF, TV.v, varT]) rfl ⟨varT (j + 1), true, rfl, unhide HF, Or.inl ⟨rfl, ?_, ?_⟩⟩
        · rw [← unhide hs]; exact List.getElem_mem _
        · rw [idx_at (unhide Hd) (by omega) (unhide hs)]
      | false =>
        go_wp2_with fail
        go_roundg j
        case measure => rw [unhide hgk]; omega
        case rel =>
          refine ⟨j, hide rfl, by omega, by go_num, fun i hi k => ?_, unhide HB, unhide BR⟩
          by_cases e : i = j
          · subst e; intro e2; rw [e2] at he; simp at he
          · exact unhide hno i hi (by omega)
end
end Go.Proofs.YtfflpeklkfjdnaaGreatDoor
namespace Go.Proofs.YtfflpeklkfjdnaaGreatDoor
open Go Go.RowKit Un

def addN (s : ByteArray) (ns : List ByteArray) : List ByteArray := if ix s ns < ns.length then ns else ns ++ [s]
theorem ix_mem {s : ByteArray} : ∀ {ns : List ByteArray}, s ∈ ns → ix s ns < ns.length
  | [], h => by simp at h
  | a :: ns, h => by
      simp only [ix]
      split
      · simp
      · rename_i ne
        rcases List.mem_cons.1 h with e | h
        · exact absurd (by rw [e]) ne
        · have := ix_mem h; simp; omega
theorem ix_not {s : ByteArray} : ∀ {ns : List ByteArray}, ¬ s ∈ ns → ix s ns = ns.length
  | [], _ => rfl
  | a :: ns, h => by
      simp only [ix]
      split
      · rename_i e; exact absurd (List.mem_cons.2 (Or.inl (toList_inj e).symm)) h
      · rw [ix_not (fun k => h (List.mem_cons_of_mem _ k))]; simp
theorem ix_snoc {s : ByteArray} : ∀ {ns : List ByteArray}, ¬ s ∈ ns → ix s (ns ++ [s]) = ns.length
  | [], _ => by simp [ix]
  | a :: ns, h => by
      simp only [List.cons_append, ix]
      split
      · rename_i e; exact absurd (List.mem_cons.2 (Or.inl (toList_inj e).symm)) h
      · rw [ix_snoc (fun k => h (List.mem_cons_of_mem _ k))]; simp
theorem addN_in {s : ByteArray} {ns : List ByteArray} (h : s ∈ ns) : addN s ns = ns := by rw [addN, if_pos (ix_mem h)]
theorem addN_out {s : ByteArray} {ns : List ByteArray} (h : ¬ s ∈ ns) : addN s ns = ns ++ [s] := by rw [addN, if_neg (by rw [ix_not h]; omega)]

/-- The name of what a part makes. -/
def conN (k : Nat) (s : ByteArray) : ByteArray := if k = 17 then nFn else if k = 6 then nPr else s
mutual
/-- The type that is meant by a part; names that are new come behind the others. -/
def mean (ns : List ByteArray) : Nd → Ty × List ByteArray
  | .mk k s _ L _ _ _ => if k = 16 then (.var (ix s (addN s ns) + 1), addN s ns) else (.con (conN k s) (meanL ns L).1, (meanL ns L).2)
def meanL (ns : List ByteArray) : List Nd → List Ty × List ByteArray
  | [] => ([], ns)
  | x :: l => ((mean ns x).1 :: (meanL (mean ns x).2 l).1, (meanL (mean ns x).2 l).2)
end
/-- A part that reads as a type. -/
inductive TyNd : Nd → Prop where
  | var (s : ByteArray) (n f t a : Nat) : TyNd (.mk 16 s n [] f t a)
  | two (k : Nat) (s : ByteArray) (n : Nat) (x y : Nd) (f t a : Nat) (hk : k = 17 ∨ k = 6) (hx : TyNd x) (hy : TyNd y) : TyNd (.mk k s n [x, y] f t a)
  | up (s : ByteArray) (n : Nat) (L : List Nd) (f t a : Nat) (hw : ∀ n, okN s n) (hl : L.length ≤ 1001) (hL : ∀ i (h : i < L.length), TyNd L[i]) : TyNd (.mk 2 s n L f t a)

/-- The blocks that may turn. -/
def Mu (kb nb : Nat) (hv iv lv nv : Value) : List Nat := kb :: nb :: (hv.ownBlock.toList ++ iv.ownBlock.toList ++ lv.ownBlock.toList ++ nv.ownBlock.toList)
structure KN (w : World) (kb nb : Nat) (hv iv lv nv : Value) (ns : List ByteArray) (K : Nat → Option Ty) (P : Nat → Prop) : Prop where
  ks : KS w kb hv iv ns.length K P
  nms : NS w nb lv nv ns
  nd : (Mu kb nb hv iv lv nv).Nodup
  pm : ∀ b, P b → ¬ b ∈ Mu kb nb hv iv lv nv
  un : ns.Nodup
theorem KN.lt {w : World} {kb nb : Nat} {hv iv lv nv : Value} {ns : List ByteArray} {K : Nat → Option Ty} {P : Nat → Prop} (h : KN w kb nb hv iv lv nv ns K P) {b : Nat} (hb : b ∈ Mu kb nb hv iv lv nv) : b < w.heap.size := by
  obtain ⟨xs, x1, x2, x3⟩ := h.ks.oi
  simp only [Mu, List.mem_cons, List.mem_append, Option.mem_toList] at hb
  rcases hb with rfl | rfl | ((hb | hb) | hb) | hb
  · exact h.ks.hk
  · exact h.nms.hk
  · exact (own_block h.ks.oh b hb).2
  · exact (own_block x2 b hb).2
  · exact (own_block h.nms.ol b hb).2
  · exact (own_block h.nms.on_ b hb).2
theorem KN.bel {w w' : World} {kb nb : Nat} {hv iv lv nv : Value} {ns : List ByteArray} {K : Nat → Option Ty} {P : Nat → Prop} (h : KN w kb nb hv iv lv nv ns K P) (hb : Below w.heap.size w w') : KN w' kb nb hv iv lv nv ns K P :=
  ⟨h.ks.bel hb, h.nms.bel hb, h.nd, h.pm, h.un⟩
theorem KN.low {w : World} {kb nb : Nat} {hv iv lv nv : Value} {ns : List ByteArray} {K : Nat → Option Ty} {P : Nat → Prop} (h : KN w kb nb hv iv lv nv ns K P) : KN w kb nb hv iv lv nv ns K (fun b => P b ∧ b < w.heap.size) :=
  ⟨h.ks.low, h.nms, h.nd, fun b p => h.pm b p.1, h.un⟩
theorem NS.same {w w' : World} {nb : Nat} {lv nv : Value} {ns : List ByteArray} (h : NS w nb lv nv ns) (hs : w.heap.size ≤ w'.heap.size) (hb : ∀ b, b < w.heap.size → (b = nb ∨ KB lv nv b) → w'.heap[b]? = w.heap[b]?) : NS w' nb lv nv ns := by
  have hk := hb nb h.hk (Or.inl rfl)
  exact ⟨by rw [World.cell?_of_block (a := ⟨nb, 0, none⟩) (w := w) hk]; exact h.c0, by rw [World.cell?_of_block (a := ⟨nb, 1, none⟩) (w := w) hk]; exact h.c1, fun j => by rw [World.frozen?_of_block (a := ⟨nb, j, none⟩) (w := w) hk]; exact h.fz j, Nat.lt_of_lt_of_le h.hk hs,
    own_same h.ol (fun g hg => hb g (own_block h.ol g hg).2 (Or.inr (Or.inl hg))), own_same h.on_ (fun g hg => hb g (own_block h.on_ g hg).2 (Or.inr (Or.inr hg)))⟩
/-- The state stays while blocks are written that it has nothing to do with. -/
theorem KN.same {w w' : World} {kb nb : Nat} {hv iv lv nv : Value} {ns : List ByteArray} {K : Nat → Option Ty} {P : Nat → Prop} (h : KN w kb nb hv iv lv nv ns K P) (hs : w.heap.size ≤ w'.heap.size) (hb : ∀ b, b < w.heap.size → (b ∈ Mu kb nb hv iv lv nv ∨ P b) → w'.heap[b]? = w.heap[b]?) : KN w' kb nb hv iv lv nv ns K P := by
  refine ⟨h.ks.same hs fun b hz hc => hb b hz ?_, h.nms.same hs fun b hz hc => hb b hz (Or.inl ?_), h.nd, h.pm, h.un⟩
  · rcases hc with rfl | (hc | hc) | hc
    · exact Or.inl (by simp [Mu])
    · exact Or.inl (by simp [Mu, hc])
    · exact Or.inl (by simp [Mu, hc])
    · exact Or.inr hc
  · rcases hc with rfl | (hc | hc)
    · simp [Mu]
    · simp [Mu, hc]
    · simp [Mu, hc]
theorem KN.set {w : World} {kb nb : Nat} {hv iv lv nv : Value} {ns : List ByteArray} {K : Nat → Option Ty} {P : Nat → Prop} (h : KN w kb nb hv iv lv nv ns K P) {b : Nat} (h1 : ¬ b ∈ Mu kb nb hv iv lv nv) (h2 : ¬ P b) (j : Nat) (u : Value) : KN (w.setCell ⟨b, j, none⟩ u) kb nb hv iv lv nv ns K P :=
  h.same (by simp [World.setCell]) fun c _ hc => Below.heap_setCell _ _ _ _ (by
    show c ≠ b
    rintro rfl
    rcases hc with hc | hc
    · exact h1 hc
    · exact h2 hc)
theorem KN.set3 {w : World} {kb nb : Nat} {hv iv lv nv : Value} {ns : List ByteArray} {K : Nat → Option Ty} {P : Nat → Prop} (h : KN w kb nb hv iv lv nv ns K P) {b : Nat} (h1 : ¬ b ∈ Mu kb nb hv iv lv nv) (h2 : ¬ P b) (v0 v1 v2 : Value) :
    KN (((w.setCell ⟨b, 0, none⟩ v0).setCell ⟨b, 1, none⟩ v1).setCell ⟨b, 2, none⟩ v2) kb nb hv iv lv nv ns K P := ((h.set h1 h2 0 v0).set h1 h2 1 v1).set h1 h2 2 v2

/-- What finding the meaning of a part promises. -/
def MeantPost (kb nb : Nat) (hv iv lv nv : Value) (ns : List ByteArray) (K : Nat → Option Ty) (P : Nat → Prop) (nd : Nd) (w : World) (e : Ending) (w' : World) : Prop :=
  ∃ y hv' iv' lv' nv' Q, e = .returned (TV.v y) ∧ KN w' kb nb hv' iv' lv' nv' (mean ns nd).2 K Q ∧ TR w' Q (mean ns nd).2.length (mean ns nd).1 y ∧ Fr (· ∈ Mu kb nb hv iv lv nv) w w' ∧
    (∀ b, b ∈ Mu kb nb hv' iv' lv' nv' → b ∈ Mu kb nb hv iv lv nv ∨ w.heap.size ≤ b) ∧ (∀ b, P b → b < w.heap.size → Q b) ∧ (∀ b, Q b → (P b ∧ b < w.heap.size) ∨ w.heap.size ≤ b)
abbrev nodeA (x : NV) : Array Value := #[.int .i64 x.k, .string x.s, .int .i64 x.n, .slice x.la x.ll x.lc, .int .i64 x.f, .int .i64 x.t, .int .i64 x.a]
section
variable {w : World} {kb nb : Nat} {hv iv lv nv : Value} {ns : List ByteArray} {K : Nat → Option Ty} {P : Nat → Prop}

set_option maxRecDepth 100000 in
set_option maxHeartbeats 4000000 in
theorem meant_old (h : KN w kb nb hv iv lv nv ns K P) (hN : ns.length ≤ 1000) (s : ByteArray) (n f t a : Nat) (hs : s ∈ ns) :
    Calls Tryz.prog 68 #[.pointer (some ⟨nb, 0, none⟩), .pointer (some ⟨kb, 0, none⟩), NV.v ⟨16, s, n, none, 0, 0, f, t, a⟩] w (MeantPost kb nb hv iv lv nv ns K P (.mk 16 s n [] f t a) w) := by
  have H := hide h.low
  have Hs := hide hs
  have hm : Hid (mean ns (.mk 16 s n [] f t a) = (.var (ix s ns + 1), ns)) := by show _ = _; simp [mean, addN_in hs]
  have bb := ((Below.refl w.heap.size w).alloc (Nat.le_refl _) (.cells (nodeA ⟨16, s, n, none, 0, 0, f, t, a⟩) 62)).alloc (by simp) (.cells zTy 85)
  have HB := hide bb
  have BR := hide (Bx.at (w.alloc (.cells (nodeA ⟨16, s, n, none, 0, 0, f, t, a⟩) 62)) zTy 85 (w.heap.size + 1) (by simp))
  have BN := hide ((Bx.new w (nodeA ⟨16, s, n, none, 0, 0, f, t, a⟩) 62).alloc (.cells zTy 85))
  clear h hs bb
  unfold NV.v
  go_enter Tryz.func68, Tryz.ntmps68
  obtain ⟨c0, f0, y0⟩ := unhide BN
  obtain ⟨c1, f1, y1⟩ := unhide BR
  go_wp2_with fail
  refine (of_C ((unhide H).nms.bel (unhide HB)) (unhide H).un hN s).mono ?_
  rintro e w1 ⟨y, b, rfl, hb, hor⟩
  obtain ⟨rfl, rfl⟩ : b = true ∧ y = varT (ix s ns + 1) := by
    rcases hor with ⟨h1, _, h2⟩ | ⟨_, h1, _⟩
    · exact ⟨h1, h2⟩
    · exact absurd (unhide Hs) h1
  have HB1 := hide ((unhide HB).trans (hb.mono (by simp; omega)))
  have BR1 := hide ((unhide BR).below hb)
  have hix := hide (ix_mem (unhide Hs))
  clear hor HB BR BN c0 f0 y0 c1 f1 y1 hb
  obtain ⟨c1, f1, y1⟩ := unhide BR1
  unfold TV.v varT
  go_wp2_with fail
  have BF := hide (((unhide BR1).set3 rfl (.int .i64 ((ix s ns : Int) + 1)) (.string ⟨#[]⟩) (.slice none 0 0)).alloc (.cells #[.int .i64 ((ix s ns : Int) + 1), .string ⟨#[]⟩, .slice none 0 0] 85))
  have HF := hide (((unhide HB1).set3 (b := w.heap.size + 1) (by omega) (.int .i64 ((ix s ns : Int) + 1)) (.string ⟨#[]⟩) (.slice none 0 0)).alloc (by simp [World.setCell]; exact (unhide HB1).size) (.cells #[.int .i64 ((ix s ns : Int) + 1), .string ⟨#[]⟩, .slice none 0 0] 85))
  obtain ⟨cF, fF, zF⟩ := unhide BF
  refine bodyPost_ret (v := TV.v (varT (ix s ns + 1))) (by simp [results, Tryz.results68, go_sem, cF, TV.v, varT]) rfl ⟨varT (ix s ns + 1), hv, iv, lv, nv, (fun b => P b ∧ b < w.heap.size), rfl, ?_, ?_, Fr.of (unhide HF), fun b hb => Or.inl hb, fun b p z => ⟨p, z⟩, fun b p => Or.inl p⟩
  · rw [unhide hm]; exact (unhide H).bel (unhide HF)
  · rw [unhide hm]; exact TR.var _ (by omega) (by have := unhide hix; show ix s ns + 1 ≤ ns.length; omega)
end
end Go.Proofs.YtfflpeklkfjdnaaGreatDoor
namespace Go.Proofs.YtfflpeklkfjdnaaGreatDoor
open Go Go.RowKit Un
theorem strInfo : (Tryz.prog.info? 9).map (fun i => (i.zero, i.size, i.bytes)) = some (some (.string ⟨#[]⟩), 1, 16) := by kernel_rfl
theorem strsUnder : Tryz.prog.underlying 81 = some (.slice 9) := by kernel_rfl
/-- The names while one is being added: so many types behind them. -/
structure NSa (w : World) (nb : Nat) (lv nv : Value) (ns : List ByteArray) (m : Nat) : Prop where
  c0 : w.cell? ⟨nb, 0, none⟩ = some lv
  c1 : w.cell? ⟨nb, 1, none⟩ = some nv
  fz : ∀ j, w.frozen? ⟨nb, j, none⟩ = false
  hk : nb < w.heap.size
  ol : w.ownsRow 0 9 1 lv ns.length (ns.map .string)
  on_ : w.ownsRow 0 85 3 nv m (flat3 ((List.range m).map fun i => varT (i + 1)))
  nl : lv.ownBlock ≠ some nb
  nn : nv.ownBlock ≠ some nb
  na : ∀ b, lv.ownBlock = some b → nv.ownBlock ≠ some b
theorem NSa.ns {w : World} {nb : Nat} {lv nv : Value} {ns : List ByteArray} (h : NSa w nb lv nv ns ns.length) : NS w nb lv nv ns := ⟨h.c0, h.c1, h.fz, h.hk, h.ol, h.on_⟩

theorem Fr.trans' {S T : Nat → Prop} {a b c : World} (h : Fr S a b) (k : Fr T b c) (hT : ∀ x, T x → S x ∨ a.heap.size ≤ x) : Fr S a c :=
  ⟨k.os.trans h.os, k.tape.trans h.tape, k.output.trans h.output, Nat.le_trans h.size k.size, fun i hi hn => (k.block i (Nat.lt_of_lt_of_le hi h.size) (fun t => by rcases hT i t with t | t; exact hn t; omega)).trans (h.block i hi hn)⟩
theorem mem_Mu {kb nb : Nat} {hv iv lv nv : Value} {b : Nat} : b ∈ Mu kb nb hv iv lv nv ↔ (b = kb ∨ KB hv iv b) ∨ (b = nb ∨ KB lv nv b) := by
  simp only [Mu, KB, List.mem_cons, List.mem_append, Option.mem_toList]
  constructor
  · rintro (h | h | ((h | h) | h) | h) <;> simp [h]
  · rintro ((h | h | h) | (h | h | h)) <;> simp [h]
theorem Mu_nodup {kb nb : Nat} {hv iv lv nv : Value} (h1 : hv.ownBlock ≠ some kb) (h2 : iv.ownBlock ≠ some kb) (h3 : ∀ b, hv.ownBlock = some b → iv.ownBlock ≠ some b) (h4 : lv.ownBlock ≠ some nb) (h5 : nv.ownBlock ≠ some nb) (h6 : ∀ b, lv.ownBlock = some b → nv.ownBlock ≠ some b)
    (h7 : ∀ b, (b = kb ∨ KB hv iv b) → ¬ (b = nb ∨ KB lv nv b)) : (Mu kb nb hv iv lv nv).Nodup := by
  have two : ∀ o : Option Nat, o.toList.Nodup := fun o => by cases o <;> simp
  simp only [Mu, List.nodup_cons, List.nodup_append, List.mem_cons, List.mem_append, Option.mem_toList, not_or]
  refine ⟨⟨fun e => h7 kb (Or.inl rfl) (Or.inl e), ⟨⟨h1, h2⟩, fun e => h7 kb (Or.inl rfl) (Or.inr (Or.inl e))⟩, fun e => h7 kb (Or.inl rfl) (Or.inr (Or.inr e))⟩,
    ⟨⟨⟨fun e => h7 nb (Or.inr (Or.inl e)) (Or.inl rfl), fun e => h7 nb (Or.inr (Or.inr e)) (Or.inl rfl)⟩, h4⟩, h5⟩, ⟨⟨two _, two _, ?_⟩, two _, ?_⟩, two _, ?_⟩
  · rintro a ha b hb rfl; exact h3 a ha hb
  · rintro a ha b hb rfl
    rcases ha with ha | ha
    · exact h7 a (Or.inr (Or.inl ha)) (Or.inr (Or.inl hb))
    · exact h7 a (Or.inr (Or.inr ha)) (Or.inr (Or.inl hb))
  · rintro a ha b hb rfl
    rcases ha with (ha | ha) | ha
    · exact h7 a (Or.inr (Or.inl ha)) (Or.inr (Or.inr hb))
    · exact h7 a (Or.inr (Or.inr ha)) (Or.inr (Or.inr hb))
    · exact h6 a ha hb
theorem KN.sep {w : World} {kb nb : Nat} {hv iv lv nv : Value} {ns : List ByteArray} {K : Nat → Option Ty} {P : Nat → Prop} (h : KN w kb nb hv iv lv nv ns K P) : (∀ b, (b = kb ∨ KB hv iv b) → ¬ (b = nb ∨ KB lv nv b)) ∧ lv.ownBlock ≠ some nb ∧ nv.ownBlock ≠ some nb ∧ ∀ b, lv.ownBlock = some b → nv.ownBlock ≠ some b := by
  have nd := h.nd
  simp only [Mu, List.nodup_cons, List.nodup_append, List.mem_cons, List.mem_append, Option.mem_toList, not_or] at nd
  obtain ⟨⟨n1, n2⟩, n3, n4⟩ := nd
  refine ⟨?_, n3.1.2, n3.2, fun b h1 h2 => n4.2.2 b (Or.inr h1) b h2 rfl⟩
  rintro b (rfl | k | k) hc
  · rcases hc with rfl | hc | hc
    · exact n1 rfl
    · exact n2.1.2 hc
    · exact n2.2 hc
  · rcases hc with rfl | hc | hc
    · exact n3.1.1.1 k
    · exact n4.1.2.2 b (Or.inl k) b hc rfl
    · exact n4.2.2 b (Or.inl (Or.inl k)) b hc rfl
  · rcases hc with rfl | hc | hc
    · exact n3.1.1.2 k
    · exact n4.1.2.2 b (Or.inr k) b hc rfl
    · exact n4.2.2 b (Or.inl (Or.inr k)) b hc rfl
/-- Behind the append of a name and the store of the new row. -/
theorem names_l {w4 w5 : World} {nb : Nat} {lv nv : Value} {ns : List ByteArray} {m g5 q5 : Nat} {s : ByteArray} (h : NSa w4 nb lv nv ns m) (o : Obj) (hg : (w4.alloc o).drew.grownBy w5 lv.ownBlock)
    (hown : w5.ownsRow 0 9 1 (.slice (some ⟨g5, 0, none⟩) (ns.length + 1) q5) (ns.length + 1) (ns.map Value.string ++ [.string s]))
    (hloc : (Value.slice (some ⟨g5, 0, none⟩) (ns.length + 1) q5).ownBlock = lv.ownBlock ∨ (Value.slice (some ⟨g5, 0, none⟩) (ns.length + 1) q5).ownBlock = some (w4.alloc o).drew.heap.size) :
    NSa (w5.setCell ⟨nb, 0, none⟩ (.slice (some ⟨g5, 0, none⟩) (ns.length + 1) q5)) nb (.slice (some ⟨g5, 0, none⟩) (ns.length + 1) q5) nv (ns ++ [s]) m ∧
      Fr (fun b => b = nb ∨ KB lv nv b) w4 (w5.setCell ⟨nb, 0, none⟩ (.slice (some ⟨g5, 0, none⟩) (ns.length + 1) q5)) ∧ (lv.ownBlock = some g5 ∨ w4.heap.size < g5) := by
  have loc : lv.ownBlock = some g5 ∨ w4.heap.size < g5 := by
    rcases hloc with e | e
    · exact Or.inl e.symm
    · simp [Value.ownBlock] at e; exact Or.inr (by omega)
  have hs5 : w4.heap.size < w5.heap.size := by have := hg.size; simp at this; omega
  have b5 : ∀ b, b < w4.heap.size → lv.ownBlock ≠ some b → w5.heap[b]? = w4.heap[b]? := fun b hb hn => (hg.block b (by simp; omega) (fun e => hn e.symm)).trans (((Below.refl w4.heap.size w4).alloc (Nat.le_refl _) o).block b hb)
  have n5 : g5 ≠ nb := by
    rintro rfl
    rcases loc with e | e
    · exact h.nl e
    · have := h.hk; omega
  have k5 := b5 nb h.hk h.nl
  have x0 : w5.cell? ⟨nb, 0, none⟩ = some lv := (World.cell?_of_block (a := ⟨nb, 0, none⟩) k5).trans h.c0
  refine ⟨⟨World.cell?_setCell_same _ _ _ x0, ?_, fun j => ?_, ?_, ?_, ?_, ?_, h.nn, ?_⟩, ?_, loc⟩
  · rw [World.cell?_setCell_other _ _ _ _ (by simp)]
    exact (World.cell?_of_block (a := ⟨nb, 1, none⟩) k5).trans h.c1
  · have : w5.frozen? ⟨nb, j, none⟩ = false := (World.frozen?_of_block (a := ⟨nb, j, none⟩) k5).trans (h.fz j)
    simpa using this
  · have := h.hk; simp [World.setCell]; omega
  · have := own_oth hown (b := nb) (by simp [Value.ownBlock]; exact n5) 0 (.slice (some ⟨g5, 0, none⟩) (ns.length + 1) q5)
    simpa using this
  · refine own_oth (own_same h.on_ (fun g hg' => b5 g (own_block h.on_ g hg').2 (fun e => h.na g e hg'))) h.nn 0 _
  · simp [Value.ownBlock]; exact n5
  · intro b hb
    have : b = g5 := by simpa [Value.ownBlock] using hb.symm
    subst this
    rcases loc with e | e
    · exact h.na b e
    · intro k; have := (own_block h.on_ b k).2; omega
  · have f1 : Fr (fun b => b = nb ∨ KB lv nv b) w4 w5 := ⟨hg.os, hg.tape, hg.output, by omega, fun b hb hn => b5 b hb (fun e => hn (Or.inr (Or.inl e)))⟩
    exact f1.set (Or.inl (Or.inl rfl)) _ _
theorem flat3_app (xs : List TV) (y : TV) : flat3 (xs ++ [y]) = flat3 xs ++ [.int .i64 y.n, .string y.s, .slice y.la y.ll y.lc] := by simp [flat3, TV.l]
theorem flat3_last {xs : List TV} {N : Nat} (h : xs.length = N) (y : TV) :
    (((flat3 xs ++ [Value.int .i64 0, .string ⟨#[]⟩, .slice none 0 0]).set (N * 3) (.int .i64 y.n)).set (N * 3 + 1) (.string y.s)).set (N * 3 + 2) (.slice y.la y.ll y.lc) = flat3 (xs ++ [y]) := by
  rw [flat3_snoc]
  have := flat3_set (xs ++ [TV.no]) N (by simp; omega) y
  rw [show (xs ++ [TV.no]).set N y = xs ++ [y] by rw [← h]; simp] at this
  exact this
/-- Behind the append of a type, its store, and the store of the new row, in whichever order the two came. -/
theorem names_n {w5 w6 W : World} {nb : Nat} {lv nv : Value} {ns : List ByteArray} {m g6 q6 : Nat} (h : NSa w5 nb lv nv ns m) (o : Obj) (hg : (w5.alloc o).drew.grownBy w6 nv.ownBlock)
    (hown : w6.ownsRow 0 85 3 (.slice (some ⟨g6, 0, none⟩) (m + 1) q6) (m + 1) (flat3 ((List.range m).map fun i => varT (i + 1)) ++ [.int .i64 0, .string ⟨#[]⟩, .slice none 0 0]))
    (hloc : (Value.slice (some ⟨g6, 0, none⟩) (m + 1) q6).ownBlock = nv.ownBlock ∨ (Value.slice (some ⟨g6, 0, none⟩) (m + 1) q6).ownBlock = some (w5.alloc o).drew.heap.size)
    (hW : W = (((w6.setCell ⟨g6, m * 3, none⟩ (.int .i64 ((m : Int) + 1))).setCell ⟨g6, m * 3 + 1, none⟩ (.string ⟨#[]⟩)).setCell ⟨g6, m * 3 + 2, none⟩ (.slice none 0 0)).setCell ⟨nb, 1, none⟩ (.slice (some ⟨g6, 0, none⟩) (m + 1) q6) ∨
      W = (((w6.setCell ⟨nb, 1, none⟩ (.slice (some ⟨g6, 0, none⟩) (m + 1) q6)).setCell ⟨g6, m * 3, none⟩ (.int .i64 ((m : Int) + 1))).setCell ⟨g6, m * 3 + 1, none⟩ (.string ⟨#[]⟩)).setCell ⟨g6, m * 3 + 2, none⟩ (.slice none 0 0)) :
    NSa W nb lv (.slice (some ⟨g6, 0, none⟩) (m + 1) q6) ns (m + 1) ∧ Fr (fun b => b = nb ∨ KB lv nv b) w5 W ∧ (nv.ownBlock = some g6 ∨ w5.heap.size < g6) ∧ (∀ b, b < w5.heap.size → b ≠ g6 → b ≠ nb → W.heap[b]? = w6.heap[b]?) := by
  have loc : nv.ownBlock = some g6 ∨ w5.heap.size < g6 := by
    rcases hloc with e | e
    · exact Or.inl e.symm
    · simp [Value.ownBlock] at e; exact Or.inr (by omega)
  have hs6 : w5.heap.size < w6.heap.size := by have := hg.size; simp at this; omega
  have b6 : ∀ b, b < w5.heap.size → nv.ownBlock ≠ some b → w6.heap[b]? = w5.heap[b]? := fun b hb hn => (hg.block b (by simp; omega) (fun e => hn e.symm)).trans (((Below.refl w5.heap.size w5).alloc (Nat.le_refl _) o).block b hb)
  have n6 : g6 ≠ nb := by
    rintro rfl
    rcases loc with e | e
    · exact h.nn e
    · have := h.hk; omega
  have k6 := b6 nb h.hk h.nn
  have bW : ∀ b, b ≠ g6 → b ≠ nb → W.heap[b]? = w6.heap[b]? := fun b h1 h2 => by
    rcases hW with rfl | rfl
    · rw [Below.heap_setCell _ _ _ _ h2, Below.heap_setCell _ _ _ _ h1, Below.heap_setCell _ _ _ _ h1, Below.heap_setCell _ _ _ _ h1]
    · rw [Below.heap_setCell _ _ _ _ h1, Below.heap_setCell _ _ _ _ h1, Below.heap_setCell _ _ _ _ h1, Below.heap_setCell _ _ _ _ h2]
  have sW : W.heap.size = w6.heap.size := by rcases hW with rfl | rfl <;> simp [World.setCell]
  have g6S : (g6 = nb ∨ KB lv nv g6) ∨ w5.heap.size ≤ g6 := by
    rcases loc with e | e
    · exact Or.inl (Or.inr (Or.inr e))
    · exact Or.inr (by omega)
  have f6 : Fr (fun b => b = nb ∨ KB lv nv b) w5 w6 := ⟨hg.os, hg.tape, hg.output, by omega, fun b hb hn => b6 b hb (fun e => hn (Or.inr (Or.inr e)))⟩
  have frW : Fr (fun b => b = nb ∨ KB lv nv b) w5 W := by
    rcases hW with rfl | rfl
    · exact (((f6.set g6S _ _).set g6S _ _).set g6S _ _).set (Or.inl (Or.inl rfl)) _ _
    · exact (((f6.set (Or.inl (Or.inl rfl)) _ _).set g6S _ _).set g6S _ _).set g6S _ _
  have hkW := h.hk
  have x0 : w6.cell? ⟨nb, 0, none⟩ = some lv := (World.cell?_of_block (a := ⟨nb, 0, none⟩) k6).trans h.c0
  have x1 : w6.cell? ⟨nb, 1, none⟩ = some nv := (World.cell?_of_block (a := ⟨nb, 1, none⟩) k6).trans h.c1
  have xf : ∀ j, w6.frozen? ⟨nb, j, none⟩ = false := fun j => (World.frozen?_of_block (a := ⟨nb, j, none⟩) k6).trans (h.fz j)
  refine ⟨⟨?_, ?_, ?_, by omega, ?_, ?_, h.nl, ?_, ?_⟩, frW, loc, fun b _ h1 h2 => bW b h1 h2⟩
  · have this1 : ∀ (u : World) (i : Nat) (v : Value), (u.setCell ⟨g6, i, none⟩ v).cell? ⟨nb, 0, none⟩ = u.cell? ⟨nb, 0, none⟩ := fun u i v => World.cell?_setCell_other _ _ _ _ (by intro e; injection e with e; exact n6 e)
    have this2 : ∀ (u : World) (v : Value), (u.setCell ⟨nb, 1, none⟩ v).cell? ⟨nb, 0, none⟩ = u.cell? ⟨nb, 0, none⟩ := fun u v => World.cell?_setCell_other _ _ _ _ (by simp)
    rcases hW with rfl | rfl
    · rw [this2, this1, this1, this1]; exact x0
    · rw [this1, this1, this1, this2]; exact x0
  · have this1 : ∀ (u : World) (i : Nat) (v : Value), (u.setCell ⟨g6, i, none⟩ v).cell? ⟨nb, 1, none⟩ = u.cell? ⟨nb, 1, none⟩ := fun u i v => World.cell?_setCell_other _ _ _ _ (by intro e; injection e with e; exact n6 e)
    rcases hW with rfl | rfl
    · exact World.cell?_setCell_same (u := nv) _ _ _ (by rw [this1, this1, this1]; exact x1)
    · rw [this1, this1, this1]; exact World.cell?_setCell_same _ _ _ x1
  · intro j
    rcases hW with rfl | rfl <;> simp [xf j]
  · refine own_same h.ol fun g hg' => ?_
    have z := (own_block h.ol g hg').2
    have e1 : g ≠ g6 := by
      rintro rfl
      rcases loc with e | e
      · exact h.na g hg' e
      · omega
    rw [bW g e1 (fun e => h.nl (e ▸ hg')), b6 g z (h.na g hg')]
  · have nk : (Value.slice (some ⟨g6, 0, none⟩) (m + 1) q6).ownBlock ≠ some nb := by simp [Value.ownBlock]; exact n6
    have e2 : ((List.range m).map fun i => varT (i + 1)) ++ [varT (m + 1)] = (List.range (m + 1)).map fun i => varT (i + 1) := by rw [List.range_succ, List.map_append]; rfl
    have e3 := flat3_last (xs := (List.range m).map fun i => varT (i + 1)) (N := m) (by simp) (varT (m + 1))
    rw [e2] at e3
    rcases hW with rfl | rfl
    · have := own_oth (own_put (own_put (own_put hown (m * 3) (.int .i64 ((m : Int) + 1))) (m * 3 + 1) (.string ⟨#[]⟩)) (m * 3 + 2) (.slice none 0 0)) nk 1 (.slice (some ⟨g6, 0, none⟩) (m + 1) q6)
      rw [← e3]; exact this
    · have := own_put (own_put (own_put (own_oth hown nk 1 (.slice (some ⟨g6, 0, none⟩) (m + 1) q6)) (m * 3) (.int .i64 ((m : Int) + 1))) (m * 3 + 1) (.string ⟨#[]⟩)) (m * 3 + 2) (.slice none 0 0)
      rw [← e3]; exact this
  · simp [Value.ownBlock]; exact n6
  · intro b hb k
    have : b = g6 := by simpa [Value.ownBlock] using k.symm
    subst this
    rcases loc with e | e
    · exact h.na b hb e
    · have := (own_block h.ol b hb).2; omega
end Go.Proofs.YtfflpeklkfjdnaaGreatDoor
namespace Go.Proofs.YtfflpeklkfjdnaaGreatDoor
open Go Go.RowKit Un
theorem TR.wide {w : World} {P Q : Nat → Prop} {N : Nat} {t : Ty} {x : TV} (h : TR w P N t x) (hq : ∀ b, P b → Q b) : TR w Q N t x := h.move (Nat.le_refl _) (Nat.le_refl _) (fun _ _ _ => rfl) (fun b p _ => hq b p)
theorem KS.wide {w : World} {kb : Nat} {hv iv : Value} {N : Nat} {K : Nat → Option Ty} {P Q : Nat → Prop} (h : KS w kb hv iv N K P) (hq : ∀ b, P b → Q b) (hp : ∀ b, Q b → b ≠ kb ∧ hv.ownBlock ≠ some b ∧ iv.ownBlock ≠ some b) : KS w kb hv iv N K Q := by
  obtain ⟨xs, x1, x2, x3⟩ := h.oi
  exact ⟨h.c0, h.c1, h.fz, h.hk, h.oh, ⟨xs, x1, x2, fun i hi t e => (x3 i hi t e).wide hq⟩, h.nh, h.ni, h.na, hp, h.hN, h.out⟩
theorem KN.wide {w : World} {kb nb : Nat} {hv iv lv nv : Value} {ns : List ByteArray} {K : Nat → Option Ty} {P Q : Nat → Prop} (h : KN w kb nb hv iv lv nv ns K P) (hq : ∀ b, P b → Q b) (hp : ∀ b, Q b → ¬ b ∈ Mu kb nb hv iv lv nv) : KN w kb nb hv iv lv nv ns K Q :=
  ⟨h.ks.wide hq (fun b q => ⟨fun e => hp b q (mem_Mu.2 (Or.inl (Or.inl e))), fun e => hp b q (mem_Mu.2 (Or.inl (Or.inr (Or.inl e)))), fun e => hp b q (mem_Mu.2 (Or.inl (Or.inr (Or.inr e))))⟩), h.nms, h.nd, hp, h.un⟩
/-- A type whose parts lie in a block of the call's own. -/
theorem TR.ofBx {w : World} {P : Nat → Prop} {N : Nat} (c : ByteArray) (L : List Ty) (xs : List TV) (h0 : L ≠ []) (hL : L.length ≤ 1001) (hl : xs.length = L.length) {g : Nat} {C : Array Value} (hB : Bx w g C) (hC : C = (flat3 xs).toArray)
    (hr : ∀ i (h : i < L.length), TR w P N L[i] (xs[i]'(by omega))) (hP : P g) (cap : Nat) (hw : okN c L.length) : TR w P N (.con c L) ⟨0, c, some ⟨g, 0, none⟩, L.length, cap⟩ := by
  subst hC
  have hx : ∀ i (h : i < L.length), xs.getD i TV.no = xs[i]'(by omega) := fun i h => by rw [List.getD_eq_getElem?_getD, List.getElem?_eq_getElem (by omega)]; rfl
  refine .row c L g cap (fun i => xs.getD i TV.no) hw h0 hL hP hB.z (fun i hi j hj => ?_) (fun i hi => ?_)
  · rw [hx i hi, hB.c, ← flat3_at xs i j (by omega) hj]
    simp
  · rw [hx i hi]
    exact hr i hi
theorem TR.pair {w : World} {P : Nat → Prop} {N : Nat} (c : ByteArray) {u v : Ty} {x y : TV} {g : Nat} {C : Array Value} (hB : Bx w g C) (hC : C = (flat3 [x, y]).toArray) (hu : TR w P N u x) (hv : TR w P N v y) (hP : P g) (cap : Nat) (hw : okN c 2) :
    TR w P N (.con c [u, v]) ⟨0, c, some ⟨g, 0, none⟩, 2, cap⟩ :=
  TR.ofBx c [u, v] [x, y] (by simp) (by simp) rfl hB hC (fun i hi => by
    match i, hi with
    | 0, _ => exact hu
    | 1, _ => exact hv) hP cap hw
theorem NR.low {w : World} {P : Nat → Prop} {nd : Nd} {x : NV} (h : NR w P nd x) : NR w (fun b => P b ∧ b < w.heap.size) nd x := h.move (Nat.le_refl _) (fun _ _ _ => rfl) (fun _ p z => ⟨p, z⟩)
theorem TR.set3 {w : World} {P : Nat → Prop} {N : Nat} {t : Ty} {x : TV} (h : TR w P N t x) {b : Nat} (hn : ¬ P b) (v0 v1 v2 : Value) : TR (((w.setCell ⟨b, 0, none⟩ v0).setCell ⟨b, 1, none⟩ v1).setCell ⟨b, 2, none⟩ v2) P N t x :=
  h.move (Nat.le_refl _) (by simp [World.setCell]) (fun c p _ => by
    have hne : c ≠ b := fun e => hn (e ▸ p)
    rw [Below.heap_setCell _ _ _ _ hne, Below.heap_setCell _ _ _ _ hne, Below.heap_setCell _ _ _ _ hne]) (fun _ p _ => p)
theorem Fr.set3 {S : Nat → Prop} {a w : World} (h : Fr S a w) {b : Nat} (hb : S b ∨ a.heap.size ≤ b) (v0 v1 v2 : Value) : Fr S a (((w.setCell ⟨b, 0, none⟩ v0).setCell ⟨b, 1, none⟩ v1).setCell ⟨b, 2, none⟩ v2) :=
  ((h.set hb 0 v0).set hb 1 v1).set hb 2 v2
theorem Bx.setO3 {w : World} {b b2 : Nat} {C : Array Value} (h : Bx w b C) (hn : b ≠ b2) (v0 v1 v2 : Value) : Bx (((w.setCell ⟨b2, 0, none⟩ v0).setCell ⟨b2, 1, none⟩ v1).setCell ⟨b2, 2, none⟩ v2) b C :=
  ((h.setO hn 0 v0).setO hn 1 v1).setO hn 2 v2
/-- That finding the meaning of a part keeps its promise. -/
def MeantC (nd : Nd) : Prop := ∀ (w : World) (kb nb : Nat) (hv iv lv nv : Value) (ns : List ByteArray) (K : Nat → Option Ty) (P Q : Nat → Prop) (x : NV), KN w kb nb hv iv lv nv ns K P → NR w Q nd x → (∀ b, Q b → ¬ b ∈ Mu kb nb hv iv lv nv) → (mean ns nd).2.length ≤ 1000 →
    Calls Tryz.prog 68 #[.pointer (some ⟨nb, 0, none⟩), .pointer (some ⟨kb, 0, none⟩), x.v] w (MeantPost kb nb hv iv lv nv ns K P nd w)
theorem addN_len (s : ByteArray) (ns : List ByteArray) : ns.length ≤ (addN s ns).length := by unfold addN; split <;> simp
mutual
theorem mean_len : ∀ (nd : Nd) (ns : List ByteArray), ns.length ≤ (mean ns nd).2.length
  | .mk k s n L f t a, ns => by
      simp only [mean]
      split
      · exact addN_len s ns
      · exact meanL_len L ns
theorem meanL_len : ∀ (L : List Nd) (ns : List ByteArray), ns.length ≤ (meanL ns L).2.length
  | [], ns => by simp [meanL]
  | x :: l, ns => by simp only [meanL]; exact Nat.le_trans (mean_len x ns) (meanL_len l _)
end
end Go.Proofs.YtfflpeklkfjdnaaGreatDoor
namespace Go.Proofs.YtfflpeklkfjdnaaGreatDoor
open Go Go.RowKit Un

mutual
/-- How many variables stand in a part. -/
def cnt : Nd → Nat
  | .mk k _ _ L _ _ _ => (if k = 16 then 1 else 0) + cntL L
def cntL : List Nd → Nat
  | [] => 0
  | x :: l => cnt x + cntL l
end
theorem cntL_app : ∀ (a b : List Nd), cntL (a ++ b) = cntL a + cntL b
  | [], b => by simp [cntL]
  | x :: a, b => by simp [cntL, cntL_app a b]; omega
mutual
theorem mean_cnt : ∀ (nd : Nd) (ns : List ByteArray), (mean ns nd).2.length ≤ ns.length + cnt nd
  | .mk k s n L f t a, ns => by
      simp only [mean, cnt]
      split
      · simp only [addN]
        split <;> simp <;> omega
      · have := meanL_cnt L ns
        simp; omega
theorem meanL_cnt : ∀ (L : List Nd) (ns : List ByteArray), (meanL ns L).2.length ≤ ns.length + cntL L
  | [], ns => by simp [meanL, cntL]
  | x :: l, ns => by
      have h1 := mean_cnt x ns
      have h2 := meanL_cnt l (mean ns x).2
      simp only [meanL, cntL]; omega
end
/-- A parser of types: what it reads is one, and has no more variables than it took tokens. -/
def TyM (m : M Nd) : Prop := ∀ k a k', m k = .ok (a, k') → TyNd a ∧ k < k' ∧ cnt a ≤ k' - k
theorem bnd_in {α β : Type} {m : M α} {f : α → M β} {k : Nat} {b : β} {k' : Nat} (h : bnd m f k = .ok (b, k')) : ∃ a k1, m k = .ok (a, k1) ∧ f a k1 = .ok (b, k') := by
  unfold bnd at h
  split at h
  · cases h
  · rename_i a k1 e; exact ⟨a, k1, e, h⟩
theorem want_in {T : List Pu.Tok} {s : ByteArray} {k : Nat} {u : Unit} {k' : Nat} (h : wantM T s k = .ok (u, k')) : k' = k + 1 := by
  unfold wantM at h
  split at h
  · simp at h; exact h.symm
  · cases h
/-- An up name is no sign. -/
def UpOk (T : List Pu.Tok) : Prop := ∀ k, (tk T k).kind = 2 → ∀ n, okN (tk T k).text n
section
variable {T : List Pu.Tok}
theorem small_tyT (hU : UpOk T) {part : M Nd} (hp : TyM part) : TyM (smallM T part part 1) := by
  intro k a k' h
  unfold smallM at h
  split at h
  · rename_i hb
    split at h
    · unfold groupM at h
      simp only [ne_eq, not_true_eq_false, false_and, if_false] at h
      obtain ⟨u, k1, h1, h2⟩ := bnd_in h
      obtain ⟨t1, z1, c1⟩ := hp _ _ _ h1
      unfold restM at h2
      split at h2
      · obtain ⟨v, k2, h3, h4⟩ := bnd_in h2
        obtain ⟨t2, z2, c2⟩ := hp _ _ _ h3
        unfold closeM at h4
        obtain ⟨_, k3, h5, h6⟩ := bnd_in h4
        have := want_in h5
        simp only [Except.ok.injEq, Prod.mk.injEq] at h6
        obtain ⟨rfl, rfl⟩ := h6
        refine ⟨.two 6 _ _ _ _ _ _ _ (Or.inr rfl) t1 t2, by omega, ?_⟩
        simp [cnt, cntL]; omega
      · simp only [show ¬ (1 : Nat) = 3 by omega, false_and, if_false] at h2
        unfold closeM at h2
        obtain ⟨_, k3, h5, h6⟩ := bnd_in h2
        have := want_in h5
        simp only [Except.ok.injEq, Prod.mk.injEq] at h6
        obtain ⟨rfl, rfl⟩ := h6
        exact ⟨t1, by omega, by omega⟩
    · rename_i ho
      simp only [Except.ok.injEq, Prod.mk.injEq] at h
      obtain ⟨rfl, rfl⟩ := h
      have hk : (tk T k).kind = 2 ∨ (tk T k).kind = 3 := by
        have ho' : isT (tk T k) kOpen = false := by simpa using ho
        simp only [beginsB, ho', Bool.false_or, if_true, Bool.or_eq_true, beq_iff_eq] at hb
        revert hb
        unfold leafK
        intro hb
        by_cases e1 : (tk T k).kind = 1
        · simp [e1] at hb
        · by_cases e2 : (tk T k).kind = 2
          · exact Or.inl e2
          · by_cases e3 : (tk T k).kind = 3
            · exact Or.inr e3
            · exfalso
              simp only [e1, e2, e3, if_false] at hb
              repeat' split at hb
              all_goals omega
      rcases hk with hk | hk
      · have : leafN (tk T k) = .mk 2 (tk T k).text 0 [] (tk T k).frm (tk T k).to (tk T k).frm := by simp [leafN, leafK, leafNum, hk]
        rw [this]
        exact ⟨.up _ _ [] _ _ _ (hU k hk) (by simp) (fun i h => by simp at h), by omega, by simp [cnt, cntL]⟩
      · have : leafN (tk T k) = .mk 16 (tk T k).text 0 [] (tk T k).frm (tk T k).to (tk T k).frm := by simp [leafN, leafK, leafNum, hk]
        rw [this]
        exact ⟨.var _ _ _ _ _, by omega, by simp [cnt, cntL]⟩
  · cases h
theorem headF_tyT {small : M Nd} (hs : TyM small) (s : ByteArray) (hw : ∀ n, okN s n) : ∀ (f : Nat) (n : Nat) (L : List Nd) (fr t a k : Nat) (x : Nd) (k' : Nat), headF T small 1 f (.mk 2 s n L fr t a) k = .ok (x, k') → L.length + f ≤ 1001 → (∀ i (h : i < L.length), TyNd L[i]) →
    TyNd x ∧ k ≤ k' ∧ cnt x ≤ cntL L + (k' - k)
  | 0, n, L, fr, t, a, k, x, k', h, hl, hL => by
      simp only [headF, Except.ok.injEq, Prod.mk.injEq] at h
      obtain ⟨rfl, rfl⟩ := h
      exact ⟨.up _ _ L _ _ _ hw (by omega) hL, Nat.le_refl _, by simp [cnt]⟩
  | f + 1, n, L, fr, t, a, k, x, k', h, hl, hL => by
      simp only [headF] at h
      split at h
      · obtain ⟨y, k1, h1, h2⟩ := bnd_in h
        obtain ⟨t1, z1, c1⟩ := hs _ _ _ h1
        simp only [Nd.add] at h2
        have ih := headF_tyT hs s hw f n (L ++ [y]) fr _ a k1 x k' h2 (by simp; omega) (fun i hi => by
          by_cases e : i < L.length
          · rw [List.getElem_append_left e]; exact hL i e
          · rw [List.getElem_append_right (by omega)]
            simp at hi ⊢
            exact t1)
        rw [cntL_app] at ih
        simp only [cntL] at ih
        exact ⟨ih.1, by omega, by omega⟩
      · simp only [Except.ok.injEq, Prod.mk.injEq] at h
        obtain ⟨rfl, rfl⟩ := h
        exact ⟨.up _ _ L _ _ _ hw (by omega) hL, Nat.le_refl _, by simp [cnt]⟩
theorem head_tyT (hU : UpOk T) {small : M Nd} (hs : TyM small) (hT : T.length ≤ 1001) (hu : ∀ k, (tk T k).kind = 2 → small k = .ok (leafN (tk T k), k + 1)) : TyM (headM T small 1) := by
  intro k a k' h
  unfold headM at h
  split at h
  · rename_i hk
    have hk : (tk T k).kind = 2 := by simpa using hk
    obtain ⟨x, k1, h1, h2⟩ := bnd_in h
    rw [hu k hk] at h1
    simp only [Except.ok.injEq, Prod.mk.injEq] at h1
    obtain ⟨rfl, rfl⟩ := h1
    have : leafN (tk T k) = .mk 2 (tk T k).text 0 [] (tk T k).frm (tk T k).to (tk T k).frm := by simp [leafN, leafK, leafNum, hk]
    rw [this] at h2
    obtain ⟨t1, z1, c1⟩ := headF_tyT hs _ (hU k hk) _ _ _ _ _ _ _ _ _ h2 (by simp; omega) (fun i hi => by simp at hi)
    simp only [cntL] at c1
    exact ⟨t1, by omega, by omega⟩
  · exact hs _ _ _ h
theorem small_upT {part typ : M Nd} (k : Nat) (hk : (tk T k).kind = 2) : smallM T part typ 1 k = .ok (leafN (tk T k), k + 1) := by
  have h1 : isT (tk T k) kOpen = false := by simp [isT, hk]
  have h2 : beginsB (tk T k) 1 = true := by simp [beginsB, leafK, hk]
  simp [smallM, h1, h2]
/-- What reads as a type is one. -/
theorem typ_ty (hU : UpOk T) (hT : T.length ≤ 1001) : ∀ n, TyM (typM T n)
  | 0 => fun k a k' h => by simp [typM, wrongM] at h
  | n + 1 => fun k a k' h => by
      have ih := typ_ty hU hT n
      simp only [typM] at h
      obtain ⟨u, k1, h1, h2⟩ := bnd_in h
      obtain ⟨t1, z1, c1⟩ := head_tyT hU (small_tyT hU ih) hT (fun k hk => small_upT k hk) _ _ _ h1
      unfold arrowM at h2
      split at h2
      · obtain ⟨v, k2, h3, h4⟩ := bnd_in h2
        obtain ⟨t2, z2, c2⟩ := ih _ _ _ h3
        simp only [Except.ok.injEq, Prod.mk.injEq] at h4
        obtain ⟨rfl, rfl⟩ := h4
        refine ⟨.two 17 _ _ _ _ _ _ _ (Or.inl rfl) t1 t2, by omega, ?_⟩
        simp [cnt, cntL]; omega
      · simp only [Except.ok.injEq, Prod.mk.injEq] at h2
        obtain ⟨rfl, rfl⟩ := h2
        exact ⟨t1, by omega, by omega⟩
end
end Go.Proofs.YtfflpeklkfjdnaaGreatDoor

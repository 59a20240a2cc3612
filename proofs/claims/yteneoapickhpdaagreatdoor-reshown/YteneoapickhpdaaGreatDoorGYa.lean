import Derived.Test.YteneoapickhpdaaGreatDoorGXu
set_option linter.unusedSimpArgs false
set_option linter.unusedVariables false
set_option linter.unusedSectionVars false
namespace Go.Proofs.YteneoapickhpdaaGreatDoor
open Go Go.RowKit Go.ChangeMaps
def declM (T : List Pu.Tok) (n : Nat) : M Dc := fun k => if isT (tk T k) kType = true then typeM T (makerM T (smallM T (typM T n) (typM T n) 1)) k else letDM T (exprM T n) k
def declsF (T : List Pu.Tok) (d : M Dc) : Nat → List Dc → M (List Dc)
  | 0, l => fun k => .ok (l, k)
  | f + 1, l => fun k => if isT (tk T k) kType = true ∨ isT (tk T k) kLet = true then bnd d (fun x => declsF T d f (l ++ [x])) k else .ok (l, k)
theorem decls_go {T : List Pu.Tok} {d : M Dc} {f : Nat} {l : List Dc} {k : Nat} (h : isT (tk T k) kType = true ∨ isT (tk T k) kLet = true) : declsF T d (f + 1) l k = bnd d (fun x => declsF T d f (l ++ [x])) k := by
  show (if isT (tk T k) kType = true ∨ isT (tk T k) kLet = true then _ else _) = _
  rw [if_pos h]
theorem decls_end {T : List Pu.Tok} {d : M Dc} {f : Nat} {l : List Dc} {k : Nat} (h : isT (tk T k) kType = false) (h' : isT (tk T k) kLet = false) : declsF T d f l k = .ok (l, k) := by
  cases f with
  | zero => rfl
  | succ f => unfold declsF; rw [h, h']; rfl
theorem stall_decls (T : List Pu.Tok) (d : M Dc) : ∀ f l, Stall T (declsF T d f l)
  | 0, l => fun k h => fin_at _ h
  | f + 1, l => fun k h => by unfold declsF; rw [isT_6 h, isT_6 h, if_neg (by simp)]; exact fin_at _ h
theorem type_lts {T : List Pu.Tok} {mk : M Nd} (hm : Lts mk) : Lts (typeM T mk) := fun k a k' h => by
  unfold typeM at h
  obtain ⟨_, k1, h1, h2⟩ := bnd_inv h
  obtain ⟨_, k2, h3, h4⟩ := bnd_inv h2
  obtain ⟨_, k3, h5, h6⟩ := bnd_inv h4
  obtain ⟨_, k4, h7, h8⟩ := bnd_inv h6
  obtain ⟨_, k5, h9, h10⟩ := bnd_inv h8
  obtain ⟨_, k6, h11, h12⟩ := bnd_inv h10
  cases h12
  have := want_mono _ _ _ _ h1
  have := name_mono _ _ _ _ h3
  have := varsF_mono _ _ _ _ _ _ h5
  have := want_mono _ _ _ _ h7
  have := makers_mono hm _ _ _ _ _ h9
  have := want_mono _ _ _ _ h11
  omega
theorem letD_lts {T : List Pu.Tok} {e : M Nd} (hm : Lts e) : Lts (letDM T e) := fun k a k' h => by
  unfold letDM at h
  obtain ⟨_, k1, h1, h2⟩ := bnd_inv h
  obtain ⟨_, k2, h3, h4⟩ := bnd_inv h2
  cases h4
  have := bound_lts hm _ _ _ h1
  have := want_mono _ _ _ _ h3
  omega
theorem decl_lts (T : List Pu.Tok) (n : Nat) : Lts (declM T n) := fun k a k' h => by
  unfold declM at h
  split at h
  · exact type_lts (maker_lts (small_mono (typ_mono n) (typ_mono n) 1)) _ _ _ h
  · exact letD_lts (expr_lts n) _ _ _ h
def QD : EQ Dc := fun w P d c => PD w P d (c 0)
theorem moves_d : Moves QD := fun _ _ _ _ _ _ h h1 h2 h3 => PD.move h h1 h2 h3
theorem declInfo : (Tryz.prog.info? 69).map (fun i => (i.zero, i.size, i.bytes)) = some (some .nilIface, 1, 16) := by kernel_rfl
theorem declsUnder : Tryz.prog.underlying 43 = some (.slice 69) := by kernel_rfl
theorem zeroFnD (w : World) : (zeroValue 177).run Tryz.prog w = .ok .nilFunc w := by kernel_rfl
def DeclsR (w : World) (P : Nat → Prop) (l : List Dc) (v : Value) : Prop := RowV QD 1 w P l v
def DeclsRel (N rb sb : Nat) (m : MV) (s : ByteArray) (n k : Nat) (w : World) (r : Except Fl (List Dc × Nat)) (gk : Nat) (v : Value) (wr : World) : Prop :=
  ∃ (kr : Nat) (L : List Dc) (f : Nat) (va : Option Addr) (vc : Nat),
    v = .slice va L.length vc ∧ SX wr N rb sb m s kr ∧ Ke rb w wr ∧ Hid (gk = (Pu.toks s 0).length - kr) ∧ k ≤ kr ∧ L.length ≤ kr ∧
    RowO QD 69 1 wr w.heap.size va vc L ∧ Hid (r = declsF (Pu.toks s 0) (declM (Pu.toks s 0) n) f L kr) ∧ (Pu.toks s 0).length ≤ kr + f
section
variable {w : World} {N rb sb : Nat} {m : MV} {s : ByteArray} {k n : Nat}
theorem SX.decl (h : SX w N rb sb m s k) {b : Nat} (hb : m.a = .map (some b)) : MS Value.string w b (declL rb) := by
  obtain ⟨b', e, _, _, hM⟩ := h.ev.mp.d
  rw [hb] at e
  cases e
  exact hM
theorem SX.ma (h : SX w N rb sb m s k) : ∃ b, m.a = .map (some b) := by
  obtain ⟨b', e, _, _, hM⟩ := h.ev.mp.d
  exact ⟨b', e⟩
theorem got_decl {t : Pu.Tok} (ho : TokOk t) (h6 : t.kind ≠ 6) (n0 : isT t kType = false) (n1 : isT t kLet = false) : got (kindB t) (declL rb) = none := by
  rcases ho.kd with h' | h' | h' | h' | h' | h' | h'
  · rw [kindB_1 h']; rfl
  · rw [kindB_2 h']; rfl
  · rw [kindB_3 h']; rfl
  · rw [kindB_4 h']; rfl
  · rw [kindB_5 h']
    refine got_no fun p hp => ?_
    simp only [declL, List.mem_cons, List.not_mem_nil, or_false] at hp
    rcases hp with rfl | rfl
    · exact isT_ne h' n0
    · exact isT_ne h' n1
  · exact absurd h' h6
  · rw [kindB_7 h']; rfl
set_option maxRecDepth 100000 in
set_option maxHeartbeats 2000000 in
theorem manyDecl_X (hs : s.size ≤ 1000) (hT : (Pu.toks s 0).length ≤ 1001) (h : SX w N rb sb m s k) (hn : (Pu.toks s 0).length ≤ k + 1 + n) {b : Nat} (hmd : m.a = .map (some b)) :
    Calls Tryz.prog 47 #[rp rb, .map (some b)] w (RuleX DeclsR N rb sb m s (declsF (Pu.toks s 0) (declM (Pu.toks s 0) n) (Pu.toks s 0).length [] k) w) := by
  obtain ⟨i0, hi0, hz0, hz1, hz2⟩ := info_parts declInfo
  have hnot : ∀ (x : Bool) (w : World), (Op.unary .not (.bool x)).run Tryz.prog w = .ok (.bool (!x)) w := fun _ _ => rfl
  have hzr := h.z
  have hNw := h.ev.hN
  obtain ⟨r, hr⟩ : ∃ r, r = declsF (Pu.toks s 0) (declM (Pu.toks s 0) n) (Pu.toks s 0).length [] k := ⟨_, rfl⟩
  rw [← hr]
  have hk := h.lt
  have HR := hide h
  have Hr := hide hr
  have Hmd := hide hmd
  clear h hr hmd
  go_enter Tryz.func47, Tryz.ntmps47
  go_wp2_with fail
  go_loopg [5] ((Pu.toks s 0).length - k) (fun gk v wr => DeclsRel N rb sb m s n k w r gk v wr)
  case atStart => exact ⟨k, [], (Pu.toks s 0).length, none, 0, rfl, unhide HR, Ke.refl _ _, hide rfl, Nat.le_refl _, by simp, RowO.nil _ _ _ _ _, Hr, by omega⟩
  case round =>
    clear HR Hr
    obtain ⟨kr, L, f, va, vc, rfl, R, K, hgk, hle, hLl, RW, hE, hfu⟩ := hrel
    have hM := R.decl (unhide Hmd)
    have hl := look_tab hM Tryz.underlying111 (zeroFnD wr) (kindB (tk (Pu.toks s 0) kr))
    have hkr := R.lt
    have ho := tk_ok s kr hkr
    obtain ⟨c, ff, z⟩ := R.bx
    by_cases hb : isT (tk (Pu.toks s 0) kr) kType = true
    · have hcf : ∀ args w, (callFunc 90 args).run Tryz.prog w = .ok (.enter 90 args) w := fun _ _ => by kernel_rfl
      obtain ⟨f, rfl⟩ : ∃ f', f = f' + 1 := ⟨f - 1, by omega⟩
      have hE2 := hide ((unhide hE).trans (decls_go (Or.inl hb)))
      have hg : got (kindB (tk (Pu.toks s 0) kr)) (declL rb) = some (mth 90 rb) := by rw [kindB_T hb]; rfl
      have HC : Calls Tryz.prog 90 #[rp rb] wr (RuleX PD N rb sb m s ((declM (Pu.toks s 0) n) kr) wr) := by
        rw [show (declM (Pu.toks s 0) n) kr = _ from if_pos hb]
        exact typeDecl_X hs hT R (by omega)
      rw [hg] at hl
      simp only [tupOf] at hl
      clear hE hg
      go_wp2_with fail
      refine HC.mono ?_
      intro e w1 hp
      cases hA : fin (Pu.toks s 0) ((declM (Pu.toks s 0) n) kr) with
      | error f' =>
        obtain ⟨rfl, hb'⟩ := hp.bad hA
        exact ⟨rfl, RuleX.stop (unhide hE2) hA (fun a => stall_decls _ _ _ _) (K.trans hb')⟩
      | ok rr =>
      obtain ⟨a, k2⟩ := rr
      obtain ⟨v, rfl, hb1, S1, P1⟩ := hp.ok hA
      obtain ⟨tv, xv, rfl⟩ := P1.iface
      have hlt := decl_lts _ _ _ _ _ (fin_ok hA).1
      have HE3 := hide ((unhide hE2).trans (fin_bnd_ok hA))
      have z1 := hb1.size
      have zw := K.size
      have hrw := RW.block
      have RW1 := RW.ke moves_d hb1 hzr
      have hob := RW1.block
      obtain ⟨cs, hown, hPP⟩ := RW1
      have HO := hide hown
      have HPP := hide hPP
      have HP1 := hide P1
      have HS1 := hide S1
      have HK1 := hide (K.trans hb1)
      clear hp hA HC hE2 hown hPP P1 S1 hb1 RW R K c ff z hl hM
      go_wp2_with (at_builtin; go_must (refine wpList_append_own_at _ rfl (.tmp 21) (.tmp 24) 43 rfl w.heap.size 69 i0 _ 1 16 declsUnder hi0 hz0 hz1 hz2 rfl (by decide) (.slice va L.length vc) L.length _ rfl ((unhide HO).alloc _) ⟨w1.heap.size, 0, none⟩ 1 1 [.iface tv (.agg xv)] rfl rfl (cells_at _ _ _ _ (by simp)) (by intro u hu; simp at hu; subst hu; rfl) (by unfold maxLen; omega) (by omega) (by simp; omega) ?_; intro v3 w3 hown3 hg3 hnil3 hloc3; have Hown3 := hide hown3; have Hg3 := hide hg3; have Hloc3 := hide hloc3; clear hown3 hg3 hnil3 hloc3))
      obtain ⟨q3, c3, rfl⟩ := own_some (unhide Hown3) (by omega)
      go_roundg ((Pu.toks s 0).length - k2)
      case measure => rw [unhide hgk]; omega
      case rel =>
        have hlen : (L ++ [a]).length = L.length + 1 := by simp
        have hbw : Below w1.heap.size w1 (w1.alloc (.cells #[.iface tv (.agg xv)] 69)) := (Below.refl _ _).alloc (Nat.le_refl _) _
        refine ⟨k2, L ++ [a], f, some ⟨q3, 0, none⟩, c3, by rw [hlen], ((unhide HS1).bel hbw).grown (unhide Hg3) (fun j e => by have := hob j e; omega), ?_, hide rfl, by omega, by rw [hlen]; omega, ?_, HE3, by omega⟩
        · exact Ke.grown (unhide Hg3) ((unhide HK1).below' hbw) (fun j e => (hob j e).1)
        · exact RowO.push (w1 := w1) (lo := wr.heap.size) (c := fun _ => .iface tv (.agg xv)) moves_d (unhide HPP) (unhide HP1) (by omega) (fun b e => (hrw b e).2) hbw (unhide Hown3) (unhide Hg3) (unhide Hloc3)
    have n0 : isT (tk (Pu.toks s 0) kr) kType = false := by simpa using hb
    clear hb
    by_cases hb : isT (tk (Pu.toks s 0) kr) kLet = true
    · have hcf : ∀ args w, (callFunc 91 args).run Tryz.prog w = .ok (.enter 91 args) w := fun _ _ => by kernel_rfl
      obtain ⟨f, rfl⟩ : ∃ f', f = f' + 1 := ⟨f - 1, by omega⟩
      have hE2 := hide ((unhide hE).trans (decls_go (Or.inr hb)))
      have hg : got (kindB (tk (Pu.toks s 0) kr)) (declL rb) = some (mth 91 rb) := by rw [kindB_T hb]; rfl
      have HC : Calls Tryz.prog 91 #[rp rb] wr (RuleX PD N rb sb m s ((declM (Pu.toks s 0) n) kr) wr) := by
        rw [show (declM (Pu.toks s 0) n) kr = _ from if_neg (by simp [n0])]
        exact letDecl_X hs (expr_X hs hT n) R (by omega)
      rw [hg] at hl
      simp only [tupOf] at hl
      clear hE hg
      go_wp2_with fail
      refine HC.mono ?_
      intro e w1 hp
      cases hA : fin (Pu.toks s 0) ((declM (Pu.toks s 0) n) kr) with
      | error f' =>
        obtain ⟨rfl, hb'⟩ := hp.bad hA
        exact ⟨rfl, RuleX.stop (unhide hE2) hA (fun a => stall_decls _ _ _ _) (K.trans hb')⟩
      | ok rr =>
      obtain ⟨a, k2⟩ := rr
      obtain ⟨v, rfl, hb1, S1, P1⟩ := hp.ok hA
      obtain ⟨tv, xv, rfl⟩ := P1.iface
      have hlt := decl_lts _ _ _ _ _ (fin_ok hA).1
      have HE3 := hide ((unhide hE2).trans (fin_bnd_ok hA))
      have z1 := hb1.size
      have zw := K.size
      have hrw := RW.block
      have RW1 := RW.ke moves_d hb1 hzr
      have hob := RW1.block
      obtain ⟨cs, hown, hPP⟩ := RW1
      have HO := hide hown
      have HPP := hide hPP
      have HP1 := hide P1
      have HS1 := hide S1
      have HK1 := hide (K.trans hb1)
      clear hp hA HC hE2 hown hPP P1 S1 hb1 RW R K c ff z hl hM
      go_wp2_with (at_builtin; go_must (refine wpList_append_own_at _ rfl (.tmp 21) (.tmp 24) 43 rfl w.heap.size 69 i0 _ 1 16 declsUnder hi0 hz0 hz1 hz2 rfl (by decide) (.slice va L.length vc) L.length _ rfl ((unhide HO).alloc _) ⟨w1.heap.size, 0, none⟩ 1 1 [.iface tv (.agg xv)] rfl rfl (cells_at _ _ _ _ (by simp)) (by intro u hu; simp at hu; subst hu; rfl) (by unfold maxLen; omega) (by omega) (by simp; omega) ?_; intro v3 w3 hown3 hg3 hnil3 hloc3; have Hown3 := hide hown3; have Hg3 := hide hg3; have Hloc3 := hide hloc3; clear hown3 hg3 hnil3 hloc3))
      obtain ⟨q3, c3, rfl⟩ := own_some (unhide Hown3) (by omega)
      go_roundg ((Pu.toks s 0).length - k2)
      case measure => rw [unhide hgk]; omega
      case rel =>
        have hlen : (L ++ [a]).length = L.length + 1 := by simp
        have hbw : Below w1.heap.size w1 (w1.alloc (.cells #[.iface tv (.agg xv)] 69)) := (Below.refl _ _).alloc (Nat.le_refl _) _
        refine ⟨k2, L ++ [a], f, some ⟨q3, 0, none⟩, c3, by rw [hlen], ((unhide HS1).bel hbw).grown (unhide Hg3) (fun j e => by have := hob j e; omega), ?_, hide rfl, by omega, by rw [hlen]; omega, ?_, HE3, by omega⟩
        · exact Ke.grown (unhide Hg3) ((unhide HK1).below' hbw) (fun j e => (hob j e).1)
        · exact RowO.push (w1 := w1) (lo := wr.heap.size) (c := fun _ => .iface tv (.agg xv)) moves_d (unhide HPP) (unhide HP1) (by omega) (fun b e => (hrw b e).2) hbw (unhide Hown3) (unhide Hg3) (unhide Hloc3)
    have n1 : isT (tk (Pu.toks s 0) kr) kLet = false := by simpa using hb
    rw [got_decl (rb := rb) ho R.ok n0 n1] at hl
    simp only [tupOf] at hl
    have hE2 := hide ((unhide hE).trans (decls_end n0 n1))
    go_wp2_with fail
    go_ret
    exact RuleX.done (unhide hE2) K R (RW.v moves_d)
def ProgR (w : World) (P : Nat → Prop) (l : List Dc) (v : Value) : Prop := ∃ u, v = .agg #[u] ∧ RowV QD 1 w P l u
set_option maxRecDepth 100000 in
set_option maxHeartbeats 2000000 in
theorem program_X (hs : s.size ≤ 1000) (hT : (Pu.toks s 0).length ≤ 1001) (h : SX w N rb sb m s k) (hn : (Pu.toks s 0).length ≤ k + 1 + n) :
    Calls Tryz.prog 26 #[rp rb] w (RuleX ProgR N rb sb m s (declsF (Pu.toks s 0) (declM (Pu.toks s 0) n) (Pu.toks s 0).length [] k) w) := by
  obtain ⟨b, hma⟩ := h.ma
  have hz := h.z
  have hNw := h.ev.hN
  have b0 : Below w.heap.size w (w.alloc (.cells #[.slice none 0 0] 45)) := (Below.refl _ _).alloc (Nat.le_refl _) _
  have B0 := hide (Bx.new w #[.slice none 0 0] 45)
  have HC := manyDecl_X (n := n) hs hT (h.bel b0) hn hma
  obtain ⟨c, f, z⟩ := (h.bel b0).bx
  clear h
  go_enter Tryz.func26, Tryz.ntmps26
  go_wp2_with fail
  refine HC.mono ?_
  intro e w1 hp
  cases hA : fin (Pu.toks s 0) (declsF (Pu.toks s 0) (declM (Pu.toks s 0) n) (Pu.toks s 0).length [] k) with
  | error f =>
    obtain ⟨rfl, hb⟩ := hp.bad hA
    exact ⟨rfl, RuleX.fail ((Ke.of b0).trans hb) hA⟩
  | ok rr =>
  obtain ⟨l, k1⟩ := rr
  obtain ⟨v, rfl, hb, hS, hR⟩ := hp.ok hA
  have RV : Hid (RowV QD 1 w1 (fun b => w.heap.size + 1 ≤ b) l v) := hide (RowV.move hR moves_d (Nat.le_refl _) (fun _ _ _ => rfl) (fun b p _ => by simpa using p))
  obtain ⟨va, vc, cs, rfl, _, _⟩ := hR
  have B1 := hide ((unhide B0).ke' hb (by omega))
  have K1 := hide ((Ke.of b0).trans hb)
  have S1 := hide hS
  have HE := hide (fin_ok hA).1
  clear hp hb hS HC hA c f z
  obtain ⟨c, f, z⟩ := unhide B1
  go_wp2_with fail
  obtain ⟨cF, fF, zF⟩ := (unhide B1).setS' 0 (.slice va l.length vc) #[.slice va l.length vc] rfl (by simp)
  exact bodyPost_ret (v := .agg #[.slice va l.length vc]) (by simp [results, Tryz.results26, go_sem, cF]) rfl (RuleX.done (unhide HE) ((unhide K1).setNew (b := w.heap.size) (Nat.le_refl _) 0 _) ((unhide S1).set (b := w.heap.size) hNw 0 _) ⟨_, rfl, ((unhide RV).setC moves_d (b := w.heap.size) (fun c p => by have p' : w.heap.size + 1 ≤ c := p; omega) 0 _).move moves_d (Nat.le_refl _) (fun _ _ _ => rfl) (fun b p _ => by have p' : w.heap.size + 1 ≤ b := p; show w.heap.size ≤ b; omega)⟩)
end
end Go.Proofs.YteneoapickhpdaaGreatDoor

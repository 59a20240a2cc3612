import Derived.Test.YtoceemjbcgmojaaGreatDoorVXn
set_option linter.all false
set_option maxRecDepth 100000
set_option maxHeartbeats 2000000
namespace Go.Proofs.YtoceemjbcgmojaaGreatDoor
section
open Go Go.RowKit Go.ChangeMaps
section
variable {w:World} {N rb sb:Nat} {m:MV} {s:BA} {k n:Nat}
theorem group_X {n:Nat} (hs:s.size≤1000) (hT:(Pu.toks s 0).length≤1001) (IH:qex s n) (h:SX w N rb sb m s k) (hn:(Pu.toks s 0).length≤k+1+n) (ho:isT (tk (Pu.toks s 0) k) kOpn=true):
 Calls Tryz.prog 270 #[rp rb] w (RuleX PE N rb sb m s (qaj (Pu.toks s 0) (qar (Pu.toks s 0) n) (typM (Pu.toks s 0) n) 3 k) w):=by
 have hf1:=qeg
 have hf2:=spn175
 have hnot:∀(x:Bool) (w:World),(Op.unary .not (.bool x)).run Tryz.prog w=.ok (.bool (!x)) w:=fun _ _=>rfl
 have HE0:=small_opn (p:=(qar (Pu.toks s 0) n)) (q:=(typM (Pu.toks s 0) n)) (sort:=3) ho
 have hz:=h.z
 have S1:=ai h
 have K2:=ai (Ke.refl rb w)
 have E3:=ai HE0
 clear h HE0
 go_enter Tryz.func270,Tryz.ntmps270
 go_wp2_with fail
 refine (qca (uh S1) hs kOpn (by decide)).mono ?_
 intro e w1 hp
 cases hA:fin (Pu.toks s 0) (qaf (Pu.toks s 0) kOpn k) with
 |error f'=>
  obtain ⟨rfl,hb⟩:=hp.bad hA
  exact ⟨rfl,RuleX.stop (uh E3) hA (fun a=>stall_group (qa1 _) _ _) ((uh K2).trans hb)⟩
 |ok r'=>
 obtain ⟨_u1,k1⟩:=r'
 obtain ⟨v1,rfl,hb,hS,hR⟩:=hp.ok hA
 have S4:=ai hS
 have K5:=ai ((uh K2).trans hb)
 have E6:=ai ((uh E3).trans (qad hA))
 have qw1:=(qan hA).1
 have zw1:=hb.size
 try simp at zw1
 cases hR
 clear hp hb hS hA S1 K2 E3
 have ek1:=qag _ _ _ _ qw1
 subst ek1
 go_wp2_with fail
 by_cases hc:isT (tk (Pu.toks s 0) (k+1)) kClose=true
 ·have EM9:=ai ((uh E6).trans (group_unit (p:=(qar (Pu.toks s 0) n)) (q:=(typM (Pu.toks s 0) n)) (by decide) hc))
  refine (took_Y (uh S4) hs kClose (by decide) hc).mono ?_
  intro e w2 hp
  cases hA:fin (Pu.toks s 0) (passM (k+1)) with
  |error f'=>
   obtain ⟨rfl,hb⟩:=hp.bad hA
   exact ⟨rfl,RuleX.stop (uh EM9) hA (fun a=>qao _) ((uh K5).trans hb)⟩
  |ok r'=>
  obtain ⟨_u2,k2⟩:=r'
  obtain ⟨v2,rfl,hb,hS,hR⟩:=hp.ok hA
  have S7:=ai hS
  have K8:=ai ((uh K5).trans hb)
  have E9:=ai ((uh EM9).trans (qad hA))
  have qw2:=(qan hA).1
  have zw2:=hb.size
  try simp at zw2
  cases hR
  clear hp hb hS hA S4 K5 EM9
  go_wp2_with fail
  refine (qcm (uh S7) _).mono ?_
  rintro e w3 ⟨rfl,hb⟩
  have S10:=ai ((uh S7).bel hb)
  have K11:=ai ((uh K8).below' hb)
  have zw3:=hb.size
  try simp at zw3
  clear hb S7 K8
  go_wp2_with fail
  go_ret
  exact RuleX.done (uh E9) (uh K11) (uh S10) (.unit _ _ _ _ _)
 ·have hc':isT (tk (Pu.toks s 0) (k+1)) kClose=false:=by simpa using hc
  have EM9:=ai ((uh E6).trans (group_part (p:=(qar (Pu.toks s 0) n)) (q:=(typM (Pu.toks s 0) n)) (sort:=3) hc'))
  refine (took_N (uh S4) kClose (by decide) hc').mono ?_
  rintro e w' ⟨rfl,rfl⟩
  go_wp2_with fail
  refine (IH _ _ _ _ _ _ (uh S4) (by omega)).mono ?_
  intro e w2 hp
  cases hA:fin (Pu.toks s 0) (qar (Pu.toks s 0) n (k+1)) with
  |error f'=>
   obtain ⟨rfl,hb⟩:=hp.bad hA
   exact ⟨rfl,RuleX.stop (uh EM9) hA (fun a=>stall_rest' _ _ _ _ a) ((uh K5).trans hb)⟩
  |ok r'=>
  obtain ⟨a,k2⟩:=r'
  obtain ⟨v2,rfl,hb,hS,hR⟩:=hp.ok hA
  have S7:=ai hS
  have K8:=ai ((uh K5).trans hb)
  have E9:=ai ((uh EM9).trans (qad hA))
  have qw2:=(qan hA).1
  have zw2:=hb.size
  try simp at zw2
  have V10:=ai hR
  obtain ⟨tv2,xv2,rfl⟩:=hR.iface
  clear hp hb hS hA S4 K5 EM9 hR
  have lt2:=qc7 n _ _ _ qw2
  go_wp2_with fail
  by_cases hm:isT (tk (Pu.toks s 0) k2) kComma=true
  ·have EM8:=ai ((uh E9).trans (rest_comma' (p:=(qar (Pu.toks s 0) n)) (q:=(typM (Pu.toks s 0) n)) (sort:=3) hm))
   refine (took_Y (uh S7) hs kComma (by decide) hm).mono ?_
   intro e w3 hp
   cases hA:fin (Pu.toks s 0) (passM k2) with
   |error f'=>
    obtain ⟨rfl,hb⟩:=hp.bad hA
    exact ⟨rfl,RuleX.stop (uh EM8) hA (fun a=>qae (qa1 _) fun _=>qae (qap _ _) fun _=>qao _) ((uh K8).trans hb)⟩
   |ok r'=>
   obtain ⟨_u3,k3⟩:=r'
   obtain ⟨v3,rfl,hb,hS,hR⟩:=hp.ok hA
   have S11:=ai hS
   have K12:=ai ((uh K8).trans hb)
   have E13:=ai ((uh EM8).trans (qad hA))
   have qw3:=(qan hA).1
   have zw3:=hb.size
   try simp at zw3
   have V14:=ai ((uh V10).ke hb (fun b p=>by show b≠rb;have p':w1.heap.size≤b:=p;omega))
   clear V10
   cases hR
   clear hp hb hS hA S7 K8 EM8
   have ek3:k3=k2+1:=by unfold passM at qw3;cases qw3;rfl
   subst ek3
   go_wp2_with fail
   refine (IH _ _ _ _ _ _ (uh S11) (by omega)).mono ?_
   intro e w4 hp
   cases hA:fin (Pu.toks s 0) (qar (Pu.toks s 0) n (k2+1)) with
   |error f'=>
    obtain ⟨rfl,hb⟩:=hp.bad hA
    exact ⟨rfl,RuleX.stop (uh E13) hA (fun a=>qae (qap _ _) fun _=>qao _) ((uh K12).trans hb)⟩
   |ok r'=>
   obtain ⟨b,k4⟩:=r'
   obtain ⟨v4,rfl,hb,hS,hR⟩:=hp.ok hA
   have S15:=ai hS
   have K16:=ai ((uh K12).trans hb)
   have E17:=ai ((uh E13).trans (qad hA))
   have qw4:=(qan hA).1
   have zw4:=hb.size
   try simp at zw4
   have V18:=ai ((uh V14).ke hb (fun b p=>by show b≠rb;have p':w1.heap.size≤b:=p;omega))
   clear V14
   have V19:=ai hR
   obtain ⟨tv4,xv4,rfl⟩:=hR.iface
   clear hp hb hS hA S11 K12 E13 hR
   go_wp2_with fail
   refine (qca (uh S15) hs kClose (by decide)).mono ?_
   intro e w5 hp
   cases hA:fin (Pu.toks s 0) (qaf (Pu.toks s 0) kClose k4) with
   |error f'=>
    obtain ⟨rfl,hb⟩:=hp.bad hA
    exact ⟨rfl,RuleX.stop (uh E17) hA (fun a=>qao _) ((uh K16).trans hb)⟩
   |ok r'=>
   obtain ⟨_u5,k5⟩:=r'
   obtain ⟨v5,rfl,hb,hS,hR⟩:=hp.ok hA
   have S20:=ai hS
   have K21:=ai ((uh K16).trans hb)
   have E22:=ai ((uh E17).trans (qad hA))
   have qw5:=(qan hA).1
   have zw5:=hb.size
   try simp at zw5
   have V23:=ai ((uh V18).ke hb (fun b p=>by show b≠rb;have p':w1.heap.size≤b:=p;omega))
   clear V18
   have V24:=ai ((uh V19).ke hb (fun b p=>by show b≠rb;have p':w3.heap.size≤b:=p;omega))
   clear V19
   cases hR
   clear hp hb hS hA S15 K16 E17
   go_wp2_with fail
   refine (qcm (uh S20) _).mono ?_
   rintro e w6 ⟨rfl,hb⟩
   have S25:=ai ((uh S20).bel hb)
   have K26:=ai ((uh K21).below' hb)
   have zw6:=hb.size
   try simp at zw6
   have V27:=ai ((uh V23).bel hb)
   clear V23
   have V28:=ai ((uh V24).bel hb)
   clear V24
   clear hb S20 K21
   go_wp2_with fail
   go_ret
   exact RuleX.done (uh E22) (uh K26) (uh S25) (.pr _ _ _ _ _ _ _ _ _ ((uh V27).wide fun b p=>by have p':w1.heap.size≤b:=p;show w.heap.size≤b;omega) ((uh V28).wide fun b p=>by have p':w3.heap.size≤b:=p;show w.heap.size≤b;omega))
  ·have hm':isT (tk (Pu.toks s 0) k2) kComma=false:=by simpa using hm
   refine (took_N (uh S7) kComma (by decide) hm').mono ?_
   rintro e w' ⟨rfl,rfl⟩
   go_wp2_with fail
   by_cases hl:isT (tk (Pu.toks s 0) k2) qec=true
   ·have EM8:=ai ((uh E9).trans (rest_colon' (p:=(qar (Pu.toks s 0) n)) (q:=(typM (Pu.toks s 0) n)) hm' hl))
    refine (took_Y (uh S7) hs qec (by decide) hl).mono ?_
    intro e w3 hp
    cases hA:fin (Pu.toks s 0) (passM k2) with
    |error f'=>
     obtain ⟨rfl,hb⟩:=hp.bad hA
     exact ⟨rfl,RuleX.stop (uh EM8) hA (fun a=>qae (stall_typ _ _) fun _=>qae (qap _ _) fun _=>qao _) ((uh K8).trans hb)⟩
    |ok r'=>
    obtain ⟨_u3,k3⟩:=r'
    obtain ⟨v3,rfl,hb,hS,hR⟩:=hp.ok hA
    have S11:=ai hS
    have K12:=ai ((uh K8).trans hb)
    have E13:=ai ((uh EM8).trans (qad hA))
    have qw3:=(qan hA).1
    have zw3:=hb.size
    try simp at zw3
    have V14:=ai ((uh V10).ke hb (fun b p=>by show b≠rb;have p':w1.heap.size≤b:=p;omega))
    clear V10
    cases hR
    clear hp hb hS hA S7 K8 EM8
    have ek3:k3=k2+1:=by unfold passM at qw3;cases qw3;rfl
    subst ek3
    go_wp2_with fail
    refine (arrow_X hs hT (n:=n) (uh S11) (by omega)).mono ?_
    intro e w4 hp
    cases hA:fin (Pu.toks s 0) (typM (Pu.toks s 0) n (k2+1)) with
    |error f'=>
     obtain ⟨rfl,hb⟩:=hp.bad hA
     exact ⟨rfl,RuleX.stop (uh E13) hA (fun a=>qae (qap _ _) fun _=>qao _) ((uh K12).trans hb)⟩
    |ok r'=>
    obtain ⟨b,k4⟩:=r'
    obtain ⟨v4,rfl,hb,hS,hR⟩:=hp.ok hA
    have S15:=ai hS
    have K16:=ai ((uh K12).trans hb)
    have E17:=ai ((uh E13).trans (qad hA))
    have qw4:=(qan hA).1
    have zw4:=hb.size
    try simp at zw4
    have V18:=ai ((uh V14).ke hb (fun b p=>by show b≠rb;have p':w1.heap.size≤b:=p;omega))
    clear V14
    have V19:=ai hR
    obtain ⟨tv4,xv4,rfl⟩:=hR.iface
    clear hp hb hS hA S11 K12 E13 hR
    go_wp2_with fail
    refine (qca (uh S15) hs kClose (by decide)).mono ?_
    intro e w5 hp
    cases hA:fin (Pu.toks s 0) (qaf (Pu.toks s 0) kClose k4) with
    |error f'=>
     obtain ⟨rfl,hb⟩:=hp.bad hA
     exact ⟨rfl,RuleX.stop (uh E17) hA (fun a=>qao _) ((uh K16).trans hb)⟩
    |ok r'=>
    obtain ⟨_u5,k5⟩:=r'
    obtain ⟨v5,rfl,hb,hS,hR⟩:=hp.ok hA
    have S20:=ai hS
    have K21:=ai ((uh K16).trans hb)
    have E22:=ai ((uh E17).trans (qad hA))
    have qw5:=(qan hA).1
    have zw5:=hb.size
    try simp at zw5
    have V23:=ai ((uh V18).ke hb (fun b p=>by show b≠rb;have p':w1.heap.size≤b:=p;omega))
    clear V18
    have V24:=ai ((uh V19).ke hb (fun b p=>by show b≠rb;have p':w3.heap.size≤b:=p;omega))
    clear V19
    cases hR
    clear hp hb hS hA S15 K16 E17
    go_wp2_with fail
    refine (qcm (uh S20) _).mono ?_
    rintro e w6 ⟨rfl,hb⟩
    have S25:=ai ((uh S20).bel hb)
    have K26:=ai ((uh K21).below' hb)
    have zw6:=hb.size
    try simp at zw6
    have V27:=ai ((uh V23).bel hb)
    clear V23
    have V28:=ai ((uh V24).bel hb)
    clear V24
    clear hb S20 K21
    go_wp2_with fail
    go_ret
    exact RuleX.done (uh E22) (uh K26) (uh S25) (.of _ _ _ _ _ _ _ _ _ ((uh V27).wide fun b p=>by have p':w1.heap.size≤b:=p;show w.heap.size≤b;omega) ((uh V28).wide fun b p=>by have p':w3.heap.size≤b:=p;show w.heap.size≤b;omega))
   ·have hl':isT (tk (Pu.toks s 0) k2) qec=false:=by simpa using hl
    refine (took_N (uh S7) qec (by decide) hl').mono ?_
    rintro e w' ⟨rfl,rfl⟩
    go_wp2_with fail
    have EM8:=ai ((uh E9).trans (rest_close' (p:=(qar (Pu.toks s 0) n)) (q:=(typM (Pu.toks s 0) n)) (sort:=3) hm' (fun _=>hl')))
    refine (qca (uh S7) hs kClose (by decide)).mono ?_
    intro e w5 hp
    cases hA:fin (Pu.toks s 0) (qaf (Pu.toks s 0) kClose k2) with
    |error f'=>
     obtain ⟨rfl,hb⟩:=hp.bad hA
     exact ⟨rfl,RuleX.stop (uh EM8) hA (fun a=>qao _) ((uh K8).trans hb)⟩
    |ok r'=>
    obtain ⟨_u5,k5⟩:=r'
    obtain ⟨v5,rfl,hb,hS,hR⟩:=hp.ok hA
    have S11:=ai hS
    have K12:=ai ((uh K8).trans hb)
    have E13:=ai ((uh EM8).trans (qad hA))
    have qw5:=(qan hA).1
    have zw5:=hb.size
    try simp at zw5
    have V14:=ai ((uh V10).ke hb (fun b p=>by show b≠rb;have p':w1.heap.size≤b:=p;omega))
    clear V10
    cases hR
    clear hp hb hS hA S7 K8 EM8
    go_wp2_with fail
    go_ret
    exact RuleX.done (uh E13) (uh K12) (uh S11) ((uh V14).wide fun b p=>by have p':w1.heap.size≤b:=p;show w.heap.size≤b;omega)
theorem atom_yes (hs:s.size≤1000) (hT:(Pu.toks s 0).length≤1001) (IH:qex s n) (h:SX w N rb sb m s k) (hn:(Pu.toks s 0).length≤k+1+n) (hb:qah (tk (Pu.toks s 0) k) 3=true) {x:Nat} (hx:Bx w x #[rp rb]):
 (∃f,got (qak (tk (Pu.toks s 0) k)) (atomL rb x)=some (mth f rb)∧(∀args w,(callFunc f args).run Tryz.prog w=.ok (.enter f args) w)∧∀W,Below w.heap.size w W→Calls Tryz.prog f #[rp rb] W (RuleX PE N rb sb m s (qaj (Pu.toks s 0) (qar (Pu.toks s 0) n) (typM (Pu.toks s 0) n) 3 k) W))∨
 (∃f,got (qak (tk (Pu.toks s 0) k)) (atomL rb x)=some (clo f x)∧(∀args w,(callFunc f args).run Tryz.prog w=.ok (.enter f args) w)∧∀W,Below w.heap.size w W→Calls Tryz.prog f #[.pointer (some ⟨x,0,none⟩)] W (RuleX PE N rb sb m s (qaj (Pu.toks s 0) (qar (Pu.toks s 0) n) (typM (Pu.toks s 0) n) 3 k) W)):=by
 have ho:=qc2 s k h.lt
 rcases begins_cases ho (by decide) hb with hk|hk|hk|hk|hk|⟨h9,hk⟩|hk
 ·refine Or.inr ⟨262,by rw [qcy hk];rfl,fun _ _=>by kernel_rfl,?_⟩
  rw [qby hb (kd_open (by omega) _)]
  exact fun W hW=>atomLow_X (h.bel hW) hs hk x (hx.below hW)
 ·refine Or.inl ⟨264,by rw [qcs hk];rfl,fun _ _=>by kernel_rfl,?_⟩
  rw [qby hb (kd_open (by omega) _)]
  exact fun W hW=>upName_X (h.bel hW) hs hk
 ·refine Or.inr ⟨265,by rw [qcz hk];rfl,fun _ _=>by kernel_rfl,?_⟩
  rw [qby hb (kd_open (by omega) _)]
  exact fun W hW=>atomNum_X (h.bel hW) hs hk x (hx.below hW)
 ·refine Or.inr ⟨267,by rw [qcj hk];rfl,fun _ _=>by kernel_rfl,?_⟩
  rw [qby hb (isT_two hk (by simp [ByteArray.toList_eq]))]
  exact fun W hW=>atomWord3_X (h.bel hW) hs (Or.inl hk) x (hx.below hW)
 ·refine Or.inr ⟨269,by rw [qcj hk];rfl,fun _ _=>by kernel_rfl,?_⟩
  rw [qby hb (isT_two hk (by simp [ByteArray.toList_eq]))]
  exact fun W hW=>atomWord4_X (h.bel hW) hs (Or.inr hk) x (hx.below hW)
 ·exact absurd h9 (by decide)
 ·refine Or.inl ⟨270,by rw [qcj hk];rfl,fun _ _=>by kernel_rfl,fun W hW=>group_X hs hT IH (h.bel hW) hn hk⟩
theorem atom_no (h:SX w N rb sb m s k) (hb:qah (tk (Pu.toks s 0) k) 3=false) (x:Nat):got (qak (tk (Pu.toks s 0) k)) (atomL rb x)=none:=by
 have ho:=qc2 s k h.lt
 obtain ⟨n1,n2,n4,nt,nf,na,no⟩:=begins_none (by decide) hb
 rcases ho.kd with h'|h'|h'|h'|h'|h'|h'
 ·exact absurd h' n1
 ·exact absurd h' n2
 ·rw [qct h'];rfl
 ·exact absurd h' n4
 ·rw [qc8 h']
  have hz:=ho.s5 h'
  have big:∀c:BA,5<c.size→c≠(tk (Pu.toks s 0) k).text:=fun c hc e=>by rw [e] at hc;omega
  refine got_no fun p hp=>?_
  simp only [atomL,List.mem_cons,List.not_mem_nil,or_false] at hp
  rcases hp with rfl|rfl|rfl|rfl|rfl|rfl
  ·exact big kLow (by decide)
  ·exact big kUp (by decide)
  ·exact big kNum (by decide)
  ·exact qdk h' nt
  ·exact qdk h' nf
  ·exact qdk h' no
 ·exact absurd h' h.ok
 ·rw [qc0 h'];rfl
theorem zeroFnE (w:World):(zeroValue 465).run Tryz.prog w=.ok .nilFunc w:=by kernel_rfl
theorem oneExpr_X (hs:s.size≤1000) (hT:(Pu.toks s 0).length≤1001) (IH:qex s n) (h:SX w N rb sb m s k) (hn:(Pu.toks s 0).length≤k+1+n) {b x:Nat} (hM:MS Value.string w b (atomL rb x)) (hx:Bx w x #[rp rb]):
 Calls Tryz.prog 347 #[rp rb,.map (some b)] w (RuleX PE N rb sb m s (qaj (Pu.toks s 0) (qar (Pu.toks s 0) n) (typM (Pu.toks s 0) n) 3 k) w):=by
 have hl:=qcv hM Tryz.underlying240 (zeroFnE w) (qak (tk (Pu.toks s 0) k))
 have hnot:∀(x:Bool) (w:World),(Op.unary .not (.bool x)).run Tryz.prog w=.ok (.bool (!x)) w:=fun _ _=>rfl
 obtain ⟨c,f,z⟩:=h.bx
 by_cases hb:qah (tk (Pu.toks s 0) k) 3=true
 ·rcases atom_yes hs hT IH h hn hb hx with ⟨F,hg,hcf,HC⟩|⟨F,hg,hcf,HC⟩
  all_goals rw [hg] at hl
  all_goals clear hg hM hx h IH
  ·simp only [qcu] at hl
   go_enter Tryz.func347,Tryz.ntmps347
   go_wp2_with fail
   refine (HC _ (Below.refl _ _)).mono ?_
   intro e w1 hp
   cases hA:fin (Pu.toks s 0) (qaj (Pu.toks s 0) (qar (Pu.toks s 0) n) (typM (Pu.toks s 0) n) 3 k) with
   |error f'=>
    obtain ⟨rfl,hb'⟩:=hp.bad hA
    exact ⟨rfl,hp⟩
   |ok r=>
   obtain ⟨a,k2⟩:=r
   obtain ⟨v,rfl,_,_,hR⟩:=hp.ok hA
   obtain ⟨tv,xv,rfl⟩:=hR.iface
   go_wp2_with fail
   go_ret
   exact hp
  ·simp only [qcu] at hl
   go_enter Tryz.func347,Tryz.ntmps347
   go_wp2_with fail
   refine (HC _ (Below.refl _ _)).mono ?_
   intro e w1 hp
   cases hA:fin (Pu.toks s 0) (qaj (Pu.toks s 0) (qar (Pu.toks s 0) n) (typM (Pu.toks s 0) n) 3 k) with
   |error f'=>
    obtain ⟨rfl,hb'⟩:=hp.bad hA
    exact ⟨rfl,hp⟩
   |ok r=>
   obtain ⟨a,k2⟩:=r
   obtain ⟨v,rfl,_,_,hR⟩:=hp.ok hA
   obtain ⟨tv,xv,rfl⟩:=hR.iface
   go_wp2_with fail
   go_ret
   exact hp
 ·have hb':qah (tk (Pu.toks s 0) k) 3=false:=by simpa using hb
  rw [atom_no h hb' x] at hl
  simp only [qcu] at hl
  have h6:=h.ok
  go_enter Tryz.func347,Tryz.ntmps347
  go_wp2_with (go_at_call 190;refine (qe2 h.rd).mono ?_;rintro e w1 ⟨rfl,hb⟩)
  refine ⟨rfl,Ke.of hb,?_⟩
  rw [show qaj (Pu.toks s 0) (qar (Pu.toks s 0) n) (typM (Pu.toks s 0) n) 3 k=.error (flOf (tk (Pu.toks s 0) k)) by unfold qaj;rw [hb'];rfl,flOf,if_neg h6]
  rfl
theorem SX.atom (h:SX w N rb sb m s k) {b:Nat} (hb:m.c=.map (some b)):∃x,Bx w x #[rp rb]∧MS Value.string w b (atomL rb x):=by
 obtain ⟨x,hx,b',e,_,_,hM⟩:=h.ev.mp.at_
 rw [hb] at e
 cases e
 exact ⟨x,hx.2.2,hM⟩
theorem SX.mc (h:SX w N rb sb m s k):∃b,m.c=.map (some b):=by
 obtain ⟨x,_,b,e,_⟩:=h.ev.mp.at_
 exact ⟨b,e⟩
end
end
section
open Go Go.RowKit Go.ChangeMaps
abbrev smE (s:BA) (n:Nat):M Nd:=qaj (Pu.toks s 0) (qar (Pu.toks s 0) n) (typM (Pu.toks s 0) n) 3
def LeftRel (N rb sb:Nat) (m:MV) (s:BA) (k:Nat) (w:World) (r:Except Fl (Nd×Nat)) (g:Nat→Nd→M Nd) (gk:Nat) (v:Value) (wr:World):Prop:=
 ∃(kr:Nat) (nd:Nd) (f:Nat),SX wr N rb sb m s kr∧Ke rb w wr∧Hid (gk=(Pu.toks s 0).length-kr)∧k<kr∧PE wr (fun b=>w.heap.size≤b) nd v∧Hid (r=g f nd kr)∧(Pu.toks s 0).length≤kr+f
theorem qam (w:World) (q:Nat) {n:Nat}:Below n w (w.drewN q):=⟨rfl,rfl,rfl,br _,fun _ _=>rfl⟩
theorem callF_go {T:List Pu.Tok} {sm:M Nd} {fr f:Nat} {x:Nd} {k:Nat} (h:qah (tk T k) 3=true):qdh T sm fr (f+1) x k=bnd sm (fun y k'=>qdh T sm fr f (.mk 8 kNo 0 [x,y] fr (qal T k') fr) k') k:=by
 show (if qah (tk T k) 3=true then _ else _)=_
 rw [if_pos h]
theorem callF_end {T:List Pu.Tok} {sm:M Nd} {fr f:Nat} {x:Nd} {k:Nat} (h:qah (tk T k) 3=false):qdh T sm fr f x k=.ok (x,k):=by
 cases f with
 |zero=>rfl
 |succ f=>unfold qdh;rw [h];rfl
section
variable {w:World} {N rb sb:Nat} {m:MV} {s:BA} {k n:Nat}
theorem call_X (hs:s.size≤1000) (hT:(Pu.toks s 0).length≤1001) (IH:qex s n) (h:SX w N rb sb m s k) (hn:(Pu.toks s 0).length≤k+1+n):
 Calls Tryz.prog 284 #[rp rb] w (RuleX PE N rb sb m s (qbc (Pu.toks s 0) (smE s n) k) w):=by
 have hnot:∀(x:Bool) (w:World),(Op.unary .not (.bool x)).run Tryz.prog w=.ok (.bool (!x)) w:=fun _ _=>rfl
 obtain ⟨b,hmc⟩:=h.mc
 obtain ⟨x,hx,hM⟩:=h.atom hmc
 have hzr:=h.z
 have HC:=oneExpr_X hs hT IH h hn hM hx
 have hk:=h.lt
 obtain ⟨r,hr⟩:∃r,r=qbc (Pu.toks s 0) (smE s n) k:=⟨_,rfl⟩
 rw [←hr]
 have HE:Hid (r=bnd (smE s n) (qdh (Pu.toks s 0) (smE s n) (tk (Pu.toks s 0) k).frm (Pu.toks s 0).length) k):=hr
 obtain ⟨c,ff,z⟩:=h.bx
 clear hx hM hr
 go_enter Tryz.func284,Tryz.ntmps284
 go_wp2_with fail
 refine HC.mono ?_
 intro e w1 hp
 cases hA:fin (Pu.toks s 0) (smE s n k) with
 |error f'=>
  obtain ⟨rfl,hb'⟩:=hp.bad hA
  exact ⟨rfl,RuleX.stop (uh HE) hA (fun a q h=>qe5 _ _ _ _ q h) hb'⟩
 |ok rr=>
 obtain ⟨a,k1⟩:=rr
 obtain ⟨v0,rfl,hb1,S1,P1⟩:=hp.ok hA
 obtain ⟨t0,x0,rfl⟩:=P1.iface
 have hlt0:=qaw (qc7 (T:=(Pu.toks s 0)) n) (qa2 n) 3 _ _ _ (qan hA).1
 have HE1:=ai ((uh HE).trans (qad hA))
 have HS1:=ai S1
 have HP1:=ai P1
 have HK1:=ai hb1
 have Hmc:=ai hmc
 clear hp hA HC HE S1 P1 hb1 c ff z h
 go_wp2_with fail
 go_loopg [4] ((Pu.toks s 0).length-k1) (fun gk v wr=>LeftRel N rb sb m s k w r (fun f nd=>qdh (Pu.toks s 0) (smE s n) (tk (Pu.toks s 0) k).frm f nd) gk v wr)
 case atStart=>exact ⟨k1,a,(Pu.toks s 0).length,uh HS1,uh HK1,ai rfl,hlt0,uh HP1,HE1,by omega⟩
 case round=>
  clear HS1 HP1 HK1 HE1
  obtain ⟨kr,nd,f,R,K,hgk,hle,PV,hE,hfu⟩:=hrel
  obtain ⟨x,hx,hM⟩:=R.atom hmc
  have hl:=fun q=>qcv (hM.same (w':=wr.drewN q) rfl) Tryz.underlying240 (zeroFnE _) (qak (tk (Pu.toks s 0) kr))
  have hl0:=qcv hM Tryz.underlying240 (zeroFnE _) (qak (tk (Pu.toks s 0) kr))
  have hkr:=R.lt
  obtain ⟨tv,xv,rfl⟩:=PV.iface
  obtain ⟨c,ff,z⟩:=R.bx
  by_cases hb:qah (tk (Pu.toks s 0) kr) 3=true
  ·obtain ⟨f,rfl⟩:∃f',f=f'+1:=⟨f-1,by omega⟩
   have hE2:=ai ((uh hE).trans (callF_go hb))
   clear hE
   rcases atom_yes hs hT IH R (by omega) hb hx with ⟨F,hg,hcf,HC⟩|⟨F,hg,hcf,HC⟩
   all_goals rw [hg] at hl0
   all_goals simp only [hg] at hl
   all_goals clear hg
   ·simp only [qcu] at hl hl0
    go_wp2_with fail
    go_quiet (fail)
    go_wp2_with fail
    refine (HC _ (qam _ nq)).mono ?_
    intro e w1 hp
    cases hA:fin (Pu.toks s 0) (smE s n kr) with
    |error f'=>
     obtain ⟨rfl,hb'⟩:=hp.bad hA
     exact ⟨rfl,RuleX.stop (uh hE2) hA (fun a q h=>qe5 _ _ _ _ q h) ((K.below' (qam _ nq)).trans hb')⟩
    |ok rr=>
    obtain ⟨a,k2⟩:=rr
    obtain ⟨v1,rfl,hb1,S1,P1⟩:=hp.ok hA
    obtain ⟨t1,x1,rfl⟩:=P1.iface
    have hlt:=qaw (qc7 (T:=(Pu.toks s 0)) n) (qa2 n) 3 _ _ _ (qan hA).1
    have HE3:=ai ((uh hE2).trans (qad hA))
    have z1:=hb1.size
    have zw:=K.size
    have P0:=ai ((PV.bel (qam _ nq)).ke hb1 (fun b p=>by show b≠rb;have p':w.heap.size≤b:=p;omega))
    have HP1:=ai P1
    have HS1:=ai S1
    have HK1:=ai ((K.below' (qam _ nq)).trans hb1)
    clear hp hA HC hE2 hcf P1 S1 hb1 R K c ff z hl hl0 hM hx PV
    go_wp2_with fail
    refine (qcm (uh HS1) _).mono ?_
    rintro e w2 ⟨rfl,hb2⟩
    have P0:=ai ((uh P0).bel hb2)
    have HP1:=ai ((uh HP1).bel hb2)
    have HS1:=ai ((uh HS1).bel hb2)
    have HK1:=ai ((uh HK1).below' hb2)
    clear hb2
    go_wp2_with fail
    go_roundg ((Pu.toks s 0).length-k2)
    case measure=>rw [uh hgk];omega
    case rel=>exact ⟨k2,_,f,uh HS1,uh HK1,ai rfl,by omega,.call _ _ _ _ _ _ _ _ _ (uh P0) ((uh HP1).wide fun b p=>by have p':wr.heap.size≤b:=p;show w.heap.size≤b;omega),HE3,by omega⟩
   ·simp only [qcu] at hl hl0
    go_wp2_with fail
    go_quiet (fail)
    go_wp2_with fail
    refine (HC _ (qam _ nq)).mono ?_
    intro e w1 hp
    cases hA:fin (Pu.toks s 0) (smE s n kr) with
    |error f'=>
     obtain ⟨rfl,hb'⟩:=hp.bad hA
     exact ⟨rfl,RuleX.stop (uh hE2) hA (fun a q h=>qe5 _ _ _ _ q h) ((K.below' (qam _ nq)).trans hb')⟩
    |ok rr=>
    obtain ⟨a,k2⟩:=rr
    obtain ⟨v1,rfl,hb1,S1,P1⟩:=hp.ok hA
    obtain ⟨t1,x1,rfl⟩:=P1.iface
    have hlt:=qaw (qc7 (T:=(Pu.toks s 0)) n) (qa2 n) 3 _ _ _ (qan hA).1
    have HE3:=ai ((uh hE2).trans (qad hA))
    have z1:=hb1.size
    have zw:=K.size
    have P0:=ai ((PV.bel (qam _ nq)).ke hb1 (fun b p=>by show b≠rb;have p':w.heap.size≤b:=p;omega))
    have HP1:=ai P1
    have HS1:=ai S1
    have HK1:=ai ((K.below' (qam _ nq)).trans hb1)
    clear hp hA HC hE2 hcf P1 S1 hb1 R K c ff z hl hl0 hM hx PV
    go_wp2_with fail
    refine (qcm (uh HS1) _).mono ?_
    rintro e w2 ⟨rfl,hb2⟩
    have P0:=ai ((uh P0).bel hb2)
    have HP1:=ai ((uh HP1).bel hb2)
    have HS1:=ai ((uh HS1).bel hb2)
    have HK1:=ai ((uh HK1).below' hb2)
    clear hb2
    go_wp2_with fail
    go_roundg ((Pu.toks s 0).length-k2)
    case measure=>rw [uh hgk];omega
    case rel=>exact ⟨k2,_,f,uh HS1,uh HK1,ai rfl,by omega,.call _ _ _ _ _ _ _ _ _ (uh P0) ((uh HP1).wide fun b p=>by have p':wr.heap.size≤b:=p;show w.heap.size≤b;omega),HE3,by omega⟩
  ·have hb':qah (tk (Pu.toks s 0) kr) 3=false:=by simpa using hb
   have hg:=atom_no R hb' x
   rw [hg] at hl0
   simp only [hg,qcu] at hl hl0
   have hE2:=ai ((uh hE).trans (callF_end hb'))
   go_wp2_with fail
   go_quiet (fail)
   go_wp2_with fail
   go_ret
   exact RuleX.done (uh hE2) (K.below' (qam _ nq)) (R.bel (qam _ nq)) (PV.bel (qam _ nq))
end
end
section
open Go Go.RowKit Go.ChangeMaps
def opM (T:List Pu.Tok) (sub:M Nd) (op:BA) (fr:Nat) (x:Nd):M Nd:=fun k=>bnd sub (fun y k'=>.ok (.mk 7 op 0 [x,y] fr (qal T k') fr,k')) (k+1)
theorem opM_eq {T:List Pu.Tok} {sub:M Nd} {op:BA} {fr:Nat} {x:Nd} {k:Nat}:opM T sub op fr x k=bnd passM (fun _=>bnd sub (fun y k'=>.ok (.mk 7 op 0 [x,y] fr (qal T k') fr,k'))) k:=rfl
theorem stall_sub {T:List Pu.Tok} {sub:M Nd} (h:qbl T sub) (op:BA) (fr:Nat) (x:Nd):qbl T (bnd sub (fun y k'=>.ok (Nd.mk 7 op 0 [x,y] fr (qal T k') fr,k'))):=qae h fun _=>qao _
theorem prodF_go {T:List Pu.Tok} {sub:M Nd} {fr f:Nat} {x:Nd} {k:Nat} (h:isT (tk T k) qbu=true):qdn T sub fr (f+1) x k=bnd (opM T sub qbu fr x) (qdn T sub fr f) k:=by
 show (if isT (tk T k) qbu=true then _ else _)=_
 rw [if_pos h]
 unfold opM bnd
 dsimp only
 cases sub (k+1)<;>rfl
theorem prodF_end {T:List Pu.Tok} {sub:M Nd} {fr f:Nat} {x:Nd} {k:Nat} (h:isT (tk T k) qbu=false):qdn T sub fr f x k=.ok (x,k):=by
 cases f with
 |zero=>rfl
 |succ f=>unfold qdn;rw [h];rfl
theorem sumF_go {T:List Pu.Tok} {sub:M Nd} {fr f:Nat} {x:Nd} {k:Nat} (h:isT (tk T k) qcx=true∨isT (tk T k) qb1=true):sumF T sub fr (f+1) x k=bnd (opM T sub (tk T k).text fr x) (sumF T sub fr f) k:=by
 show (if isT (tk T k) qcx=true∨isT (tk T k) qb1=true then _ else _)=_
 rw [if_pos h]
 unfold opM bnd
 dsimp only
 cases sub (k+1)<;>rfl
theorem sumF_end {T:List Pu.Tok} {sub:M Nd} {fr f:Nat} {x:Nd} {k:Nat} (h:isT (tk T k) qcx=false) (h':isT (tk T k) qb1=false):sumF T sub fr f x k=.ok (x,k):=by
 cases f with
 |zero=>rfl
 |succ f=>unfold sumF;rw [h,h'];rfl
theorem text_of {t:Pu.Tok} {c:BA} (h:isT t c=true):t.text=c:=by
 unfold isT at h
 simp only [Bool.and_eq_true,beq_iff_eq] at h
 exact tlInj h.2
def PEo (P:Nat→Prop) (w:World) (Q:Nat→Prop) (a:Nd) (v:Value):Prop:=PE w (fun b=>P b∨Q b) a v
theorem tok182 (a b c d:Value) (w:World):(Instr.field 236 (.agg #[a,b,c,d]) 2).run Tryz.prog w=.ok d w:=by kernel_rfl
section
variable {w:World} {N rb sb:Nat} {m:MV} {s:BA} {k n:Nat}
def SubC (s:BA) (n F:Nat) (sub:M Nd):Prop:=∀(w:World) (N rb sb:Nat) (m:MV) (k:Nat),SX w N rb sb m s k→(Pu.toks s 0).length≤k+1+n→Calls Tryz.prog F #[rp rb] w (RuleX PE N rb sb m s (sub k) w)
theorem op_X {F:Nat} {sub:M Nd} (hs:s.size≤1000) (HF:SubC s n F sub) (hcf:∀args w,(callFunc F args).run Tryz.prog w=.ok (.enter F args) w) (hst:qbl (Pu.toks s 0) sub) (h:SX w N rb sb m s k) (hn:(Pu.toks s 0).length≤k+1+n) (hop:(tk (Pu.toks s 0) k).text=qcx∨(tk (Pu.toks s 0) k).text=qb1∨(tk (Pu.toks s 0) k).text=qbu∨(tk (Pu.toks s 0) k).text=qb6) (h7:(tk (Pu.toks s 0) k).kind≠7) (fr:Nat)
 {x y:Nat} (hx:Bx w x #[rp rb]) (hy:Bx w y #[mth F rb]) (nx:x≠rb) (ny:y≠rb) {P:Nat→Prop} (hP:∀b,P b→b≠rb) {nd:Nd} {v:Value} (hv:PE w P nd v):
 Calls Tryz.prog 345 #[.int .i64 (fr:Int),v,.pointer (some ⟨x,0,none⟩),.pointer (some ⟨y,0,none⟩)] w (RuleX (PEo P) N rb sb m s (opM (Pu.toks s 0) sub (tk (Pu.toks s 0) k).text fr nd k) w):=by
 have hf2:=tok182
 have hzr:=h.z
 obtain ⟨tv,xv,rfl⟩:=hv.iface
 have HC:=next_X h hs h7
 have BX:=ai hx
 have BY:=ai hy
 have PV:=ai hv
 obtain ⟨c0,f0,z0⟩:=hx
 obtain ⟨c1,f1,z1⟩:=hy
 clear h hv
 go_enter Tryz.func345,Tryz.ntmps345
 go_wp2_with fail
 refine HC.mono ?_
 intro e w1 hp
 by_cases h6:(tk (Pu.toks s 0) (k+1)).kind=6
 ·obtain ⟨rfl,hb⟩:=hp.bad (qaz _ h6)
  exact ⟨rfl,RuleX.stop opM_eq (qaz _ h6) (fun _=>stall_sub hst _ _ _) hb⟩
 obtain ⟨v1,rfl,K1,S1,hR⟩:=hp.ok (fin_ok' _ h6)
 cases hR
 have BX:=ai ((uh BX).ke' K1 nx)
 have BY:=ai ((uh BY).ke' K1 ny)
 have PV:=ai ((uh PV).ke K1 hP)
 have HK:=ai K1
 have z2:=K1.size
 have HC:=HF _ _ _ _ _ _ S1 (by omega)
 clear c0 f0 z0 c1 f1 z1 hp K1 S1
 obtain ⟨c0,f0,z0⟩:=uh BX
 obtain ⟨c1,f1,z1⟩:=uh BY
 go_wp2_with fail
 refine HC.mono ?_
 intro e w2 hp
 cases hA:fin (Pu.toks s 0) (sub (k+1)) with
 |error f'=>
  obtain ⟨rfl,hb⟩:=hp.bad hA
  exact ⟨rfl,RuleX.fail ((uh HK).trans hb) (by show fin _ (bnd sub _ (k+1))=_;rw [qax hA (fun _=>qao _)])⟩
 |ok rr=>
 obtain ⟨a,k2⟩:=rr
 obtain ⟨v2,rfl,K2,S2,P2⟩:=hp.ok hA
 obtain ⟨t2,x2,rfl⟩:=P2.iface
 have HE:Hid (opM (Pu.toks s 0) sub (tk (Pu.toks s 0) k).text fr nd k=.ok (.mk 7 (tk (Pu.toks s 0) k).text 0 [nd,a] fr (qal (Pu.toks s 0) k2) fr,k2)):=ai (qad (m:=sub) (k:=k+1) hA)
 have BX:=ai ((uh BX).ke' K2 nx)
 have PV:=ai ((uh PV).ke K2 hP)
 have P2:=ai P2
 have HK:=ai ((uh HK).trans K2)
 have HS:=ai S2
 clear c0 f0 z0 c1 f1 z1 hp K2 S2 BY hA
 obtain ⟨c0,f0,z0⟩:=uh BX
 go_wp2_with fail
 refine (qcm (uh HS) _).mono ?_
 rintro e w3 ⟨rfl,hb⟩
 have PV:=ai ((uh PV).bel hb)
 have P2:=ai ((uh P2).bel hb)
 have HK:=ai ((uh HK).below' hb)
 have HS:=ai ((uh HS).bel hb)
 clear hb c0 f0 z0
 go_wp2_with fail
 go_ret
 exact RuleX.done (uh HE) (uh HK) (uh HS) (.op _ _ _ _ _ _ _ _ _ hop ((uh PV).wide fun b p=>Or.inl p) ((uh P2).wide fun b p=>Or.inr (Nat.le_trans z2 p)))
theorem zeroOp (w:World):(zeroValue 472).run Tryz.prog w=.ok .nilFunc w:=by kernel_rfl
theorem SX.h_ (h:SX w N rb sb m s k) {b:Nat} (hb:m.h=.map (some b)):∃x0 y0,BoxAt w N rb x0 #[rp rb]∧BoxAt w N rb y0 #[mth 284 rb]∧MS Value.string w b [(qbu,opR x0 y0)]:=by
 obtain ⟨x0,y0,h0,g0,b',e,_,_,hM⟩:=h.ev.mp.pr
 rw [hb] at e
 cases e
 exact ⟨x0,y0,h0,g0,hM⟩
theorem SX.hm (h:SX w N rb sb m s k):∃b,m.h=.map (some b):=by
 obtain ⟨x0,y0,h0,g0,b',e,_,_,hM⟩:=h.ev.mp.pr
 exact ⟨b',e⟩
theorem got_leftProd {t:Pu.Tok} (ho:qdq t) (h6:t.kind≠6) (n0:isT t qbu=false) (x0 y0:Nat):got (qak t) [(qbu,opR x0 y0)]=none:=by
 rcases ho.kd with h'|h'|h'|h'|h'|h'|h'
 ·rw [qcy h'];rfl
 ·rw [qcs h'];rfl
 ·rw [qct h'];rfl
 ·rw [qcz h'];rfl
 ·rw [qc8 h']
  refine got_no fun p hp=>?_
  simp only [List.mem_cons,List.not_mem_nil,or_false] at hp
  rcases hp with rfl
  ·exact qdk h' n0
 ·exact absurd h' h6
 ·rw [qc0 h'];rfl
theorem leftProd_X {n:Nat} (hs:s.size≤1000) (hT:(Pu.toks s 0).length≤1001) (HF:SubC s n 284 (qbc (Pu.toks s 0) (smE s n))) (hst:qbl (Pu.toks s 0) (qbc (Pu.toks s 0) (smE s n))) (hlts:Lts (qbc (Pu.toks s 0) (smE s n))) (h:SX w N rb sb m s k) (hn:(Pu.toks s 0).length≤k+1+n) {b:Nat} (hmb:m.h=.map (some b)):
 Calls Tryz.prog 346 #[rp rb,mth 284 rb,.map (some b)] w (RuleX PE N rb sb m s (qbv (Pu.toks s 0) (qbc (Pu.toks s 0) (smE s n)) k) w):=by
 have hnot:∀(x:Bool) (w:World),(Op.unary .not (.bool x)).run Tryz.prog w=.ok (.bool (!x)) w:=fun _ _=>rfl
 have hcF:∀args w,(callFunc 284 args).run Tryz.prog w=.ok (.enter 284 args) w:=fun _ _=>by kernel_rfl
 have hcO:∀args w,(callFunc 345 args).run Tryz.prog w=.ok (.enter 345 args) w:=fun _ _=>by kernel_rfl
 have hzr:=h.z
 have HC:=HF _ _ _ _ _ _ h hn
 obtain ⟨r,hr⟩:∃r,r=qbv (Pu.toks s 0) (qbc (Pu.toks s 0) (smE s n)) k:=⟨_,rfl⟩
 rw [←hr]
 have HE:Hid (r=bnd (qbc (Pu.toks s 0) (smE s n)) (qdn (Pu.toks s 0) (qbc (Pu.toks s 0) (smE s n)) (tk (Pu.toks s 0) k).frm (Pu.toks s 0).length) k):=hr
 obtain ⟨c,ff,z⟩:=h.bx
 clear hr
 go_enter Tryz.func346,Tryz.ntmps346
 go_wp2_with fail
 refine HC.mono ?_
 intro e w1 hp
 cases hA:fin (Pu.toks s 0) ((qbc (Pu.toks s 0) (smE s n)) k) with
 |error f'=>
  obtain ⟨rfl,hb'⟩:=hp.bad hA
  exact ⟨rfl,RuleX.stop (uh HE) hA (fun a q h=>stall_prodF _ _ _ _ q h) hb'⟩
 |ok rr=>
 obtain ⟨a,k1⟩:=rr
 obtain ⟨v0,rfl,hb1,S1,P1⟩:=hp.ok hA
 obtain ⟨t0,x0,rfl⟩:=P1.iface
 have hlt0:=hlts _ _ _ (qan hA).1
 have HE1:=ai ((uh HE).trans (qad hA))
 have HS1:=ai S1
 have HP1:=ai P1
 have HK1:=ai hb1
 clear hp hA HC HE S1 P1 hb1 c ff z h
 go_wp2_with fail
 go_loopg [8] ((Pu.toks s 0).length-k1) (fun gk v wr=>LeftRel N rb sb m s k w r (fun f nd=>qdn (Pu.toks s 0) (qbc (Pu.toks s 0) (smE s n)) (tk (Pu.toks s 0) k).frm f nd) gk v wr)
 case atStart=>exact ⟨k1,a,(Pu.toks s 0).length,uh HS1,uh HK1,ai rfl,hlt0,uh HP1,HE1,by omega⟩
 case round=>
  clear HS1 HP1 HK1 HE1
  obtain ⟨kr,nd,f,R,K,hgk,hle,PV,hE,hfu⟩:=hrel
  obtain ⟨x0,y0,bx0,by0,hM⟩:=R.h_ hmb
  have hl:=qcv hM Tryz.underlying243 (zeroOp _) (qak (tk (Pu.toks s 0) kr))
  have hkr:=R.lt
  have ho:=qc2 s kr hkr
  obtain ⟨tv,xv,rfl⟩:=PV.iface
  obtain ⟨c,ff,z⟩:=R.bx
  by_cases hb:isT (tk (Pu.toks s 0) kr) qbu=true
  ·obtain ⟨f,rfl⟩:∃f',f=f'+1:=⟨f-1,by omega⟩
   have hE2:=ai ((uh hE).trans (prodF_go hb))
   clear hE
   have hg:got (qak (tk (Pu.toks s 0) kr)) [(qbu,opR x0 y0)]=some (opR x0 y0):=by rw [qcj hb];rfl
   rw [hg] at hl
   simp only [qcu] at hl
   have HC:=op_X hs HF hcF hst R (by omega) (by rw [text_of hb];simp) (isT_7 hb) (tk (Pu.toks s 0) k).frm bx0.2.2 by0.2.2 bx0.2.1 by0.2.1 (P:=fun b=>w.heap.size≤b) (fun b p=>by have p':w.heap.size≤b:=p;omega) PV
   rw [text_of hb] at HC
   go_wp2_with fail
   refine HC.mono ?_
   intro e w1 hp
   cases hA:fin (Pu.toks s 0) (opM (Pu.toks s 0) (qbc (Pu.toks s 0) (smE s n)) qbu (tk (Pu.toks s 0) k).frm nd kr) with
   |error f'=>
    obtain ⟨rfl,hb'⟩:=hp.bad hA
    exact ⟨rfl,RuleX.stop (uh hE2) hA (fun a q h=>stall_prodF _ _ _ _ q h) (K.trans hb')⟩
   |ok rr=>
   obtain ⟨a,k2⟩:=rr
   obtain ⟨v1,rfl,hb1,S1,P1⟩:=hp.ok hA
   obtain ⟨t1,x1,rfl⟩:=PE.iface P1
   have hlt:kr<k2:=by
    obtain ⟨_,j,h1,h2⟩:=qac (m:=(qbc (Pu.toks s 0) (smE s n))) (k:=kr+1) (qan hA).1
    cases h2
    have:=hlts _ _ _ h1
    omega
   have HE3:=ai ((uh hE2).trans (qad hA))
   have HP1:=ai P1
   have HS1:=ai S1
   have zw:=K.size
   have HK1:=ai (K.trans hb1)
   clear hp hA HC hE2 P1 S1 hb1 R K c ff z hl hM PV hg
   go_wp2_with fail
   go_roundg ((Pu.toks s 0).length-k2)
   case measure=>rw [uh hgk];omega
   case rel=>exact ⟨k2,_,f,uh HS1,uh HK1,ai rfl,by omega,PE.wide (uh HP1) fun b p=>p.elim id fun p=>(by have p':wr.heap.size≤b:=p;show w.heap.size≤b;omega),HE3,by omega⟩
  have n0:isT (tk (Pu.toks s 0) kr) qbu=false:=by simpa using hb
  clear hb
  rw [got_leftProd ho R.ok n0 x0 y0] at hl
  simp only [qcu] at hl
  have hE2:=ai ((uh hE).trans (prodF_end n0))
  go_wp2_with fail
  go_ret
  exact RuleX.done (uh hE2) K R PV
theorem SX.g_ (h:SX w N rb sb m s k) {b:Nat} (hb:m.g=.map (some b)):∃x0 y0 x1 y1,BoxAt w N rb x0 #[rp rb]∧BoxAt w N rb y0 #[mth 283 rb]∧BoxAt w N rb x1 #[rp rb]∧BoxAt w N rb y1 #[mth 283 rb]∧MS Value.string w b [(qcx,opR x0 y0),(qb1,opR x1 y1)]:=by
 obtain ⟨x0,y0,x1,y1,h0,g0,h1,g1,b',e,_,_,hM⟩:=h.ev.mp.sm
 rw [hb] at e
 cases e
 exact ⟨x0,y0,x1,y1,h0,g0,h1,g1,hM⟩
theorem SX.gm (h:SX w N rb sb m s k):∃b,m.g=.map (some b):=by
 obtain ⟨x0,y0,x1,y1,h0,g0,h1,g1,b',e,_,_,hM⟩:=h.ev.mp.sm
 exact ⟨b',e⟩
theorem got_leftSum {t:Pu.Tok} (ho:qdq t) (h6:t.kind≠6) (n0:isT t qcx=false) (n1:isT t qb1=false) (x0 y0 x1 y1:Nat):got (qak t) [(qcx,opR x0 y0),(qb1,opR x1 y1)]=none:=by
 rcases ho.kd with h'|h'|h'|h'|h'|h'|h'
 ·rw [qcy h'];rfl
 ·rw [qcs h'];rfl
 ·rw [qct h'];rfl
 ·rw [qcz h'];rfl
 ·rw [qc8 h']
  refine got_no fun p hp=>?_
  simp only [List.mem_cons,List.not_mem_nil,or_false] at hp
  rcases hp with rfl|rfl
  ·exact qdk h' n0
  ·exact qdk h' n1
 ·exact absurd h' h6
 ·rw [qc0 h'];rfl
theorem leftSum_X {n:Nat} (hs:s.size≤1000) (hT:(Pu.toks s 0).length≤1001) (HF:SubC s n 283 (qbv (Pu.toks s 0) (qbc (Pu.toks s 0) (smE s n)))) (hst:qbl (Pu.toks s 0) (qbv (Pu.toks s 0) (qbc (Pu.toks s 0) (smE s n)))) (hlts:Lts (qbv (Pu.toks s 0) (qbc (Pu.toks s 0) (smE s n)))) (h:SX w N rb sb m s k) (hn:(Pu.toks s 0).length≤k+1+n) {b:Nat} (hmb:m.g=.map (some b)):
 Calls Tryz.prog 346 #[rp rb,mth 283 rb,.map (some b)] w (RuleX PE N rb sb m s (sumM (Pu.toks s 0) (qbv (Pu.toks s 0) (qbc (Pu.toks s 0) (smE s n))) k) w):=by
 have hnot:∀(x:Bool) (w:World),(Op.unary .not (.bool x)).run Tryz.prog w=.ok (.bool (!x)) w:=fun _ _=>rfl
 have hcF:∀args w,(callFunc 283 args).run Tryz.prog w=.ok (.enter 283 args) w:=fun _ _=>by kernel_rfl
 have hcO:∀args w,(callFunc 345 args).run Tryz.prog w=.ok (.enter 345 args) w:=fun _ _=>by kernel_rfl
 have hzr:=h.z
 have HC:=HF _ _ _ _ _ _ h hn
 obtain ⟨r,hr⟩:∃r,r=sumM (Pu.toks s 0) (qbv (Pu.toks s 0) (qbc (Pu.toks s 0) (smE s n))) k:=⟨_,rfl⟩
 rw [←hr]
 have HE:Hid (r=bnd (qbv (Pu.toks s 0) (qbc (Pu.toks s 0) (smE s n))) (sumF (Pu.toks s 0) (qbv (Pu.toks s 0) (qbc (Pu.toks s 0) (smE s n))) (tk (Pu.toks s 0) k).frm (Pu.toks s 0).length) k):=hr
 obtain ⟨c,ff,z⟩:=h.bx
 clear hr
 go_enter Tryz.func346,Tryz.ntmps346
 go_wp2_with fail
 refine HC.mono ?_
 intro e w1 hp
 cases hA:fin (Pu.toks s 0) ((qbv (Pu.toks s 0) (qbc (Pu.toks s 0) (smE s n))) k) with
 |error f'=>
  obtain ⟨rfl,hb'⟩:=hp.bad hA
  exact ⟨rfl,RuleX.stop (uh HE) hA (fun a q h=>stall_sumF _ _ _ _ q h) hb'⟩
 |ok rr=>
 obtain ⟨a,k1⟩:=rr
 obtain ⟨v0,rfl,hb1,S1,P1⟩:=hp.ok hA
 obtain ⟨t0,x0,rfl⟩:=P1.iface
 have hlt0:=hlts _ _ _ (qan hA).1
 have HE1:=ai ((uh HE).trans (qad hA))
 have HS1:=ai S1
 have HP1:=ai P1
 have HK1:=ai hb1
 clear hp hA HC HE S1 P1 hb1 c ff z h
 go_wp2_with fail
 go_loopg [8] ((Pu.toks s 0).length-k1) (fun gk v wr=>LeftRel N rb sb m s k w r (fun f nd=>sumF (Pu.toks s 0) (qbv (Pu.toks s 0) (qbc (Pu.toks s 0) (smE s n))) (tk (Pu.toks s 0) k).frm f nd) gk v wr)
 case atStart=>exact ⟨k1,a,(Pu.toks s 0).length,uh HS1,uh HK1,ai rfl,hlt0,uh HP1,HE1,by omega⟩
 case round=>
  clear HS1 HP1 HK1 HE1
  obtain ⟨kr,nd,f,R,K,hgk,hle,PV,hE,hfu⟩:=hrel
  obtain ⟨x0,y0,x1,y1,bx0,by0,bx1,by1,hM⟩:=R.g_ hmb
  have hl:=qcv hM Tryz.underlying243 (zeroOp _) (qak (tk (Pu.toks s 0) kr))
  have hkr:=R.lt
  have ho:=qc2 s kr hkr
  obtain ⟨tv,xv,rfl⟩:=PV.iface
  obtain ⟨c,ff,z⟩:=R.bx
  by_cases hb:isT (tk (Pu.toks s 0) kr) qcx=true
  ·obtain ⟨f,rfl⟩:∃f',f=f'+1:=⟨f-1,by omega⟩
   have hE2:=ai ((uh hE).trans (sumF_go (Or.inl hb)))
   clear hE
   have hg:got (qak (tk (Pu.toks s 0) kr)) [(qcx,opR x0 y0),(qb1,opR x1 y1)]=some (opR x0 y0):=by rw [qcj hb];rfl
   rw [hg] at hl
   simp only [qcu] at hl
   have HC:=op_X hs HF hcF hst R (by omega) (by rw [text_of hb];simp) (isT_7 hb) (tk (Pu.toks s 0) k).frm bx0.2.2 by0.2.2 bx0.2.1 by0.2.1 (P:=fun b=>w.heap.size≤b) (fun b p=>by have p':w.heap.size≤b:=p;omega) PV
   go_wp2_with fail
   refine HC.mono ?_
   intro e w1 hp
   cases hA:fin (Pu.toks s 0) (opM (Pu.toks s 0) (qbv (Pu.toks s 0) (qbc (Pu.toks s 0) (smE s n))) (tk (Pu.toks s 0) kr).text (tk (Pu.toks s 0) k).frm nd kr) with
   |error f'=>
    obtain ⟨rfl,hb'⟩:=hp.bad hA
    exact ⟨rfl,RuleX.stop (uh hE2) hA (fun a q h=>stall_sumF _ _ _ _ q h) (K.trans hb')⟩
   |ok rr=>
   obtain ⟨a,k2⟩:=rr
   obtain ⟨v1,rfl,hb1,S1,P1⟩:=hp.ok hA
   obtain ⟨t1,x1,rfl⟩:=PE.iface P1
   have hlt:kr<k2:=by
    obtain ⟨_,j,h1,h2⟩:=qac (m:=(qbv (Pu.toks s 0) (qbc (Pu.toks s 0) (smE s n)))) (k:=kr+1) (qan hA).1
    cases h2
    have:=hlts _ _ _ h1
    omega
   have HE3:=ai ((uh hE2).trans (qad hA))
   have HP1:=ai P1
   have HS1:=ai S1
   have zw:=K.size
   have HK1:=ai (K.trans hb1)
   clear hp hA HC hE2 P1 S1 hb1 R K c ff z hl hM PV hg
   go_wp2_with fail
   go_roundg ((Pu.toks s 0).length-k2)
   case measure=>rw [uh hgk];omega
   case rel=>exact ⟨k2,_,f,uh HS1,uh HK1,ai rfl,by omega,PE.wide (uh HP1) fun b p=>p.elim id fun p=>(by have p':wr.heap.size≤b:=p;show w.heap.size≤b;omega),HE3,by omega⟩
  have n0:isT (tk (Pu.toks s 0) kr) qcx=false:=by simpa using hb
  clear hb
  by_cases hb:isT (tk (Pu.toks s 0) kr) qb1=true
  ·obtain ⟨f,rfl⟩:∃f',f=f'+1:=⟨f-1,by omega⟩
   have hE2:=ai ((uh hE).trans (sumF_go (Or.inr hb)))
   clear hE
   have hg:got (qak (tk (Pu.toks s 0) kr)) [(qcx,opR x0 y0),(qb1,opR x1 y1)]=some (opR x1 y1):=by rw [qcj hb];rfl
   rw [hg] at hl
   simp only [qcu] at hl
   have HC:=op_X hs HF hcF hst R (by omega) (by rw [text_of hb];simp) (isT_7 hb) (tk (Pu.toks s 0) k).frm bx1.2.2 by1.2.2 bx1.2.1 by1.2.1 (P:=fun b=>w.heap.size≤b) (fun b p=>by have p':w.heap.size≤b:=p;omega) PV
   go_wp2_with fail
   refine HC.mono ?_
   intro e w1 hp
   cases hA:fin (Pu.toks s 0) (opM (Pu.toks s 0) (qbv (Pu.toks s 0) (qbc (Pu.toks s 0) (smE s n))) (tk (Pu.toks s 0) kr).text (tk (Pu.toks s 0) k).frm nd kr) with
   |error f'=>
    obtain ⟨rfl,hb'⟩:=hp.bad hA
    exact ⟨rfl,RuleX.stop (uh hE2) hA (fun a q h=>stall_sumF _ _ _ _ q h) (K.trans hb')⟩
   |ok rr=>
   obtain ⟨a,k2⟩:=rr
   obtain ⟨v1,rfl,hb1,S1,P1⟩:=hp.ok hA
   obtain ⟨t1,x1,rfl⟩:=PE.iface P1
   have hlt:kr<k2:=by
    obtain ⟨_,j,h1,h2⟩:=qac (m:=(qbv (Pu.toks s 0) (qbc (Pu.toks s 0) (smE s n)))) (k:=kr+1) (qan hA).1
    cases h2
    have:=hlts _ _ _ h1
    omega
   have HE3:=ai ((uh hE2).trans (qad hA))
   have HP1:=ai P1
   have HS1:=ai S1
   have zw:=K.size
   have HK1:=ai (K.trans hb1)
   clear hp hA HC hE2 P1 S1 hb1 R K c ff z hl hM PV hg
   go_wp2_with fail
   go_roundg ((Pu.toks s 0).length-k2)
   case measure=>rw [uh hgk];omega
   case rel=>exact ⟨k2,_,f,uh HS1,uh HK1,ai rfl,by omega,PE.wide (uh HP1) fun b p=>p.elim id fun p=>(by have p':wr.heap.size≤b:=p;show w.heap.size≤b;omega),HE3,by omega⟩
  have n1:isT (tk (Pu.toks s 0) kr) qb1=false:=by simpa using hb
  clear hb
  rw [got_leftSum ho R.ok n0 n1 x0 y0 x1 y1] at hl
  simp only [qcu] at hl
  have hE2:=ai ((uh hE).trans (sumF_end n0 n1))
  go_wp2_with fail
  go_ret
  exact RuleX.done (uh hE2) K R PV
end
end
section
open Go Go.RowKit Go.ChangeMaps
section
variable {w:World} {N rb sb:Nat} {m:MV} {s:BA} {k n:Nat}
theorem sm_lts:Lts (smE s n):=qaw (qc7 n) (qa2 n) 3
theorem sm_stall:qbl (Pu.toks s 0) (smE s n):=stall_small' _ _ _
theorem calls_X (hs:s.size≤1000) (hT:(Pu.toks s 0).length≤1001) (IH:qex s n):SubC s n 284 (qbc (Pu.toks s 0) (smE s n)):=fun w N rb sb m k h hn=>call_X hs hT IH h hn
theorem products_X (hs:s.size≤1000) (hT:(Pu.toks s 0).length≤1001) (IH:qex s n):SubC s n 283 (qbv (Pu.toks s 0) (qbc (Pu.toks s 0) (smE s n))):=by
 intro w N rb sb m k h hn
 obtain ⟨b,hmb⟩:=h.hm
 have hmf:∀(fn:Fn) (first cap:Array Value) (w:World),(Instr.makeFunc fn first cap).run Tryz.prog w=.ok (.func fn first cap) w:=fun _ _ _ _=>rfl
 have HC:=leftProd_X hs hT (calls_X hs hT IH) (stall_call sm_stall) (qdr sm_lts) h hn hmb
 obtain ⟨c,ff,z⟩:=h.bx
 go_enter Tryz.func283,Tryz.ntmps283
 go_wp2_with fail
 refine HC.mono ?_
 intro e w1 hp
 cases hA:fin (Pu.toks s 0) ((qbv (Pu.toks s 0) (qbc (Pu.toks s 0) (smE s n))) k) with
 |error f'=>
  obtain ⟨rfl,hb'⟩:=hp.bad hA
  exact ⟨rfl,hp⟩
 |ok r=>
 obtain ⟨a,k2⟩:=r
 obtain ⟨v,rfl,_,_,hR⟩:=hp.ok hA
 obtain ⟨tv,xv,rfl⟩:=hR.iface
 go_wp2_with fail
 go_ret
 exact hp
theorem sums_X (hs:s.size≤1000) (hT:(Pu.toks s 0).length≤1001) (IH:qex s n):SubC s n 282 (sumM (Pu.toks s 0) (qbv (Pu.toks s 0) (qbc (Pu.toks s 0) (smE s n)))):=by
 intro w N rb sb m k h hn
 obtain ⟨b,hmb⟩:=h.gm
 have hmf:∀(fn:Fn) (first cap:Array Value) (w:World),(Instr.makeFunc fn first cap).run Tryz.prog w=.ok (.func fn first cap) w:=fun _ _ _ _=>rfl
 have HC:=leftSum_X hs hT (products_X hs hT IH) (stall_prod (stall_call sm_stall)) (prod_lts (qdr sm_lts)) h hn hmb
 obtain ⟨c,ff,z⟩:=h.bx
 go_enter Tryz.func282,Tryz.ntmps282
 go_wp2_with fail
 refine HC.mono ?_
 intro e w1 hp
 cases hA:fin (Pu.toks s 0) ((sumM (Pu.toks s 0) (qbv (Pu.toks s 0) (qbc (Pu.toks s 0) (smE s n)))) k) with
 |error f'=>
  obtain ⟨rfl,hb'⟩:=hp.bad hA
  exact ⟨rfl,hp⟩
 |ok r=>
 obtain ⟨a,k2⟩:=r
 obtain ⟨v,rfl,_,_,hR⟩:=hp.ok hA
 obtain ⟨tv,xv,rfl⟩:=hR.iface
 go_wp2_with fail
 go_ret
 exact hp
theorem SX.f_ (h:SX w N rb sb m s k) {b:Nat} (hb:m.f=.map (some b)):∃x0 y0,BoxAt w N rb x0 #[rp rb]∧BoxAt w N rb y0 #[mth 282 rb]∧MS Value.string w b [(qb6,opR x0 y0)]:=by
 obtain ⟨x0,y0,h0,g0,b',e,_,_,hM⟩:=h.ev.mp.cm
 rw [hb] at e
 cases e
 exact ⟨x0,y0,h0,g0,hM⟩
theorem SX.fm (h:SX w N rb sb m s k):∃b,m.f=.map (some b):=by
 obtain ⟨x0,y0,h0,g0,b',e,_,_,hM⟩:=h.ev.mp.cm
 exact ⟨b',e⟩
theorem got_cmp {t:Pu.Tok} (ho:qdq t) (h6:t.kind≠6) (n0:isT t qb6=false) (x0 y0:Nat):got (qak t) [(qb6,opR x0 y0)]=none:=by
 rcases ho.kd with h'|h'|h'|h'|h'|h'|h'
 ·rw [qcy h'];rfl
 ·rw [qcs h'];rfl
 ·rw [qct h'];rfl
 ·rw [qcz h'];rfl
 ·rw [qc8 h']
  refine got_no fun p hp=>?_
  simp only [List.mem_cons,List.not_mem_nil,or_false] at hp
  rcases hp with rfl
  exact qdk h' n0
 ·exact absurd h' h6
 ·rw [qc0 h'];rfl
theorem comparison_X (hs:s.size≤1000) (hT:(Pu.toks s 0).length≤1001) (IH:qex s n) (h:SX w N rb sb m s k) (hn:(Pu.toks s 0).length≤k+1+n):Calls Tryz.prog 369 #[rp rb] w (RuleX PE N rb sb m s (qd1 (Pu.toks s 0) (sumM (Pu.toks s 0) (qbv (Pu.toks s 0) (qbc (Pu.toks s 0) (smE s n)))) k) w):=by
 have hcO:∀args w,(callFunc 345 args).run Tryz.prog w=.ok (.enter 345 args) w:=fun _ _=>by kernel_rfl
 have hcF:∀args w,(callFunc 282 args).run Tryz.prog w=.ok (.enter 282 args) w:=fun _ _=>by kernel_rfl
 have hnot:∀(x:Bool) (w:World),(Op.unary .not (.bool x)).run Tryz.prog w=.ok (.bool (!x)) w:=fun _ _=>rfl
 obtain ⟨b,hmb⟩:=h.fm
 have HF:=sums_X (n:=n) hs hT IH
 have hst:qbl (Pu.toks s 0) (sumM (Pu.toks s 0) (qbv (Pu.toks s 0) (qbc (Pu.toks s 0) (smE s n)))):=stall_sum (stall_prod (stall_call sm_stall))
 have hlts:Lts (sumM (Pu.toks s 0) (qbv (Pu.toks s 0) (qbc (Pu.toks s 0) (smE s n)))):=sum_lts (prod_lts (qdr sm_lts))
 have hzr:=h.z
 have HC:=HF _ _ _ _ _ _ h hn
 have HE:Hid (qd1 (Pu.toks s 0) (sumM (Pu.toks s 0) (qbv (Pu.toks s 0) (qbc (Pu.toks s 0) (smE s n)))) k=bnd (sumM (Pu.toks s 0) (qbv (Pu.toks s 0) (qbc (Pu.toks s 0) (smE s n)))) (lessR (T:=(Pu.toks s 0)) (sumM (Pu.toks s 0) (qbv (Pu.toks s 0) (qbc (Pu.toks s 0) (smE s n)))) (tk (Pu.toks s 0) k).frm) k):=ai (less_eq _ _)
 obtain ⟨c,ff,z⟩:=h.bx
 clear h
 go_enter Tryz.func369,Tryz.ntmps369
 go_wp2_with fail
 refine HC.mono ?_
 intro e w1 hp
 cases hA:fin (Pu.toks s 0) ((sumM (Pu.toks s 0) (qbv (Pu.toks s 0) (qbc (Pu.toks s 0) (smE s n)))) k) with
 |error f'=>
  obtain ⟨rfl,hb'⟩:=hp.bad hA
  exact ⟨rfl,RuleX.stop (uh HE) hA (fun a=>stall_lessR _ _ _) hb'⟩
 |ok rr=>
 obtain ⟨a,k1⟩:=rr
 obtain ⟨v0,rfl,K,R,PV⟩:=hp.ok hA
 have hlt:=hlts _ _ _ (qan hA).1
 obtain ⟨x0,y0,bx0,by0,hM⟩:=R.f_ hmb
 have hl:=fun q=>qcv (hM.same (w':=w1.drewN q) rfl) Tryz.underlying243 (zeroOp _) (qak (tk (Pu.toks s 0) k1))
 have hl0:=qcv hM Tryz.underlying243 (zeroOp _) (qak (tk (Pu.toks s 0) k1))
 have hkr:=R.lt
 have ho:=qc2 s k1 hkr
 obtain ⟨tv,xv,rfl⟩:=PV.iface
 have HE1:=ai ((uh HE).trans (qad hA))
 have z1:=K.size
 clear hp hA HE HC c ff z
 obtain ⟨c,ff,z⟩:=R.bx
 by_cases hb:isT (tk (Pu.toks s 0) k1) qb6=true
 ·have hg:got (qak (tk (Pu.toks s 0) k1)) [(qb6,opR x0 y0)]=some (opR x0 y0):=by rw [qcj hb];rfl
  simp only [hg,qcu] at hl hl0
  have HE2:Hid (qd1 (Pu.toks s 0) (sumM (Pu.toks s 0) (qbv (Pu.toks s 0) (qbc (Pu.toks s 0) (smE s n)))) k=opM (Pu.toks s 0) (sumM (Pu.toks s 0) (qbv (Pu.toks s 0) (qbc (Pu.toks s 0) (smE s n)))) (tk (Pu.toks s 0) k1).text (tk (Pu.toks s 0) k).frm a k1):=ai ((uh HE1).trans (by unfold lessR;rw [if_pos hb,text_of hb];rfl))
  have HC:=fun q=>op_X hs HF hcF hst (R.bel (qam _ q)) (by omega) (by rw [text_of hb];simp) (isT_7 hb) (tk (Pu.toks s 0) k).frm (bx0.2.2.below (qam _ q)) (by0.2.2.below (qam _ q)) bx0.2.1 by0.2.1 (P:=fun b=>w.heap.size≤b) (fun b p=>by have p':w.heap.size≤b:=p;omega) (PV.bel (qam _ q))
  go_wp2_with fail
  go_quiet (fail)
  go_wp2_with fail
  refine (HC nq).mono ?_
  intro e w2 hp
  cases hA:fin (Pu.toks s 0) (opM (Pu.toks s 0) (sumM (Pu.toks s 0) (qbv (Pu.toks s 0) (qbc (Pu.toks s 0) (smE s n)))) (tk (Pu.toks s 0) k1).text (tk (Pu.toks s 0) k).frm a k1) with
  |error f'=>
   obtain ⟨rfl,hb'⟩:=hp.bad hA
   exact ⟨rfl,RuleX.fail ((K.below' (qam _ nq)).trans hb') (by rw [uh HE2];exact hA)⟩
  |ok rr=>
  obtain ⟨a2,k2⟩:=rr
  obtain ⟨v1,rfl,hb1,S1,P1⟩:=hp.ok hA
  obtain ⟨t1,x1,rfl⟩:=PE.iface P1
  have HE3:=ai ((uh HE2).trans (qan hA).1)
  have HP1:=ai P1
  have HS1:=ai S1
  have HK1:=ai ((K.below' (qam _ nq)).trans hb1)
  clear hp hA HC P1 S1 hb1 c ff z hl hl0
  go_wp2_with fail
  go_ret
  exact RuleX.done (uh HE3) (uh HK1) (uh HS1) (PE.wide (uh HP1) fun b p=>p.elim id fun p=>(by have p':w1.heap.size≤b:=p;show w.heap.size≤b;omega))
 ·have hb':isT (tk (Pu.toks s 0) k1) qb6=false:=by simpa using hb
  have hg:=got_cmp ho R.ok hb' x0 y0
  simp only [hg,qcu] at hl hl0
  have HE2:Hid (qd1 (Pu.toks s 0) (sumM (Pu.toks s 0) (qbv (Pu.toks s 0) (qbc (Pu.toks s 0) (smE s n)))) k=.ok (a,k1)):=ai ((uh HE1).trans (by unfold lessR;rw [if_neg hb]))
  go_wp2_with fail
  go_quiet (fail)
  go_wp2_with fail
  go_ret
  exact RuleX.done (uh HE2) (K.below' (qam _ nq)) (R.bel (qam _ nq)) (PV.bel (qam _ nq))
end
end
section
open Go Go.RowKit Go.ChangeMaps
section
variable {w:World} {N rb sb:Nat} {m:MV} {s:BA} {k n:Nat}
theorem name_in {k k':Nat} {t:Pu.Tok} (h:qa3 (Pu.toks s 0) 1 k=.ok (t,k')) (hk:k<(Pu.toks s 0).length):LowN t.text∧t.to=t.frm+t.text.size:=by
 unfold qa3 at h
 split at h
 ·rename_i hq
  cases h
  have:=tk_in s k hk
  exact ⟨this.v1 (by simpa using hq),this.sp⟩
 ·cases h
theorem function_X (hs:s.size≤1000) (IH:qex s n) (h:SX w N rb sb m s k) (hn:(Pu.toks s 0).length≤k+1+n):
 Calls Tryz.prog 258 #[rp rb] w (RuleX PE N rb sb m s (funM (Pu.toks s 0) (qar (Pu.toks s 0) n) k) w):=by
 have hf1:=qeg
 have hf2:=spn175
 have hnot:∀(x:Bool) (w:World),(Op.unary .not (.bool x)).run Tryz.prog w=.ok (.bool (!x)) w:=fun _ _=>rfl
 have hz:=h.z
 have S1:=ai h
 have K2:=ai (Ke.refl rb w)
 have E3:Hid (funM (Pu.toks s 0) (qar (Pu.toks s 0) n) k=bnd (qaf (Pu.toks s 0) kFun) (fun _=>bnd (qa3 (Pu.toks s 0) 1) (fun t=>bnd (qaf (Pu.toks s 0) kArrow) (fun _=>bnd (qar (Pu.toks s 0) n) (fun e=>fun k'=>.ok (Nd.mk 9 t.text 0 [e] (tk (Pu.toks s 0) k).frm (qal (Pu.toks s 0) k') t.frm,k'))))) k):=ai rfl
 clear h
 go_enter Tryz.func258,Tryz.ntmps258
 go_wp2_with fail
 refine (qca (uh S1) hs kFun (by decide)).mono ?_
 intro e w1 hp
 cases hA:fin (Pu.toks s 0) (qaf (Pu.toks s 0) kFun k) with
 |error f'=>
  obtain ⟨rfl,hb⟩:=hp.bad hA
  exact ⟨rfl,RuleX.stop (uh E3) hA (fun a=>qae (qeu _ _ (by decide)) fun _=>qae (qap _ _) fun _=>qae (qa1 _) fun _=>qao _) ((uh K2).trans hb)⟩
 |ok r'=>
 obtain ⟨_uw1,k1⟩:=r'
 obtain ⟨vw1,rfl,hb,hS,hR⟩:=hp.ok hA
 have S4:=ai hS
 have K5:=ai ((uh K2).trans hb)
 have E6:=ai ((uh E3).trans (qad hA))
 have qw1:=(qan hA).1
 have zw1:=hb.size
 try simp at zw1
 cases hR
 clear hp hb hS hA S1 K2 E3
 have ew1:=qag _ _ _ _ qw1
 go_wp2_with fail
 have lw2:=(uh S4).lt
 refine (name_X (uh S4) hs 1 kLow (Or.inl ⟨rfl,rfl⟩)).mono ?_
 intro e w2 hp
 cases hA:fin (Pu.toks s 0) (qa3 (Pu.toks s 0) 1 k1) with
 |error f'=>
  obtain ⟨rfl,hb⟩:=hp.bad hA
  exact ⟨rfl,RuleX.stop (uh E6) hA (fun a=>qae (qap _ _) fun _=>qae (qa1 _) fun _=>qao _) ((uh K5).trans hb)⟩
 |ok r'=>
 obtain ⟨t,k2⟩:=r'
 obtain ⟨vw2,rfl,hb,hS,hR⟩:=hp.ok hA
 have S7:=ai hS
 have K8:=ai ((uh K5).trans hb)
 have E9:=ai ((uh E6).trans (qad hA))
 have qw2:=(qan hA).1
 have zw2:=hb.size
 try simp at zw2
 cases hR
 clear hp hb hS hA S4 K5 E6
 have ew2:=qbi _ _ _ _ qw2
 have Ht:=ai (name_in qw2 lw2)
 go_wp2_with fail
 have S10:=ai ((uh S7).bel (bw (.cells #[.int .i64 (t.frm:Int),.int .i64 (t.to:Int),.string t.text] 214)))
 have K11:=ai ((uh K8).below' (bw (.cells #[.int .i64 (t.frm:Int),.int .i64 (t.to:Int),.string t.text] 214)))
 clear S7 K8
 have B12:=ai (Bx.at w2 #[.int .i64 (t.frm:Int),.int .i64 (t.to:Int),.string t.text] 214 (w2.heap.size) (by simp))
 refine (qca (uh S10) hs kArrow (by decide)).mono ?_
 intro e w3 hp
 cases hA:fin (Pu.toks s 0) (qaf (Pu.toks s 0) kArrow k2) with
 |error f'=>
  obtain ⟨rfl,hb⟩:=hp.bad hA
  exact ⟨rfl,RuleX.stop (uh E9) hA (fun a=>qae (qa1 _) fun _=>qao _) ((uh K11).trans hb)⟩
 |ok r'=>
 obtain ⟨_uw3,k3⟩:=r'
 obtain ⟨vw3,rfl,hb,hS,hR⟩:=hp.ok hA
 have S13:=ai hS
 have K14:=ai ((uh K11).trans hb)
 have E15:=ai ((uh E9).trans (qad hA))
 have qw3:=(qan hA).1
 have zw3:=hb.size
 try simp at zw3
 have B16:=ai ((uh B12).ke' hb (by omega))
 clear B12
 cases hR
 clear hp hb hS hA S10 K11 E9
 have ew3:=qag _ _ _ _ qw3
 go_wp2_with fail
 refine (IH _ _ _ _ _ _ (uh S13) (by omega)).mono ?_
 intro e w4 hp
 cases hA:fin (Pu.toks s 0) (qar (Pu.toks s 0) n k3) with
 |error f'=>
  obtain ⟨rfl,hb⟩:=hp.bad hA
  exact ⟨rfl,RuleX.stop (uh E15) hA (fun a=>qao _) ((uh K14).trans hb)⟩
 |ok r'=>
 obtain ⟨a,k4⟩:=r'
 obtain ⟨v4,rfl,hb,hS,hR⟩:=hp.ok hA
 have S17:=ai hS
 have K18:=ai ((uh K14).trans hb)
 have E19:=ai ((uh E15).trans (qad hA))
 have qw4:=(qan hA).1
 have zw4:=hb.size
 try simp at zw4
 have B20:=ai ((uh B16).ke' hb (by omega))
 clear B16
 have V21:=ai hR
 obtain ⟨tv4,xv4,rfl⟩:=hR.iface
 clear hp hb hS hA S13 K14 E15 hR
 have ew4:=qcc n _ _ _ qw4
 go_wp2_with fail
 obtain ⟨c22,f23,z24⟩:=uh B20
 go_wp2_with fail
 go_region_with (go_at_call 214;refine (qcm ((uh S17).bel (Below.refl _ _).drew) _).mono ?_;rintro e w5 ⟨rfl,hb⟩;have S25:=ai (((uh S17).bel (Below.refl _ _).drew).bel hb);have K26:=ai (((uh K18).below' (Below.refl _ _).drew).below' hb);have V27:=ai (((uh V21).bel (Below.refl _ _).drew).bel hb);have B28:=ai ((uh B20).drew'.below hb);obtain ⟨c29,fc29,zc29⟩:=uh B28;clear hb)
 all_goals (
  go_wp2_with fail
  go_ret
  exact RuleX.done (uh E19) (uh K26) (uh S25) (.fn _ _ _ _ _ _ _ _ (uh Ht).1 (uh Ht).2 ((uh V27).wide fun b p=>by have p':w3.heap.size≤b:=p;show w.heap.size≤b;omega)))
theorem choice_X (hs:s.size≤1000) (IH:qex s n) (h:SX w N rb sb m s k) (hn:(Pu.toks s 0).length≤k+1+n):
 Calls Tryz.prog 260 #[rp rb] w (RuleX PE N rb sb m s (qcw (Pu.toks s 0) (qar (Pu.toks s 0) n) k) w):=by
 have hf1:=qeg
 have hf2:=spn175
 have hnot:∀(x:Bool) (w:World),(Op.unary .not (.bool x)).run Tryz.prog w=.ok (.bool (!x)) w:=fun _ _=>rfl
 have hz:=h.z
 have S1:=ai h
 have K2:=ai (Ke.refl rb w)
 have E3:Hid (qcw (Pu.toks s 0) (qar (Pu.toks s 0) n) k=bnd (qaf (Pu.toks s 0) kIf) (fun _=>bnd (qar (Pu.toks s 0) n) (fun a=>bnd (qaf (Pu.toks s 0) qeh) (fun _=>bnd (qar (Pu.toks s 0) n) (fun b=>bnd (qaf (Pu.toks s 0) kElse) (fun _=>bnd (qar (Pu.toks s 0) n) (fun c=>fun k'=>.ok (Nd.mk 12 kNo 0 [a,b,c] (tk (Pu.toks s 0) k).frm (qal (Pu.toks s 0) k') (tk (Pu.toks s 0) k).frm,k'))))))) k):=ai rfl
 clear h
 go_enter Tryz.func260,Tryz.ntmps260
 go_wp2_with fail
 refine (qca (uh S1) hs kIf (by decide)).mono ?_
 intro e w1 hp
 cases hA:fin (Pu.toks s 0) (qaf (Pu.toks s 0) kIf k) with
 |error f'=>
  obtain ⟨rfl,hb⟩:=hp.bad hA
  exact ⟨rfl,RuleX.stop (uh E3) hA (fun a=>qae (qa1 _) fun _=>qae (qap _ _) fun _=>qae (qa1 _) fun _=>qae (qap _ _) fun _=>qae (qa1 _) fun _=>qao _) ((uh K2).trans hb)⟩
 |ok r'=>
 obtain ⟨_uw1,k1⟩:=r'
 obtain ⟨vw1,rfl,hb,hS,hR⟩:=hp.ok hA
 have S4:=ai hS
 have K5:=ai ((uh K2).trans hb)
 have E6:=ai ((uh E3).trans (qad hA))
 have qw1:=(qan hA).1
 have zw1:=hb.size
 try simp at zw1
 cases hR
 clear hp hb hS hA S1 K2 E3
 have ew1:=qag _ _ _ _ qw1
 go_wp2_with fail
 refine (IH _ _ _ _ _ _ (uh S4) (by omega)).mono ?_
 intro e w2 hp
 cases hA:fin (Pu.toks s 0) (qar (Pu.toks s 0) n k1) with
 |error f'=>
  obtain ⟨rfl,hb⟩:=hp.bad hA
  exact ⟨rfl,RuleX.stop (uh E6) hA (fun a=>qae (qap _ _) fun _=>qae (qa1 _) fun _=>qae (qap _ _) fun _=>qae (qa1 _) fun _=>qao _) ((uh K5).trans hb)⟩
 |ok r'=>
 obtain ⟨a,k2⟩:=r'
 obtain ⟨v2,rfl,hb,hS,hR⟩:=hp.ok hA
 have S7:=ai hS
 have K8:=ai ((uh K5).trans hb)
 have E9:=ai ((uh E6).trans (qad hA))
 have qw2:=(qan hA).1
 have zw2:=hb.size
 try simp at zw2
 have V10:=ai hR
 obtain ⟨tv2,xv2,rfl⟩:=hR.iface
 clear hp hb hS hA S4 K5 E6 hR
 have ew2:=qcc n _ _ _ qw2
 go_wp2_with fail
 refine (qca (uh S7) hs qeh (by decide)).mono ?_
 intro e w3 hp
 cases hA:fin (Pu.toks s 0) (qaf (Pu.toks s 0) qeh k2) with
 |error f'=>
  obtain ⟨rfl,hb⟩:=hp.bad hA
  exact ⟨rfl,RuleX.stop (uh E9) hA (fun a=>qae (qa1 _) fun _=>qae (qap _ _) fun _=>qae (qa1 _) fun _=>qao _) ((uh K8).trans hb)⟩
 |ok r'=>
 obtain ⟨_uw3,k3⟩:=r'
 obtain ⟨vw3,rfl,hb,hS,hR⟩:=hp.ok hA
 have S11:=ai hS
 have K12:=ai ((uh K8).trans hb)
 have E13:=ai ((uh E9).trans (qad hA))
 have qw3:=(qan hA).1
 have zw3:=hb.size
 try simp at zw3
 have V14:=ai ((uh V10).ke hb (fun b p=>by show b≠rb;have p':w1.heap.size≤b:=p;omega))
 clear V10
 cases hR
 clear hp hb hS hA S7 K8 E9
 have ew3:=qag _ _ _ _ qw3
 go_wp2_with fail
 refine (IH _ _ _ _ _ _ (uh S11) (by omega)).mono ?_
 intro e w4 hp
 cases hA:fin (Pu.toks s 0) (qar (Pu.toks s 0) n k3) with
 |error f'=>
  obtain ⟨rfl,hb⟩:=hp.bad hA
  exact ⟨rfl,RuleX.stop (uh E13) hA (fun a=>qae (qap _ _) fun _=>qae (qa1 _) fun _=>qao _) ((uh K12).trans hb)⟩
 |ok r'=>
 obtain ⟨b,k4⟩:=r'
 obtain ⟨v4,rfl,hb,hS,hR⟩:=hp.ok hA
 have S15:=ai hS
 have K16:=ai ((uh K12).trans hb)
 have E17:=ai ((uh E13).trans (qad hA))
 have qw4:=(qan hA).1
 have zw4:=hb.size
 try simp at zw4
 have V18:=ai ((uh V14).ke hb (fun b p=>by show b≠rb;have p':w1.heap.size≤b:=p;omega))
 clear V14
 have V19:=ai hR
 obtain ⟨tv4,xv4,rfl⟩:=hR.iface
 clear hp hb hS hA S11 K12 E13 hR
 have ew4:=qcc n _ _ _ qw4
 go_wp2_with fail
 refine (qca (uh S15) hs kElse (by decide)).mono ?_
 intro e w5 hp
 cases hA:fin (Pu.toks s 0) (qaf (Pu.toks s 0) kElse k4) with
 |error f'=>
  obtain ⟨rfl,hb⟩:=hp.bad hA
  exact ⟨rfl,RuleX.stop (uh E17) hA (fun a=>qae (qa1 _) fun _=>qao _) ((uh K16).trans hb)⟩
 |ok r'=>
 obtain ⟨_uw5,k5⟩:=r'
 obtain ⟨vw5,rfl,hb,hS,hR⟩:=hp.ok hA
 have S20:=ai hS
 have K21:=ai ((uh K16).trans hb)
 have E22:=ai ((uh E17).trans (qad hA))
 have qw5:=(qan hA).1
 have zw5:=hb.size
 try simp at zw5
 have V23:=ai ((uh V18).ke hb (fun b p=>by show b≠rb;have p':w1.heap.size≤b:=p;omega))
 clear V18
 have V24:=ai ((uh V19).ke hb (fun b p=>by show b≠rb;have p':w3.heap.size≤b:=p;omega))
 clear V19
 cases hR
 clear hp hb hS hA S15 K16 E17
 have ew5:=qag _ _ _ _ qw5
 go_wp2_with fail
 refine (IH _ _ _ _ _ _ (uh S20) (by omega)).mono ?_
 intro e w6 hp
 cases hA:fin (Pu.toks s 0) (qar (Pu.toks s 0) n k5) with
 |error f'=>
  obtain ⟨rfl,hb⟩:=hp.bad hA
  exact ⟨rfl,RuleX.stop (uh E22) hA (fun a=>qao _) ((uh K21).trans hb)⟩
 |ok r'=>
 obtain ⟨c,k6⟩:=r'
 obtain ⟨v6,rfl,hb,hS,hR⟩:=hp.ok hA
 have S25:=ai hS
 have K26:=ai ((uh K21).trans hb)
 have E27:=ai ((uh E22).trans (qad hA))
 have qw6:=(qan hA).1
 have zw6:=hb.size
 try simp at zw6
 have V28:=ai ((uh V23).ke hb (fun b p=>by show b≠rb;have p':w1.heap.size≤b:=p;omega))
 clear V23
 have V29:=ai ((uh V24).ke hb (fun b p=>by show b≠rb;have p':w3.heap.size≤b:=p;omega))
 clear V24
 have V30:=ai hR
 obtain ⟨tv6,xv6,rfl⟩:=hR.iface
 clear hp hb hS hA S20 K21 E22 hR
 have ew6:=qcc n _ _ _ qw6
 go_wp2_with fail
 refine (qcm (uh S25) _).mono ?_
 rintro e w7 ⟨rfl,hb⟩
 have S31:=ai ((uh S25).bel hb)
 have K32:=ai ((uh K26).below' hb)
 have zw7:=hb.size
 try simp at zw7
 have V33:=ai ((uh V28).bel hb)
 clear V28
 have V34:=ai ((uh V29).bel hb)
 clear V29
 have V35:=ai ((uh V30).bel hb)
 clear V30
 clear hb S25 K26
 go_wp2_with fail
 go_ret
 exact RuleX.done (uh E27) (uh K32) (uh S31) (.ite _ _ _ _ _ _ _ _ _ _ _ ((uh V33).wide fun b p=>by have p':w1.heap.size≤b:=p;show w.heap.size≤b;omega) ((uh V34).wide fun b p=>by have p':w3.heap.size≤b:=p;show w.heap.size≤b;omega) ((uh V35).wide fun b p=>by have p':w5.heap.size≤b:=p;show w.heap.size≤b;omega))
end
end
section
open Go Go.RowKit Go.ChangeMaps
def bindM (T:List Pu.Tok) (e:M Nd):M (Nat×Pu.Tok×Nd):=fun k=>
 if isT (tk T k) kRec=true then bnd (qa3 T 1) (fun t=>bnd (qaf T kEq) fun _=>bnd (funM T e) fun e k'=>.ok ((11,t,e),k')) (k+1)
 else bnd (qa3 T 1) (fun t=>bnd (qaf T kEq) fun _=>bnd e fun e k'=>.ok ((10,t,e),k')) k
theorem bound_bind (T:List Pu.Tok) (e:M Nd):qbb T e=bnd (qaf T kLet) fun _=>bindM T e:=rfl
theorem bindM_rec {T:List Pu.Tok} {e:M Nd} {k:Nat} (h:isT (tk T k) kRec=true):bindM T e k=bnd passM (fun _=>bnd (qa3 T 1) fun t=>bnd (qaf T kEq) fun _=>bnd (funM T e) fun e k'=>.ok ((11,t,e),k')) k:=by unfold bindM;rw [if_pos h];rfl
theorem bindM_no {T:List Pu.Tok} {e:M Nd} {k:Nat} (h:isT (tk T k) kRec=false):bindM T e k=bnd (qa3 T 1) (fun t=>bnd (qaf T kEq) fun _=>bnd e fun e k'=>.ok ((10,t,e),k')) k:=by unfold bindM;rw [h];rfl
theorem stall_bind {T:List Pu.Tok} (e:M Nd):qbl T (bindM T e):=fun k h=>by
 rw [bindM_no (qds h _)]
 exact qax (qeu T 1 (by decide) k h) fun _ q g=>by
  unfold bnd
  rw [show qaf T kEq q=.error (flOf (tk T q)) by unfold qaf;rw [qds g];rfl]
  rfl
def BindR (w:World) (P:Nat→Prop) (b:Nat×Pu.Tok×Nd) (v:Value):Prop:=
 ∃ve,v=.agg #[.bool (b.1==11),.int .i64 (b.2.1.frm:Int),.int .i64 (b.2.1.to:Int),.string b.2.1.text,ve]∧PE w P b.2.2 ve∧(b.1=10∨b.1=11)∧LowN b.2.1.text∧b.2.1.to=b.2.1.frm+b.2.1.text.size
theorem Bx.set5 {w:World} {b:Nat} {C:Array Value} (h:Bx w b C) (hC:C.size=5) (v0 v1 v2 v3 v4:Value):Bx (((((w.setCell ⟨b,0,none⟩ v0).setCell ⟨b,1,none⟩ v1).setCell ⟨b,2,none⟩ v2).setCell ⟨b,3,none⟩ v3).setCell ⟨b,4,none⟩ v4) b #[v0,v1,v2,v3,v4]:=by
 obtain ⟨a0,a1,a2,a3,a4,rfl⟩:∃a0 a1 a2 a3 a4,C=#[a0,a1,a2,a3,a4]:=by
  obtain ⟨l⟩:=C
  match l,hC with
  |[a,b,c,d,e],_=>exact ⟨a,b,c,d,e,rfl⟩
 exact ((((h.setS' 0 v0 #[v0,a1,a2,a3,a4] rfl (by simp)).setS' 1 v1 #[v0,v1,a2,a3,a4] rfl (by simp)).setS' 2 v2 #[v0,v1,v2,a3,a4] rfl (by simp)).setS' 3 v3 #[v0,v1,v2,v3,a4] rfl (by simp)).setS' 4 v4 #[v0,v1,v2,v3,v4] rfl (by simp)
section
theorem PE.setC {w:World} {P:Nat→Prop} {nd:Nd} {v:Value} (h:PE w P nd v) {b:Nat} (hb:∀c,P c→c≠b) (j:Nat) (u:Value):PE (w.setCell ⟨b,j,none⟩ u) P nd v:=h.move (by simp [World.setCell]) (fun c p _=>Below.heap_setCell _ _ _ _ (hb c p)) (fun _ p _=>p)
theorem PP.setC {w:World} {P:Nat→Prop} {nd:Nd} {v:Value} (h:PP w P nd v) {b:Nat} (hb:∀c,P c→c≠b) (j:Nat) (u:Value):PP (w.setCell ⟨b,j,none⟩ u) P nd v:=h.move (by simp [World.setCell]) (fun c p _=>Below.heap_setCell _ _ _ _ (hb c p)) (fun _ p _=>p)
variable {w:World} {N rb sb:Nat} {m:MV} {s:BA} {k n:Nat}
theorem binding_X (hs:s.size≤1000) (IH:qex s n) (h:SX w N rb sb m s k) (hn:(Pu.toks s 0).length≤k+n):
 Calls Tryz.prog 339 #[rp rb] w (RuleX BindR N rb sb m s (bindM (Pu.toks s 0) (qar (Pu.toks s 0) n) k) w):=by
 have hf1:=qeg
 have hf2:=spn175
 have hnot:∀(x:Bool) (w:World),(Op.unary .not (.bool x)).run Tryz.prog w=.ok (.bool (!x)) w:=fun _ _=>rfl
 have hmf:∀(fn:Fn) (first cap:Array Value) (w:World),(Instr.makeFunc fn first cap).run Tryz.prog w=.ok (.func fn first cap) w:=fun _ _ _ _=>rfl
 have hcE:∀args w,(callFunc 340 args).run Tryz.prog w=.ok (.enter 340 args) w:=fun _ _=>by kernel_rfl
 have hcF:∀args w,(callFunc 258 args).run Tryz.prog w=.ok (.enter 258 args) w:=fun _ _=>by kernel_rfl
 have hNw:=h.ev.hN
 by_cases hc:isT (tk (Pu.toks s 0) k) kRec=true
 ·have HE0:=bindM_rec (e:=qar (Pu.toks s 0) n) hc
  have hz:=h.z
  have S1:=ai h
  have K2:=ai (Ke.refl rb w)
  have E3:=ai HE0
  clear h HE0
  go_enter Tryz.func339,Tryz.ntmps339
  go_wp2_with fail
  have S4:=ai ((uh S1).bel (bw (.cells #[.bool false,.int .i64 0,.int .i64 0,.string ⟨#[]⟩,.nilIface] 218)))
  have K5:=ai ((uh K2).below' (bw (.cells #[.bool false,.int .i64 0,.int .i64 0,.string ⟨#[]⟩,.nilIface] 218)))
  clear S1 K2
  have B6:=ai (Bx.at w #[.bool false,.int .i64 0,.int .i64 0,.string ⟨#[]⟩,.nilIface] 218 (w.heap.size) (by simp))
  refine (took_Y (uh S4) hs kRec (by decide) hc).mono ?_
  intro e w1 hp
  cases hA:fin (Pu.toks s 0) (passM k) with
  |error f'=>
   obtain ⟨rfl,hb⟩:=hp.bad hA
   exact ⟨rfl,RuleX.stop (uh E3) hA (fun a=>qae (qeu _ _ (by decide)) fun _=>qae (qap _ _) fun _=>qae (stall_fun _) fun _=>qao _) ((uh K5).trans hb)⟩
  |ok r'=>
  obtain ⟨_u1,k1⟩:=r'
  obtain ⟨v1,rfl,hb,hS,hR⟩:=hp.ok hA
  have S7:=ai hS
  have K8:=ai ((uh K5).trans hb)
  have E9:=ai ((uh E3).trans (qad hA))
  have qw1:=(qan hA).1
  have zw1:=hb.size
  try simp at zw1
  have B10:=ai ((uh B6).ke' hb (by omega))
  clear B6
  cases hR
  clear hp hb hS hA S4 K5 E3
  have ew1:k1=k+1:=by unfold passM at qw1;cases qw1;rfl
  go_wp2_with fail
  have lw2:=(uh S7).lt
  refine (name_X (uh S7) hs 1 kLow (Or.inl ⟨rfl,rfl⟩)).mono ?_
  intro e w2 hp
  cases hA:fin (Pu.toks s 0) (qa3 (Pu.toks s 0) 1 k1) with
  |error f'=>
   obtain ⟨rfl,hb⟩:=hp.bad hA
   exact ⟨rfl,RuleX.stop (uh E9) hA (fun a=>qae (qap _ _) fun _=>qae (stall_fun _) fun _=>qao _) ((uh K8).trans hb)⟩
  |ok r'=>
  obtain ⟨t,k2⟩:=r'
  obtain ⟨vw2,rfl,hb,hS,hR⟩:=hp.ok hA
  have S11:=ai hS
  have K12:=ai ((uh K8).trans hb)
  have E13:=ai ((uh E9).trans (qad hA))
  have qw2:=(qan hA).1
  have zw2:=hb.size
  try simp at zw2
  have B14:=ai ((uh B10).ke' hb (by omega))
  clear B10
  cases hR
  clear hp hb hS hA S7 K8 E9
  have ew2:=qbi _ _ _ _ qw2
  have Ht:=ai (name_in qw2 lw2)
  go_wp2_with fail
  have S15:=ai ((uh S11).bel (bw (.cells #[.int .i64 (t.frm:Int),.int .i64 (t.to:Int),.string t.text] 214)))
  have K16:=ai ((uh K12).below' (bw (.cells #[.int .i64 (t.frm:Int),.int .i64 (t.to:Int),.string t.text] 214)))
  clear S11 K12
  have B17:=ai ((uh B14).below (bw (.cells #[.int .i64 (t.frm:Int),.int .i64 (t.to:Int),.string t.text] 214)))
  clear B14
  have B18:=ai (Bx.at w2 #[.int .i64 (t.frm:Int),.int .i64 (t.to:Int),.string t.text] 214 (w2.heap.size) (by simp))
  refine (qca (uh S15) hs kEq (by decide)).mono ?_
  intro e w3 hp
  cases hA:fin (Pu.toks s 0) (qaf (Pu.toks s 0) kEq k2) with
  |error f'=>
   obtain ⟨rfl,hb⟩:=hp.bad hA
   exact ⟨rfl,RuleX.stop (uh E13) hA (fun a=>qae (stall_fun _) fun _=>qao _) ((uh K16).trans hb)⟩
  |ok r'=>
  obtain ⟨_uw3,k3⟩:=r'
  obtain ⟨vw3,rfl,hb,hS,hR⟩:=hp.ok hA
  have S19:=ai hS
  have K20:=ai ((uh K16).trans hb)
  have E21:=ai ((uh E13).trans (qad hA))
  have qw3:=(qan hA).1
  have zw3:=hb.size
  try simp at zw3
  have B22:=ai ((uh B17).ke' hb (by omega))
  clear B17
  have B23:=ai ((uh B18).ke' hb (by omega))
  clear B18
  cases hR
  clear hp hb hS hA S15 K16 E13
  have ew3:=qag _ _ _ _ qw3
  go_wp2_with fail
  obtain ⟨c24,f25,z26⟩:=uh B23
  obtain ⟨c27,f28,z29⟩:=uh B22
  cases hA:fin (Pu.toks s 0) (funM (Pu.toks s 0) (qar (Pu.toks s 0) n) k3) with
  |error f'=>
   go_region_dies
   all_goals (refine (function_X hs IH ((uh S19).bel (Below.refl _ _).drew) (by omega)).mono ?_;intro e w5 hp;obtain ⟨rfl,hb⟩:=hp.bad hA;exact ⟨rfl,RuleX.stop (uh E21) hA (fun a=>qao _) (((uh K20).below' (Below.refl _ _).drew).trans hb)⟩)
  |ok rr=>
  obtain ⟨a,k4⟩:=rr
  go_region_with (go_at_call 258;refine (function_X hs IH ((uh S19).bel (Below.refl _ _).drew) (by omega)).mono ?_;intro e w5 hp;obtain ⟨v,rfl,hb,hS,hR⟩:=hp.ok hA;have S5:=ai hS;have K5:=ai (((uh K20).below' (Below.refl _ _).drew).trans hb);have V5:=ai hR;obtain ⟨tv,xv,rfl⟩:=hR.iface;have z5:=hb.size;have BN:=ai ((uh B23).drew'.ke' hb (by omega));have BR:=ai ((uh B22).drew'.ke' hb (by omega));obtain ⟨cn,fn,zn⟩:=uh BN;obtain ⟨co,fo,zo⟩:=uh BR;clear hp hb hS hR)
  all_goals (
   go_wp2_with fail
   obtain ⟨cF,fF,zF⟩:=(uh BR).set5 rfl (.bool true) (.int .i64 (t.frm:Int)) (.int .i64 (t.to:Int)) (.string t.text) (.iface tv (.agg xv))
   refine bodyPost_ret (v:=.agg #[.bool true,.int .i64 (t.frm:Int),.int .i64 (t.to:Int),.string t.text,.iface tv (.agg xv)]) (by simp [results,Tryz.results339,go_sem,cF]) rfl ?_
   exact RuleX.done ((uh E21).trans (qad hA)) ((((((uh K5).setNew (b:=w.heap.size) (br _) 0 (.bool true)).setNew (b:=w.heap.size) (br _) 1 (.int .i64 (t.frm:Int))).setNew (b:=w.heap.size) (br _) 2 (.int .i64 (t.to:Int))).setNew (b:=w.heap.size) (br _) 3 (.string t.text)).setNew (b:=w.heap.size) (br _) 4 (.iface tv (.agg xv))) ((((((uh S5).set (b:=w.heap.size) hNw 0 (.bool true)).set (b:=w.heap.size) hNw 1 (.int .i64 (t.frm:Int))).set (b:=w.heap.size) hNw 2 (.int .i64 (t.to:Int))).set (b:=w.heap.size) hNw 3 (.string t.text)).set (b:=w.heap.size) hNw 4 (.iface tv (.agg xv))) ⟨_,rfl,((((((uh V5).setC (b:=w.heap.size) (fun c p=>by have p':w3.heap.size≤c:=p;omega) 0 (.bool true)).setC (b:=w.heap.size) (fun c p=>by have p':w3.heap.size≤c:=p;omega) 1 (.int .i64 (t.frm:Int))).setC (b:=w.heap.size) (fun c p=>by have p':w3.heap.size≤c:=p;omega) 2 (.int .i64 (t.to:Int))).setC (b:=w.heap.size) (fun c p=>by have p':w3.heap.size≤c:=p;omega) 3 (.string t.text)).setC (b:=w.heap.size) (fun c p=>by have p':w3.heap.size≤c:=p;omega) 4 (.iface tv (.agg xv))).wide (fun b p=>by have p':w3.heap.size≤b:=p;show w.heap.size≤b;omega),Or.inr rfl,(uh Ht).1,(uh Ht).2⟩)
 ·have hc':isT (tk (Pu.toks s 0) k) kRec=false:=by simpa using hc
  have HE0:=bindM_no (e:=qar (Pu.toks s 0) n) hc'
  have hz:=h.z
  have S1:=ai h
  have K2:=ai (Ke.refl rb w)
  have E3:=ai HE0
  clear h HE0
  go_enter Tryz.func339,Tryz.ntmps339
  go_wp2_with fail
  have S4:=ai ((uh S1).bel (bw (.cells #[.bool false,.int .i64 0,.int .i64 0,.string ⟨#[]⟩,.nilIface] 218)))
  have K5:=ai ((uh K2).below' (bw (.cells #[.bool false,.int .i64 0,.int .i64 0,.string ⟨#[]⟩,.nilIface] 218)))
  clear S1 K2
  have B6:=ai (Bx.at w #[.bool false,.int .i64 0,.int .i64 0,.string ⟨#[]⟩,.nilIface] 218 (w.heap.size) (by simp))
  refine (took_N (uh S4) kRec (by decide) hc').mono ?_
  rintro e w' ⟨rfl,rfl⟩
  go_wp2_with fail
  have z0:(w.alloc (.cells #[.bool false,.int .i64 0,.int .i64 0,.string ⟨#[]⟩,.nilIface] 218)).heap.size=w.heap.size+1:=by simp
  skip
  have lw2:=(uh S4).lt
  refine (name_X (uh S4) hs 1 kLow (Or.inl ⟨rfl,rfl⟩)).mono ?_
  intro e w2 hp
  cases hA:fin (Pu.toks s 0) (qa3 (Pu.toks s 0) 1 k) with
  |error f'=>
   obtain ⟨rfl,hb⟩:=hp.bad hA
   exact ⟨rfl,RuleX.stop (uh E3) hA (fun a=>qae (qap _ _) fun _=>qae (qa1 _) fun _=>qao _) ((uh K5).trans hb)⟩
  |ok r'=>
  obtain ⟨t,k2⟩:=r'
  obtain ⟨vw2,rfl,hb,hS,hR⟩:=hp.ok hA
  have S7:=ai hS
  have K8:=ai ((uh K5).trans hb)
  have E9:=ai ((uh E3).trans (qad hA))
  have qw2:=(qan hA).1
  have zw2:=hb.size
  try simp at zw2
  have B10:=ai ((uh B6).ke' hb (by omega))
  clear B6
  cases hR
  clear hp hb hS hA S4 K5 E3
  have ew2:=qbi _ _ _ _ qw2
  have Ht:=ai (name_in qw2 lw2)
  go_wp2_with fail
  have S11:=ai ((uh S7).bel (bw (.cells #[.int .i64 (t.frm:Int),.int .i64 (t.to:Int),.string t.text] 214)))
  have K12:=ai ((uh K8).below' (bw (.cells #[.int .i64 (t.frm:Int),.int .i64 (t.to:Int),.string t.text] 214)))
  clear S7 K8
  have B13:=ai ((uh B10).below (bw (.cells #[.int .i64 (t.frm:Int),.int .i64 (t.to:Int),.string t.text] 214)))
  clear B10
  have B14:=ai (Bx.at w2 #[.int .i64 (t.frm:Int),.int .i64 (t.to:Int),.string t.text] 214 (w2.heap.size) (by simp))
  refine (qca (uh S11) hs kEq (by decide)).mono ?_
  intro e w3 hp
  cases hA:fin (Pu.toks s 0) (qaf (Pu.toks s 0) kEq k2) with
  |error f'=>
   obtain ⟨rfl,hb⟩:=hp.bad hA
   exact ⟨rfl,RuleX.stop (uh E9) hA (fun a=>qae (qa1 _) fun _=>qao _) ((uh K12).trans hb)⟩
  |ok r'=>
  obtain ⟨_uw3,k3⟩:=r'
  obtain ⟨vw3,rfl,hb,hS,hR⟩:=hp.ok hA
  have S15:=ai hS
  have K16:=ai ((uh K12).trans hb)
  have E17:=ai ((uh E9).trans (qad hA))
  have qw3:=(qan hA).1
  have zw3:=hb.size
  try simp at zw3
  have B18:=ai ((uh B13).ke' hb (by omega))
  clear B13
  have B19:=ai ((uh B14).ke' hb (by omega))
  clear B14
  cases hR
  clear hp hb hS hA S11 K12 E9
  have ew3:=qag _ _ _ _ qw3
  go_wp2_with fail
  obtain ⟨c20,f21,z22⟩:=uh B19
  obtain ⟨c23,f24,z25⟩:=uh B18
  cases hA:fin (Pu.toks s 0) (qar (Pu.toks s 0) n k3) with
  |error f'=>
   go_region_dies
   all_goals (refine (IH _ _ _ _ _ _ ((uh S15).bel (Below.refl _ _).drew) (by omega)).mono ?_;intro e w5 hp;obtain ⟨rfl,hb⟩:=hp.bad hA;exact ⟨rfl,RuleX.stop (uh E17) hA (fun a=>qao _) (((uh K16).below' (Below.refl _ _).drew).trans hb)⟩)
  |ok rr=>
  obtain ⟨a,k4⟩:=rr
  go_region_with (go_at_call 340;refine (IH _ _ _ _ _ _ ((uh S15).bel (Below.refl _ _).drew) (by omega)).mono ?_;intro e w5 hp;obtain ⟨v,rfl,hb,hS,hR⟩:=hp.ok hA;have S5:=ai hS;have K5:=ai (((uh K16).below' (Below.refl _ _).drew).trans hb);have V5:=ai hR;obtain ⟨tv,xv,rfl⟩:=hR.iface;have z5:=hb.size;have BN:=ai ((uh B19).drew'.ke' hb (by omega));have BR:=ai ((uh B18).drew'.ke' hb (by omega));obtain ⟨cn,fn,zn⟩:=uh BN;obtain ⟨co,fo,zo⟩:=uh BR;clear hp hb hS hR)
  all_goals (
   go_wp2_with fail
   obtain ⟨cF,fF,zF⟩:=(uh BR).set5 rfl (.bool false) (.int .i64 (t.frm:Int)) (.int .i64 (t.to:Int)) (.string t.text) (.iface tv (.agg xv))
   refine bodyPost_ret (v:=.agg #[.bool false,.int .i64 (t.frm:Int),.int .i64 (t.to:Int),.string t.text,.iface tv (.agg xv)]) (by simp [results,Tryz.results339,go_sem,cF]) rfl ?_
   exact RuleX.done ((uh E17).trans (qad hA)) ((((((uh K5).setNew (b:=w.heap.size) (br _) 0 (.bool false)).setNew (b:=w.heap.size) (br _) 1 (.int .i64 (t.frm:Int))).setNew (b:=w.heap.size) (br _) 2 (.int .i64 (t.to:Int))).setNew (b:=w.heap.size) (br _) 3 (.string t.text)).setNew (b:=w.heap.size) (br _) 4 (.iface tv (.agg xv))) ((((((uh S5).set (b:=w.heap.size) hNw 0 (.bool false)).set (b:=w.heap.size) hNw 1 (.int .i64 (t.frm:Int))).set (b:=w.heap.size) hNw 2 (.int .i64 (t.to:Int))).set (b:=w.heap.size) hNw 3 (.string t.text)).set (b:=w.heap.size) hNw 4 (.iface tv (.agg xv))) ⟨_,rfl,((((((uh V5).setC (b:=w.heap.size) (fun c p=>by have p':w3.heap.size≤c:=p;omega) 0 (.bool false)).setC (b:=w.heap.size) (fun c p=>by have p':w3.heap.size≤c:=p;omega) 1 (.int .i64 (t.frm:Int))).setC (b:=w.heap.size) (fun c p=>by have p':w3.heap.size≤c:=p;omega) 2 (.int .i64 (t.to:Int))).setC (b:=w.heap.size) (fun c p=>by have p':w3.heap.size≤c:=p;omega) 3 (.string t.text)).setC (b:=w.heap.size) (fun c p=>by have p':w3.heap.size≤c:=p;omega) 4 (.iface tv (.agg xv))).wide (fun b p=>by have p':w3.heap.size≤b:=p;show w.heap.size≤b;omega),Or.inl rfl,(uh Ht).1,(uh Ht).2⟩)
end
end
end Go.Proofs.YtoceemjbcgmojaaGreatDoor

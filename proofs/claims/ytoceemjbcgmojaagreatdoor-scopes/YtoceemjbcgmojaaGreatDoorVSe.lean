import Derived.BigQuiet
import Derived.Deep.LoopGhost
import Derived.Deep.QuietTactic
import Derived.Test.YtoceemjbcgmojaaGreatDoorVSa
set_option linter.all false
set_option maxRecDepth 100000
set_option maxHeartbeats 4000000
namespace Go.Proofs.YtoceemjbcgmojaaGreatDoor
section
open Go Go.RowKit
section
variable {rb g cap:Nat} {T:List Pu.Tok} {σ:St} {w:World}
theorem small_paren {k n:Nat} {part:M Nd} (h:SS w rb g cap T (.ok k)) (sort:Nat) (hs:sort=2∨sort=3) (hf:T.length≤k+(n+1)) (ho:isT (tk T k) qd6=true) (hc:isT (tk T (k+1)) kClose=false)
 (HP:NodeC rb g cap T 305 #[.pointer (some ⟨rb,0,none⟩),.int .i64 (sort:Int)] part n) (hk0:isS T (nx (.ok (k+1)) part) kComma=false) (hk1:sort=3→isS T (nx (.ok (k+1)) part) qec=false):
 Calls Tryz.prog 203 #[.pointer (some ⟨rb,0,none⟩),.int .i64 (sort:Int)] w fun e w'=>∃x:NV,e=.returned x.v∧Ke rb w w'∧SS w' rb g cap T (nx (nx (.ok (k+1)) part) (qaf T kClose))∧
  ∀a k2,part (k+1)=.ok (a,k2)→NR w' (fun b=>w.heap.size≤b) a x:=by
 have hb:qah (tk T k) sort=true:=by unfold qah;rw [ho];rfl
 obtain ⟨q5,q⟩:(tk T k).kind=5∧((tk T k).text.toList==[40])=true:=by rw [qdt] at ho;simpa using ho
 have h7:(tk T k).kind≠7:=by omega
 have e5:(((tk T k).kind:Int) !=5)=false:=by rw [q5];rfl
 have hs3:sort=1∨sort=2∨sort=3:=by omega
 have s1:((sort:Int) !=1)=true:=by simp;omega
 have hC:isS T (.ok (k+1)) kClose=false:=hc
 have HP':=ai HP
 clear ho q5 hc HP
 rcases hs with hs|hs
 ·have s3:((sort:Int)==3)=false:=by rw [hs];rfl
  clear hk1 hs
  have hr:=h.hr
  have hg:=h.hg
  have H1:=ai h
  have K2:=ai (Ke.refl rb w)
  clear h
  go_enter Tryz.func203,Tryz.ntmps203
  go_wp2_with fail
  have H3:=ai ((uh H1).alloc (.cells qau 62))
  have K4:=ai ((uh K2).alloc (.cells qau 62))
  have B5:=ai (Bx.at w qau 62 (w.heap.size) (by simp [World.setCell]))
  clear H1 K2
  refine (qb2 (uh H3)).mono ?_
  rintro e w1 ⟨t,rfl,hb,ht⟩
  have H6:=ai ((uh H3).below hb)
  have K7:=ai ((uh K4).below hb)
  have z8:=hb.size
  try simp [World.setCell] at z8
  have B9:=ai ((uh B5).below hb)
  clear H3 K4 B5 hb
  obtain ⟨c10,f11,y12⟩:=uh B9
  have ht':=ht k rfl
  subst ht'
  clear ht
  unfold tokV
  go_wp2_with fail
  have H13:=ai ((uh H6).alloc (.cells #[.int .i64 ((tk T k).kind:Int),.string (tk T k).text,.int .i64 ((tk T k).frm:Int),.int .i64 ((tk T k).to:Int)] 58))
  have K14:=ai ((uh K7).alloc (.cells #[.int .i64 ((tk T k).kind:Int),.string (tk T k).text,.int .i64 ((tk T k).frm:Int),.int .i64 ((tk T k).to:Int)] 58))
  have B15:=ai ((uh B9).alloc (.cells #[.int .i64 ((tk T k).kind:Int),.string (tk T k).text,.int .i64 ((tk T k).frm:Int),.int .i64 ((tk T k).to:Int)] 58))
  have B16:=ai (Bx.at w1 #[.int .i64 ((tk T k).kind:Int),.string (tk T k).text,.int .i64 ((tk T k).frm:Int),.int .i64 ((tk T k).to:Int)] 58 (w1.heap.size) (by simp [World.setCell]))
  clear H6 K7 B9 c10 f11 y12
  refine (ok_S (uh H13)).mono ?_
  rintro e w2 ⟨rfl,rfl⟩
  go_wp2_with fail
  refine (qbr (tk T k) _ sort hs3).mono ?_
  rintro e w3 ⟨rfl,hb⟩
  have H17:=ai ((uh H13).below hb)
  have K18:=ai ((uh K14).below hb)
  have z19:=hb.size
  try simp [World.setCell] at z19
  have B20:=ai ((uh B15).below hb)
  have B21:=ai ((uh B16).below hb)
  clear H13 K14 B15 B16 hb
  obtain ⟨c22,f23,y24⟩:=uh B20
  obtain ⟨c25,f26,y27⟩:=uh B21
  go_wp2_with fail
  clear c22 f23 y24 c25 f26 y27
  refine (qcl (uh H17) h7).mono ?_
  rintro e w4 ⟨rfl,hb,hS⟩
  have H32:=ai hS
  have K33:=ai ((uh K18).trans hb)
  have z34:=hb.size
  try simp [World.setCell] at z34
  have B35:=ai ((uh B20).ke hb (by omega))
  have B36:=ai ((uh B21).ke hb (by omega))
  clear H17 K18 B20 B21 hb hS
  obtain ⟨c37,f38,y39⟩:=uh B35
  obtain ⟨c40,f41,y42⟩:=uh B36
  go_wp2_with fail
  clear c37 f38 y39 c40 f41 y42
  refine (is_S (uh H32) kClose).mono ?_
  rintro e w5 ⟨rfl,hb⟩
  have H47:=ai ((uh H32).below hb)
  have K48:=ai ((uh K33).below hb)
  have z49:=hb.size
  try simp [World.setCell] at z49
  have B50:=ai ((uh B35).below hb)
  have B51:=ai ((uh B36).below hb)
  clear H32 K33 B35 B36 hb
  obtain ⟨c52,f53,y54⟩:=uh B50
  obtain ⟨c55,f56,y57⟩:=uh B51
  go_wp2_with fail
  clear c52 f53 y54 c55 f56 y57
  refine (uh HP' _ _ (uh H47) (by intro j hj;cases hj;omega)).mono ?_
  rintro e w6 ⟨x,rfl,hb,hS,hN⟩
  have H62:=ai hS
  have K63:=ai ((uh K48).trans hb)
  have z64:=hb.size
  try simp [World.setCell] at z64
  have B65:=ai ((uh B50).ke hb (by omega))
  have B66:=ai ((uh B51).ke hb (by omega))
  clear H47 K48 B50 B51 hb hS
  obtain ⟨c67,f68,y69⟩:=uh B65
  obtain ⟨c70,f71,y72⟩:=uh B66
  have hN1:=ai (fun a k2 (hq:part (k+1)=.ok (a,k2))=>(hN _ a k2 rfl hq).rng w5.heap.size (fun b hb=>by simpa using hb))
  clear hN
  unfold NV.v
  go_wp2_with fail
  have H73:=ai (((uh H62).alloc (.cells (nvA x) 62)).alloc (.cells #[.int .i64 0,.string ⟨#[]⟩,.int .i64 0,.slice none 0 0,.int .i64 ((tk T k).frm:Int),.int .i64 0,.int .i64 ((tk T k).frm:Int)] 62))
  have K74:=ai (((uh K63).alloc (.cells (nvA x) 62)).alloc (.cells #[.int .i64 0,.string ⟨#[]⟩,.int .i64 0,.slice none 0 0,.int .i64 ((tk T k).frm:Int),.int .i64 0,.int .i64 ((tk T k).frm:Int)] 62))
  have B75:=ai (((uh B65).alloc (.cells (nvA x) 62)).alloc (.cells #[.int .i64 0,.string ⟨#[]⟩,.int .i64 0,.slice none 0 0,.int .i64 ((tk T k).frm:Int),.int .i64 0,.int .i64 ((tk T k).frm:Int)] 62))
  have B76:=ai (((uh B66).alloc (.cells (nvA x) 62)).alloc (.cells #[.int .i64 0,.string ⟨#[]⟩,.int .i64 0,.slice none 0 0,.int .i64 ((tk T k).frm:Int),.int .i64 0,.int .i64 ((tk T k).frm:Int)] 62))
  have B77:=ai ((Bx.at w6 (nvA x) 62 (w6.heap.size) (by simp [World.setCell])).alloc (.cells #[.int .i64 0,.string ⟨#[]⟩,.int .i64 0,.slice none 0 0,.int .i64 ((tk T k).frm:Int),.int .i64 0,.int .i64 ((tk T k).frm:Int)] 62))
  have B78:=ai (Bx.at (w6.alloc (.cells (nvA x) 62)) #[.int .i64 0,.string ⟨#[]⟩,.int .i64 0,.slice none 0 0,.int .i64 ((tk T k).frm:Int),.int .i64 0,.int .i64 ((tk T k).frm:Int)] 62 (w6.heap.size+1) (by simp [World.setCell]))
  have R79:=ai (fun a k2 hq=>(NR.bel (NR.bel (uh hN1 a k2 hq) (bw (.cells (nvA x) 62))) (bw (.cells #[.int .i64 0,.string ⟨#[]⟩,.int .i64 0,.slice none 0 0,.int .i64 ((tk T k).frm:Int),.int .i64 0,.int .i64 ((tk T k).frm:Int)] 62))))
  clear H62 K63 B65 B66 hN1 c67 f68 y69 c70 f71 y72
  refine (is_S (uh H73) kComma).mono ?_
  rintro e w7 ⟨rfl,hb⟩
  have H80:=ai ((uh H73).below hb)
  have K81:=ai ((uh K74).below hb)
  have z82:=hb.size
  try simp [World.setCell] at z82
  have B83:=ai ((uh B75).below hb)
  have B84:=ai ((uh B76).below hb)
  have B85:=ai ((uh B77).below hb)
  have B86:=ai ((uh B78).below hb)
  have R87:=ai (fun a k2 hq=>NR.bel (uh R79 a k2 hq) hb)
  clear H73 K74 B75 B76 B77 B78 R79 hb
  obtain ⟨c88,f89,y90⟩:=uh B83
  obtain ⟨c91,f92,y93⟩:=uh B84
  obtain ⟨c94,f95,y96⟩:=uh B85
  obtain ⟨c97,f98,y99⟩:=uh B86
  go_wp2_with fail
  clear c88 f89 y90 c91 f92 y93 c94 f95 y96 c97 f98 y99
  refine (qcb (uh H80) kClose).mono ?_
  rintro e w10 ⟨rfl,hb,hS⟩
  have H106:=ai hS
  have K107:=ai ((uh K81).trans hb)
  have z108:=hb.size
  try simp [World.setCell] at z108
  have B109:=ai ((uh B83).ke hb (by omega))
  have B110:=ai ((uh B84).ke hb (by omega))
  have B111:=ai ((uh B85).ke hb (by omega))
  have B112:=ai ((uh B86).ke hb (by omega))
  have R113:=ai (fun a k2 hq=>NR.ke (uh R87 a k2 hq) hb (fun b hb=>by omega))
  clear H80 K81 B83 B84 B85 B86 R87 hb hS
  obtain ⟨c114,f115,y116⟩:=uh B109
  obtain ⟨c117,f118,y119⟩:=uh B110
  obtain ⟨c120,f121,y122⟩:=uh B111
  obtain ⟨c123,f124,y125⟩:=uh B112
  go_wp2_with fail
  have H126:=ai ((uh H106).st7 (b:=w.heap.size) (by omega) (by omega) x)
  have K127:=ai ((uh K107).st7 (b:=w.heap.size) (by omega) x)
  have B128:=ai ((uh B109).st7 rfl x)
  have B129:=ai ((uh B110).stO7 (b:=w.heap.size) (by omega) x)
  have B130:=ai ((uh B111).stO7 (b:=w.heap.size) (by omega) x)
  have B131:=ai ((uh B112).stO7 (b:=w.heap.size) (by omega) x)
  have R132:=ai (fun a k2 hq=>(NRst7 (uh R113 a k2 hq) (b2:=w.heap.size) (fun b hb _=>by omega) x))
  clear H106 K107 B109 B110 B111 B112 R113 c114 f115 y116 c117 f118 y119 c120 f121 y122 c123 f124 y125
  obtain ⟨cF,fF,zF⟩:=uh B128
  refine bodyPost_ret (v:=NV.v x) (by simp [results,Tryz.results203,go_sem,cF,NV.v];try rfl) rfl ⟨x,rfl,uh K127,uh H126,fun a k2 h3=>?_⟩
  exact (uh R132 a k2 h3).wide _ (fun b hb=>by omega)
 ·have s3:((sort:Int)==3)=true:=by rw [hs];rfl
  have hD:=hk1 hs
  clear hk1 hs
  have hr:=h.hr
  have hg:=h.hg
  have H1:=ai h
  have K2:=ai (Ke.refl rb w)
  clear h
  go_enter Tryz.func203,Tryz.ntmps203
  go_wp2_with fail
  have H3:=ai ((uh H1).alloc (.cells qau 62))
  have K4:=ai ((uh K2).alloc (.cells qau 62))
  have B5:=ai (Bx.at w qau 62 (w.heap.size) (by simp [World.setCell]))
  clear H1 K2
  refine (qb2 (uh H3)).mono ?_
  rintro e w1 ⟨t,rfl,hb,ht⟩
  have H6:=ai ((uh H3).below hb)
  have K7:=ai ((uh K4).below hb)
  have z8:=hb.size
  try simp [World.setCell] at z8
  have B9:=ai ((uh B5).below hb)
  clear H3 K4 B5 hb
  obtain ⟨c10,f11,y12⟩:=uh B9
  have ht':=ht k rfl
  subst ht'
  clear ht
  unfold tokV
  go_wp2_with fail
  have H13:=ai ((uh H6).alloc (.cells #[.int .i64 ((tk T k).kind:Int),.string (tk T k).text,.int .i64 ((tk T k).frm:Int),.int .i64 ((tk T k).to:Int)] 58))
  have K14:=ai ((uh K7).alloc (.cells #[.int .i64 ((tk T k).kind:Int),.string (tk T k).text,.int .i64 ((tk T k).frm:Int),.int .i64 ((tk T k).to:Int)] 58))
  have B15:=ai ((uh B9).alloc (.cells #[.int .i64 ((tk T k).kind:Int),.string (tk T k).text,.int .i64 ((tk T k).frm:Int),.int .i64 ((tk T k).to:Int)] 58))
  have B16:=ai (Bx.at w1 #[.int .i64 ((tk T k).kind:Int),.string (tk T k).text,.int .i64 ((tk T k).frm:Int),.int .i64 ((tk T k).to:Int)] 58 (w1.heap.size) (by simp [World.setCell]))
  clear H6 K7 B9 c10 f11 y12
  refine (ok_S (uh H13)).mono ?_
  rintro e w2 ⟨rfl,rfl⟩
  go_wp2_with fail
  refine (qbr (tk T k) _ sort hs3).mono ?_
  rintro e w3 ⟨rfl,hb⟩
  have H17:=ai ((uh H13).below hb)
  have K18:=ai ((uh K14).below hb)
  have z19:=hb.size
  try simp [World.setCell] at z19
  have B20:=ai ((uh B15).below hb)
  have B21:=ai ((uh B16).below hb)
  clear H13 K14 B15 B16 hb
  obtain ⟨c22,f23,y24⟩:=uh B20
  obtain ⟨c25,f26,y27⟩:=uh B21
  go_wp2_with fail
  have H17:=ai (uh H17)
  have K18:=ai (uh K18)
  have B20:=ai (uh B20)
  have B21:=ai (uh B21)
  clear H17 K18 B20 B21 c22 f23 y24 c25 f26 y27
  refine (qcl (uh H17) h7).mono ?_
  rintro e w4 ⟨rfl,hb,hS⟩
  have H32:=ai hS
  have K33:=ai ((uh K18).trans hb)
  have z34:=hb.size
  try simp [World.setCell] at z34
  have B35:=ai ((uh B20).ke hb (by omega))
  have B36:=ai ((uh B21).ke hb (by omega))
  clear H17 K18 B20 B21 hb hS
  obtain ⟨c37,f38,y39⟩:=uh B35
  obtain ⟨c40,f41,y42⟩:=uh B36
  go_wp2_with fail
  have H32:=ai (uh H32)
  have K33:=ai (uh K33)
  have B35:=ai (uh B35)
  have B36:=ai (uh B36)
  clear H32 K33 B35 B36 c37 f38 y39 c40 f41 y42
  refine (is_S (uh H32) kClose).mono ?_
  rintro e w5 ⟨rfl,hb⟩
  have H47:=ai ((uh H32).below hb)
  have K48:=ai ((uh K33).below hb)
  have z49:=hb.size
  try simp [World.setCell] at z49
  have B50:=ai ((uh B35).below hb)
  have B51:=ai ((uh B36).below hb)
  clear H32 K33 B35 B36 hb
  obtain ⟨c52,f53,y54⟩:=uh B50
  obtain ⟨c55,f56,y57⟩:=uh B51
  go_wp2_with fail
  have H47:=ai (uh H47)
  have K48:=ai (uh K48)
  have B50:=ai (uh B50)
  have B51:=ai (uh B51)
  clear H47 K48 B50 B51 c52 f53 y54 c55 f56 y57
  refine (uh HP' _ _ (uh H47) (by intro j hj;cases hj;omega)).mono ?_
  rintro e w6 ⟨x,rfl,hb,hS,hN⟩
  have H62:=ai hS
  have K63:=ai ((uh K48).trans hb)
  have z64:=hb.size
  try simp [World.setCell] at z64
  have B65:=ai ((uh B50).ke hb (by omega))
  have B66:=ai ((uh B51).ke hb (by omega))
  clear H47 K48 B50 B51 hb hS
  obtain ⟨c67,f68,y69⟩:=uh B65
  obtain ⟨c70,f71,y72⟩:=uh B66
  have hN1:=ai (fun a k2 (hq:part (k+1)=.ok (a,k2))=>(hN _ a k2 rfl hq).rng w5.heap.size (fun b hb=>by simpa using hb))
  clear hN
  unfold NV.v
  go_wp2_with fail
  have H73:=ai (((uh H62).alloc (.cells (nvA x) 62)).alloc (.cells #[.int .i64 0,.string ⟨#[]⟩,.int .i64 0,.slice none 0 0,.int .i64 ((tk T k).frm:Int),.int .i64 0,.int .i64 ((tk T k).frm:Int)] 62))
  have K74:=ai (((uh K63).alloc (.cells (nvA x) 62)).alloc (.cells #[.int .i64 0,.string ⟨#[]⟩,.int .i64 0,.slice none 0 0,.int .i64 ((tk T k).frm:Int),.int .i64 0,.int .i64 ((tk T k).frm:Int)] 62))
  have B75:=ai (((uh B65).alloc (.cells (nvA x) 62)).alloc (.cells #[.int .i64 0,.string ⟨#[]⟩,.int .i64 0,.slice none 0 0,.int .i64 ((tk T k).frm:Int),.int .i64 0,.int .i64 ((tk T k).frm:Int)] 62))
  have B76:=ai (((uh B66).alloc (.cells (nvA x) 62)).alloc (.cells #[.int .i64 0,.string ⟨#[]⟩,.int .i64 0,.slice none 0 0,.int .i64 ((tk T k).frm:Int),.int .i64 0,.int .i64 ((tk T k).frm:Int)] 62))
  have B77:=ai ((Bx.at w6 (nvA x) 62 (w6.heap.size) (by simp [World.setCell])).alloc (.cells #[.int .i64 0,.string ⟨#[]⟩,.int .i64 0,.slice none 0 0,.int .i64 ((tk T k).frm:Int),.int .i64 0,.int .i64 ((tk T k).frm:Int)] 62))
  have B78:=ai (Bx.at (w6.alloc (.cells (nvA x) 62)) #[.int .i64 0,.string ⟨#[]⟩,.int .i64 0,.slice none 0 0,.int .i64 ((tk T k).frm:Int),.int .i64 0,.int .i64 ((tk T k).frm:Int)] 62 (w6.heap.size+1) (by simp [World.setCell]))
  have R79:=ai (fun a k2 hq=>(NR.bel (NR.bel (uh hN1 a k2 hq) (bw (.cells (nvA x) 62))) (bw (.cells #[.int .i64 0,.string ⟨#[]⟩,.int .i64 0,.slice none 0 0,.int .i64 ((tk T k).frm:Int),.int .i64 0,.int .i64 ((tk T k).frm:Int)] 62))))
  clear H62 K63 B65 B66 hN1 c67 f68 y69 c70 f71 y72
  refine (is_S (uh H73) kComma).mono ?_
  rintro e w7 ⟨rfl,hb⟩
  have H80:=ai ((uh H73).below hb)
  have K81:=ai ((uh K74).below hb)
  have z82:=hb.size
  try simp [World.setCell] at z82
  have B83:=ai ((uh B75).below hb)
  have B84:=ai ((uh B76).below hb)
  have B85:=ai ((uh B77).below hb)
  have B86:=ai ((uh B78).below hb)
  have R87:=ai (fun a k2 hq=>NR.bel (uh R79 a k2 hq) hb)
  clear H73 K74 B75 B76 B77 B78 R79 hb
  obtain ⟨c88,f89,y90⟩:=uh B83
  obtain ⟨c91,f92,y93⟩:=uh B84
  obtain ⟨c94,f95,y96⟩:=uh B85
  obtain ⟨c97,f98,y99⟩:=uh B86
  go_wp2_with fail
  have H80:=ai (uh H80)
  have K81:=ai (uh K81)
  have B83:=ai (uh B83)
  have B84:=ai (uh B84)
  have B85:=ai (uh B85)
  have B86:=ai (uh B86)
  clear H80 K81 B83 B84 B85 B86 c88 f89 y90 c91 f92 y93 c94 f95 y96 c97 f98 y99
  refine (is_S (uh H80) qec).mono ?_
  rintro e w7b ⟨rfl,hb⟩
  have H106:=ai ((uh H80).below hb)
  have K107:=ai ((uh K81).below hb)
  have z108:=hb.size
  try simp [World.setCell] at z108
  have B109:=ai ((uh B83).below hb)
  have B110:=ai ((uh B84).below hb)
  have B111:=ai ((uh B85).below hb)
  have B112:=ai ((uh B86).below hb)
  have R113:=ai (fun a k2 hq=>NR.bel (uh R87 a k2 hq) hb)
  clear H80 K81 B83 B84 B85 B86 R87 hb
  obtain ⟨c114,f115,y116⟩:=uh B109
  obtain ⟨c117,f118,y119⟩:=uh B110
  obtain ⟨c120,f121,y122⟩:=uh B111
  obtain ⟨c123,f124,y125⟩:=uh B112
  go_wp2_with fail
  clear c114 f115 y116 c117 f118 y119 c120 f121 y122 c123 f124 y125
  refine (qcb (uh H106) kClose).mono ?_
  rintro e w10 ⟨rfl,hb,hS⟩
  have H132:=ai hS
  have K133:=ai ((uh K107).trans hb)
  have z134:=hb.size
  try simp [World.setCell] at z134
  have B135:=ai ((uh B109).ke hb (by omega))
  have B136:=ai ((uh B110).ke hb (by omega))
  have B137:=ai ((uh B111).ke hb (by omega))
  have B138:=ai ((uh B112).ke hb (by omega))
  have R139:=ai (fun a k2 hq=>NR.ke (uh R113 a k2 hq) hb (fun b hb=>by omega))
  clear H106 K107 B109 B110 B111 B112 R113 hb hS
  obtain ⟨c140,f141,y142⟩:=uh B135
  obtain ⟨c143,f144,y145⟩:=uh B136
  obtain ⟨c146,f147,y148⟩:=uh B137
  obtain ⟨c149,f150,y151⟩:=uh B138
  go_wp2_with fail
  have H152:=ai ((uh H132).st7 (b:=w.heap.size) (by omega) (by omega) x)
  have K153:=ai ((uh K133).st7 (b:=w.heap.size) (by omega) x)
  have B154:=ai ((uh B135).st7 rfl x)
  have B155:=ai ((uh B136).stO7 (b:=w.heap.size) (by omega) x)
  have B156:=ai ((uh B137).stO7 (b:=w.heap.size) (by omega) x)
  have B157:=ai ((uh B138).stO7 (b:=w.heap.size) (by omega) x)
  have R158:=ai (fun a k2 hq=>(NRst7 (uh R139 a k2 hq) (b2:=w.heap.size) (fun b hb _=>by omega) x))
  clear H132 K133 B135 B136 B137 B138 R139 c140 f141 y142 c143 f144 y145 c146 f147 y148 c149 f150 y151
  obtain ⟨cF,fF,zF⟩:=uh B154
  refine bodyPost_ret (v:=NV.v x) (by simp [results,Tryz.results203,go_sem,cF,NV.v];try rfl) rfl ⟨x,rfl,uh K153,uh H152,fun a k2 h3=>?_⟩
  exact (uh R158 a k2 h3).wide _ (fun b hb=>by omega)
theorem small_paren1 {k n:Nat} {part:M Nd} (h:SS w rb g cap T (.ok k)) (sort:Nat) (hs:sort=1) (hf:T.length≤k+(n+1)) (ho:isT (tk T k) qd6=true)
 (HP:NodeC rb g cap T 305 #[.pointer (some ⟨rb,0,none⟩),.int .i64 (sort:Int)] part n) (hk0:isS T (nx (.ok (k+1)) part) kComma=false):
 Calls Tryz.prog 203 #[.pointer (some ⟨rb,0,none⟩),.int .i64 (sort:Int)] w fun e w'=>∃x:NV,e=.returned x.v∧Ke rb w w'∧SS w' rb g cap T (nx (nx (.ok (k+1)) part) (qaf T kClose))∧
  ∀a k2,part (k+1)=.ok (a,k2)→NR w' (fun b=>w.heap.size≤b) a x:=by
 have hb:qah (tk T k) sort=true:=by unfold qah;rw [ho];rfl
 obtain ⟨q5,q⟩:(tk T k).kind=5∧((tk T k).text.toList==[40])=true:=by rw [qdt] at ho;simpa using ho
 have h7:(tk T k).kind≠7:=by omega
 have e5:(((tk T k).kind:Int) !=5)=false:=by rw [q5];rfl
 have hs3:sort=1∨sort=2∨sort=3:=by omega
 have s1:((sort:Int) !=1)=false:=by rw [hs];rfl
 have s3:((sort:Int)==3)=false:=by rw [hs];rfl
 have HP':=ai HP
 clear ho q5 HP
 clear hs
 have hr:=h.hr
 have hg:=h.hg
 have H1:=ai h
 have K2:=ai (Ke.refl rb w)
 clear h
 go_enter Tryz.func203,Tryz.ntmps203
 go_wp2_with fail
 have H3:=ai ((uh H1).alloc (.cells qau 62))
 have K4:=ai ((uh K2).alloc (.cells qau 62))
 have B5:=ai (Bx.at w qau 62 (w.heap.size) (by simp [World.setCell]))
 clear H1 K2
 refine (qb2 (uh H3)).mono ?_
 rintro e w1 ⟨t,rfl,hb,ht⟩
 have H6:=ai ((uh H3).below hb)
 have K7:=ai ((uh K4).below hb)
 have z8:=hb.size
 try simp [World.setCell] at z8
 have B9:=ai ((uh B5).below hb)
 clear H3 K4 B5 hb
 obtain ⟨c10,f11,y12⟩:=uh B9
 have ht':=ht k rfl
 subst ht'
 clear ht
 unfold tokV
 go_wp2_with fail
 have H13:=ai ((uh H6).alloc (.cells #[.int .i64 ((tk T k).kind:Int),.string (tk T k).text,.int .i64 ((tk T k).frm:Int),.int .i64 ((tk T k).to:Int)] 58))
 have K14:=ai ((uh K7).alloc (.cells #[.int .i64 ((tk T k).kind:Int),.string (tk T k).text,.int .i64 ((tk T k).frm:Int),.int .i64 ((tk T k).to:Int)] 58))
 have B15:=ai ((uh B9).alloc (.cells #[.int .i64 ((tk T k).kind:Int),.string (tk T k).text,.int .i64 ((tk T k).frm:Int),.int .i64 ((tk T k).to:Int)] 58))
 have B16:=ai (Bx.at w1 #[.int .i64 ((tk T k).kind:Int),.string (tk T k).text,.int .i64 ((tk T k).frm:Int),.int .i64 ((tk T k).to:Int)] 58 (w1.heap.size) (by simp [World.setCell]))
 clear H6 K7 B9 c10 f11 y12
 refine (ok_S (uh H13)).mono ?_
 rintro e w2 ⟨rfl,rfl⟩
 go_wp2_with fail
 refine (qbr (tk T k) _ sort hs3).mono ?_
 rintro e w3 ⟨rfl,hb⟩
 have H17:=ai ((uh H13).below hb)
 have K18:=ai ((uh K14).below hb)
 have z19:=hb.size
 try simp [World.setCell] at z19
 have B20:=ai ((uh B15).below hb)
 have B21:=ai ((uh B16).below hb)
 clear H13 K14 B15 B16 hb
 obtain ⟨c22,f23,y24⟩:=uh B20
 obtain ⟨c25,f26,y27⟩:=uh B21
 go_wp2_with fail
 clear c22 f23 y24 c25 f26 y27
 refine (qcl (uh H17) h7).mono ?_
 rintro e w4 ⟨rfl,hb,hS⟩
 have H32:=ai hS
 have K33:=ai ((uh K18).trans hb)
 have z34:=hb.size
 try simp [World.setCell] at z34
 have B35:=ai ((uh B20).ke hb (by omega))
 have B36:=ai ((uh B21).ke hb (by omega))
 clear H17 K18 B20 B21 hb hS
 obtain ⟨c37,f38,y39⟩:=uh B35
 obtain ⟨c40,f41,y42⟩:=uh B36
 go_wp2_with fail
 clear c37 f38 y39 c40 f41 y42
 refine (uh HP' _ _ (uh H32) (by intro j hj;cases hj;omega)).mono ?_
 rintro e w6 ⟨x,rfl,hb,hS,hN⟩
 have H47:=ai hS
 have K48:=ai ((uh K33).trans hb)
 have z49:=hb.size
 try simp [World.setCell] at z49
 have B50:=ai ((uh B35).ke hb (by omega))
 have B51:=ai ((uh B36).ke hb (by omega))
 clear H32 K33 B35 B36 hb hS
 obtain ⟨c52,f53,y54⟩:=uh B50
 obtain ⟨c55,f56,y57⟩:=uh B51
 have hN1:=ai (fun a k2 (hq:part (k+1)=.ok (a,k2))=>(hN _ a k2 rfl hq).rng w4.heap.size (fun b hb=>by simpa using hb))
 clear hN
 unfold NV.v
 go_wp2_with fail
 have H58:=ai (((uh H47).alloc (.cells (nvA x) 62)).alloc (.cells #[.int .i64 0,.string ⟨#[]⟩,.int .i64 0,.slice none 0 0,.int .i64 ((tk T k).frm:Int),.int .i64 0,.int .i64 ((tk T k).frm:Int)] 62))
 have K59:=ai (((uh K48).alloc (.cells (nvA x) 62)).alloc (.cells #[.int .i64 0,.string ⟨#[]⟩,.int .i64 0,.slice none 0 0,.int .i64 ((tk T k).frm:Int),.int .i64 0,.int .i64 ((tk T k).frm:Int)] 62))
 have B60:=ai (((uh B50).alloc (.cells (nvA x) 62)).alloc (.cells #[.int .i64 0,.string ⟨#[]⟩,.int .i64 0,.slice none 0 0,.int .i64 ((tk T k).frm:Int),.int .i64 0,.int .i64 ((tk T k).frm:Int)] 62))
 have B61:=ai (((uh B51).alloc (.cells (nvA x) 62)).alloc (.cells #[.int .i64 0,.string ⟨#[]⟩,.int .i64 0,.slice none 0 0,.int .i64 ((tk T k).frm:Int),.int .i64 0,.int .i64 ((tk T k).frm:Int)] 62))
 have B62:=ai ((Bx.at w6 (nvA x) 62 (w6.heap.size) (by simp [World.setCell])).alloc (.cells #[.int .i64 0,.string ⟨#[]⟩,.int .i64 0,.slice none 0 0,.int .i64 ((tk T k).frm:Int),.int .i64 0,.int .i64 ((tk T k).frm:Int)] 62))
 have B63:=ai (Bx.at (w6.alloc (.cells (nvA x) 62)) #[.int .i64 0,.string ⟨#[]⟩,.int .i64 0,.slice none 0 0,.int .i64 ((tk T k).frm:Int),.int .i64 0,.int .i64 ((tk T k).frm:Int)] 62 (w6.heap.size+1) (by simp [World.setCell]))
 have R64:=ai (fun a k2 hq=>(NR.bel (NR.bel (uh hN1 a k2 hq) (bw (.cells (nvA x) 62))) (bw (.cells #[.int .i64 0,.string ⟨#[]⟩,.int .i64 0,.slice none 0 0,.int .i64 ((tk T k).frm:Int),.int .i64 0,.int .i64 ((tk T k).frm:Int)] 62))))
 clear H47 K48 B50 B51 hN1 c52 f53 y54 c55 f56 y57
 refine (is_S (uh H58) kComma).mono ?_
 rintro e w7 ⟨rfl,hb⟩
 have H65:=ai ((uh H58).below hb)
 have K66:=ai ((uh K59).below hb)
 have z67:=hb.size
 try simp [World.setCell] at z67
 have B68:=ai ((uh B60).below hb)
 have B69:=ai ((uh B61).below hb)
 have B70:=ai ((uh B62).below hb)
 have B71:=ai ((uh B63).below hb)
 have R72:=ai (fun a k2 hq=>NR.bel (uh R64 a k2 hq) hb)
 clear H58 K59 B60 B61 B62 B63 R64 hb
 obtain ⟨c73,f74,y75⟩:=uh B68
 obtain ⟨c76,f77,y78⟩:=uh B69
 obtain ⟨c79,f80,y81⟩:=uh B70
 obtain ⟨c82,f83,y84⟩:=uh B71
 go_wp2_with fail
 clear c73 f74 y75 c76 f77 y78 c79 f80 y81 c82 f83 y84
 refine (qcb (uh H65) kClose).mono ?_
 rintro e w10 ⟨rfl,hb,hS⟩
 have H91:=ai hS
 have K92:=ai ((uh K66).trans hb)
 have z93:=hb.size
 try simp [World.setCell] at z93
 have B94:=ai ((uh B68).ke hb (by omega))
 have B95:=ai ((uh B69).ke hb (by omega))
 have B96:=ai ((uh B70).ke hb (by omega))
 have B97:=ai ((uh B71).ke hb (by omega))
 have R98:=ai (fun a k2 hq=>NR.ke (uh R72 a k2 hq) hb (fun b hb=>by omega))
 clear H65 K66 B68 B69 B70 B71 R72 hb hS
 obtain ⟨c99,f100,y101⟩:=uh B94
 obtain ⟨c102,f103,y104⟩:=uh B95
 obtain ⟨c105,f106,y107⟩:=uh B96
 obtain ⟨c108,f109,y110⟩:=uh B97
 go_wp2_with fail
 have H111:=ai ((uh H91).st7 (b:=w.heap.size) (by omega) (by omega) x)
 have K112:=ai ((uh K92).st7 (b:=w.heap.size) (by omega) x)
 have B113:=ai ((uh B94).st7 rfl x)
 have B114:=ai ((uh B95).stO7 (b:=w.heap.size) (by omega) x)
 have B115:=ai ((uh B96).stO7 (b:=w.heap.size) (by omega) x)
 have B116:=ai ((uh B97).stO7 (b:=w.heap.size) (by omega) x)
 have R117:=ai (fun a k2 hq=>(NRst7 (uh R98 a k2 hq) (b2:=w.heap.size) (fun b hb _=>by omega) x))
 clear H91 K92 B94 B95 B96 B97 R98 c99 f100 y101 c102 f103 y104 c105 f106 y107 c108 f109 y110
 obtain ⟨cF,fF,zF⟩:=uh B113
 refine bodyPost_ret (v:=NV.v x) (by simp [results,Tryz.results203,go_sem,cF,NV.v];try rfl) rfl ⟨x,rfl,uh K112,uh H111,fun a k2 h3=>?_⟩
 exact (uh R117 a k2 h3).wide _ (fun b hb=>by omega)
end
end
section
open Go Go.RowKit
section
variable {rb g cap:Nat} {T:List Pu.Tok} {σ:St} {w:World}
theorem qb7 {α β:Type} {m:M α} {f:α→M β} {k k':Nat} {a:α} (h:m k=.ok (a,k')):bnd m f k=f a k':=by simp only [bnd,h]
theorem qb4 {α β:Type} {m:M α} {f:α→M β} {k:Nat} {e:Fl} (h:m k=.error e):bnd m f k=.error e:=by simp only [bnd,h]
theorem small_C {n:Nat} {part typ:M Nd} (sort:Nat) (hs:sort=1∨sort=2∨sort=3)
 (HP:NodeC rb g cap T 305 #[.pointer (some ⟨rb,0,none⟩),.int .i64 (sort:Int)] part n) (HT:sort=3→NodeC rb g cap T 135 #[.pointer (some ⟨rb,0,none⟩)] typ n) (hm:Mono part):
 NodeC rb g cap T 203 #[.pointer (some ⟨rb,0,none⟩),.int .i64 (sort:Int)] (qaj T part typ sort) (n+1):=by
 intro w σ h hf
 cases σ with
 |error fl=>
  refine (small_bad h sort).mono ?_
  rintro e w' ⟨rfl,hK,hS⟩
  exact ⟨_,rfl,hK,hS,fun k a k' hk=>by cases hk⟩
 |ok k=>
  have hf':=hf k rfl
  rcases hb:qah (tk T k) sort with _|_
  ·refine (small_no h sort hs hb).mono ?_
   rintro e w' ⟨rfl,hK,hS⟩
   have hM:qaj T part typ sort k=.error (flOf (tk T k)):=by unfold qaj;rw [hb];rfl
   refine ⟨_,rfl,hK,by rw [qbm hM];exact hS,fun j a k' hj hq=>?_⟩
   cases hj
   rw [hM] at hq
   cases hq
  rcases ho:isT (tk T k) qd6 with _|_
  ·refine (small_leaf h sort hs hb ho).mono ?_
   rintro e w' ⟨rfl,hK,hS⟩
   have hM:qaj T part typ sort k=.ok (qbt (tk T k),k+1):=by unfold qaj;rw [hb,ho];rfl
   refine ⟨⟨(qa0 (tk T k):Int),(tk T k).text,(qa5 (tk T k):Int),none,0,0,((tk T k).frm:Int),((tk T k).to:Int),((tk T k).frm:Int)⟩,rfl,hK,by rw [qat hM];exact hS,fun j a k' hj hq=>?_⟩
   cases hj
   rw [hM] at hq
   cases hq
   exact .leaf _ _ _ _ _ _
  have hG:qaj T part typ sort k=qdj T part typ sort (tk T k).frm (k+1):=by unfold qaj;rw [hb,ho];rfl
  by_cases hu:sort≠1∧isT (tk T (k+1)) kClose=true
  ·refine (small_unit h sort (by omega) ho hu.2).mono ?_
   rintro e w' ⟨rfl,hK,hS⟩
   have hM:qaj T part typ sort k=.ok (.mk 5 kNo 0 [] (tk T k).frm (qal T (k+2)) (tk T k).frm,k+2):=by rw [hG];unfold qdj;rw [if_pos hu]
   refine ⟨⟨5,kNo,0,none,0,0,((tk T k).frm:Int),(qal T (k+2):Int),((tk T k).frm:Int)⟩,rfl,hK,by rw [qat hM];exact hS,fun j a k' hj hq=>?_⟩
   cases hj
   rw [hM] at hq
   cases hq
   exact .leaf _ _ _ _ _ _
  have hG2:qaj T part typ sort k=bnd part (qdc T part typ sort (tk T k).frm) (k+1):=by rw [hG];unfold qdj;rw [if_neg hu]
  have hcl:sort≠1→isT (tk T (k+1)) kClose=false:=fun hs1=>by
   rcases q:isT (tk T (k+1)) kClose with _|_
   ·rfl
   ·exact absurd ⟨hs1,q⟩ hu
  rcases hp:part (k+1) with fl|⟨a,k2⟩
  ·have hM:qaj T part typ sort k=.error fl:=by rw [hG2,qb4 hp]
   have fin:∀e w',(∃x:NV,e=Ending.returned x.v∧Ke rb w w'∧SS w' rb g cap T (nx (nx (.ok (k+1)) part) (qaf T kClose))∧∀a k2,part (k+1)=.ok (a,k2)→NR w' (fun b=>w.heap.size≤b) a x)→
    ∃x:NV,e=Ending.returned x.v∧Ke rb w w'∧SS w' rb g cap T (nx (.ok k) (qaj T part typ sort))∧∀j a k',(Except.ok k:St)=.ok j→qaj T part typ sort j=.ok (a,k')→NR w' (fun b=>w.heap.size≤b) a x:=by
    rintro e w' ⟨x,he,hK,hS,hN⟩
    refine ⟨x,he,hK,by rw [qbm hM];rw [qbm hp] at hS;exact hS,fun j a k' hj hq=>?_⟩
    cases hj
    rw [hM] at hq
    cases hq
   by_cases h1:sort=1
   ·exact (small_paren1 h sort h1 hf' ho HP (by rw [qbm hp];rfl)).mono fin
   ·exact (small_paren h sort (by omega) hf' ho (hcl h1) HP (by rw [qbm hp];rfl) (fun _=>by rw [qbm hp];rfl)).mono fin
  have hG3:qaj T part typ sort k=qdc T part typ sort (tk T k).frm a k2:=by rw [hG2,qb7 hp]
  rcases hc:isT (tk T k2) kComma with _|_
  ·by_cases h3:sort=3∧isT (tk T k2) qec=true
   ·have hG4:qaj T part typ sort k=bnd typ (fun b=>qci T fun k'=>.mk 14 kNo 0 [a,b] (tk T k).frm (qal T k') (tk T k).frm) (k2+1):=by rw [hG3];unfold qdc;rw [if_neg (by simp [hc]),if_pos h3]
    refine (small_colon h sort h3.1 hf' ho (hcl (by omega)) HP (HT h3.1) hm hp hc h3.2).mono ?_
    rintro e w' ⟨x,he,hK,hS,hN⟩
    rcases hq2:typ (k2+1) with fl|⟨b,k3⟩
    ·have hM:qaj T part typ sort k=.error fl:=by rw [hG4,qb4 hq2]
     refine ⟨x,he,hK,by rw [qbm hM];rw [qbm hq2] at hS;exact hS,fun j a k' hj hq=>?_⟩
     cases hj;rw [hM] at hq;cases hq
    ·rcases hq3:qaf T kClose k3 with fl|⟨u,k4⟩
     ·have hM:qaj T part typ sort k=.error fl:=by rw [hG4,qb7 hq2];unfold qci;rw [qb4 hq3]
      refine ⟨x,he,hK,by rw [qbm hM];rw [qat hq2,qbm hq3] at hS;exact hS,fun j a k' hj hq=>?_⟩
      cases hj;rw [hM] at hq;cases hq
     ·have hM:qaj T part typ sort k=.ok (.mk 14 kNo 0 [a,b] (tk T k).frm (qal T k4) (tk T k).frm,k4):=by rw [hG4,qb7 hq2];unfold qci;rw [qb7 hq3]
      refine ⟨x,he,hK,by rw [qat hM];rw [qat hq2,qat hq3] at hS;exact hS,fun j a k' hj hq=>?_⟩
      cases hj;rw [hM] at hq;cases hq
      exact hN b k3 k4 hq2 hq3
   ·have hG4:qaj T part typ sort k=qci T (fun _=>a) k2:=by rw [hG3];unfold qdc;rw [if_neg (by simp [hc]),if_neg h3]
    have fin:∀e w',(∃x:NV,e=Ending.returned x.v∧Ke rb w w'∧SS w' rb g cap T (nx (nx (.ok (k+1)) part) (qaf T kClose))∧∀a k2,part (k+1)=.ok (a,k2)→NR w' (fun b=>w.heap.size≤b) a x)→
     ∃x:NV,e=Ending.returned x.v∧Ke rb w w'∧SS w' rb g cap T (nx (.ok k) (qaj T part typ sort))∧∀j a k',(Except.ok k:St)=.ok j→qaj T part typ sort j=.ok (a,k')→NR w' (fun b=>w.heap.size≤b) a x:=by
     rintro e w' ⟨x,he,hK,hS,hN⟩
     rcases hq3:qaf T kClose k2 with fl|⟨u,k4⟩
     ·have hM:qaj T part typ sort k=.error fl:=by rw [hG4];unfold qci;rw [qb4 hq3]
      refine ⟨x,he,hK,by rw [qbm hM];rw [qat hp,qbm hq3] at hS;exact hS,fun j a k' hj hq=>?_⟩
      cases hj;rw [hM] at hq;cases hq
     ·have hM:qaj T part typ sort k=.ok (a,k4):=by rw [hG4];unfold qci;rw [qb7 hq3]
      refine ⟨x,he,hK,by rw [qat hM];rw [qat hp,qat hq3] at hS;exact hS,fun j a' k' hj hq=>?_⟩
      cases hj;rw [hM] at hq;cases hq
      exact hN a k2 hp
    by_cases h1:sort=1
    ·exact (small_paren1 h sort h1 hf' ho HP (by rw [qat hp];exact hc)).mono fin
    ·exact (small_paren h sort (by omega) hf' ho (hcl h1) HP (by rw [qat hp];exact hc) (fun h3'=>by
      rw [qat hp]
      rcases q:isT (tk T k2) qec with _|_
      ·exact q
      ·exact absurd ⟨h3',q⟩ h3)).mono fin
  ·have hG4:qaj T part typ sort k=bnd part (fun b=>qci T fun k'=>.mk 6 kNo 0 [a,b] (tk T k).frm (qal T k') (tk T k).frm) (k2+1):=by rw [hG3];unfold qdc;rw [if_pos hc]
   have fin:∀e w',(∃x:NV,e=Ending.returned x.v∧Ke rb w w'∧SS w' rb g cap T (nx (nx (.ok (k2+1)) part) (qaf T kClose))∧∀b k3 k4,part (k2+1)=.ok (b,k3)→qaf T kClose k3=.ok ((),k4)→NR w' (fun b=>w.heap.size≤b) (.mk 6 kNo 0 [a,b] (tk T k).frm (qal T k4) (tk T k).frm) x)→
    ∃x:NV,e=Ending.returned x.v∧Ke rb w w'∧SS w' rb g cap T (nx (.ok k) (qaj T part typ sort))∧∀j a k',(Except.ok k:St)=.ok j→qaj T part typ sort j=.ok (a,k')→NR w' (fun b=>w.heap.size≤b) a x:=by
    rintro e w' ⟨x,he,hK,hS,hN⟩
    rcases hq2:part (k2+1) with fl|⟨b,k3⟩
    ·have hM:qaj T part typ sort k=.error fl:=by rw [hG4,qb4 hq2]
     refine ⟨x,he,hK,by rw [qbm hM];rw [qbm hq2] at hS;exact hS,fun j a k' hj hq=>?_⟩
     cases hj;rw [hM] at hq;cases hq
    ·rcases hq3:qaf T kClose k3 with fl|⟨u,k4⟩
     ·have hM:qaj T part typ sort k=.error fl:=by rw [hG4,qb7 hq2];unfold qci;rw [qb4 hq3]
      refine ⟨x,he,hK,by rw [qbm hM];rw [qat hq2,qbm hq3] at hS;exact hS,fun j a k' hj hq=>?_⟩
      cases hj;rw [hM] at hq;cases hq
     ·have hM:qaj T part typ sort k=.ok (.mk 6 kNo 0 [a,b] (tk T k).frm (qal T k4) (tk T k).frm,k4):=by rw [hG4,qb7 hq2];unfold qci;rw [qb7 hq3]
      refine ⟨x,he,hK,by rw [qat hM];rw [qat hq2,qat hq3] at hS;exact hS,fun j a k' hj hq=>?_⟩
      cases hj;rw [hM] at hq;cases hq
      exact hN b k3 k4 hq2 hq3
   by_cases h1:sort=1
   ·exact (small_pair1 h sort h1 hf' ho HP hm hp hc).mono fin
   ·exact (small_pair h sort (by omega) hf' ho (hcl h1) HP hm hp hc).mono fin
end
end
section
open Go Go.RowKit Un
def far (rk:Nat→Nat):Ty→Nat
 |.var n=>rk n+1
 |.con _ _=>0
abbrev zTy:Array Value:=#[.int .i64 0,.string ⟨#[]⟩,.slice none 0 0]
def TV.a (x:TV):Array Value:=#[.int .i64 x.n,.string x.s,.slice x.la x.ll x.lc]
theorem Bx.set3 {w:World} {b:Nat} {C:Array Value} (h:Bx w b C) (hC:C.size=3) (v0 v1 v2:Value):Bx (((w.setCell ⟨b,0,none⟩ v0).setCell ⟨b,1,none⟩ v1).setCell ⟨b,2,none⟩ v2) b #[v0,v1,v2]:=by
 obtain ⟨a0,a1,a2,rfl⟩:∃a0 a1 a2,C=#[a0,a1,a2]:=by
  obtain ⟨l⟩:=C
  match l,hC with
  |[a,b,c],_=>exact ⟨a,b,c,rfl⟩
 exact ((h.setS 0 v0 #[v0,a1,a2] rfl (by simp)).setS 1 v1 #[v0,v1,a2] rfl (by simp)).setS 2 v2 #[v0,v1,v2] rfl (by simp)
theorem _root_.Go.RowKit.Below.drewN {B:Nat} {a w:World} (h:Below B a w) (n:Nat):Below B a (w.drewN n):=⟨h.os,h.tape,h.output,h.size,h.block⟩
theorem Bx.drewN {w:World} {b:Nat} {C:Array Value} (h:Bx w b C) (n:Nat):Bx (w.drewN n) b C:=h.below ((Below.refl _ _).drewN n)
theorem _root_.Go.RowKit.Below.set3 {B:Nat} {a w:World} (h:Below B a w) {b:Nat} (hb:B≤b) (v0 v1 v2:Value):Below B a (((w.setCell ⟨b,0,none⟩ v0).setCell ⟨b,1,none⟩ v1).setCell ⟨b,2,none⟩ v2):=
 ((h.setCell (p:=⟨b,0,none⟩) hb v0).setCell (p:=⟨b,1,none⟩) hb v1).setCell (p:=⟨b,2,none⟩) hb v2
section
variable {w:World} {kb:Nat} {hv iv:Value} {N:Nat} {K:Nat→Option Ty} {P:Nat→Prop} {R:Nat→Ty} {rk:Nat→Nat}
def LookRel (w:World) (P:Nat→Prop) (N:Nat) (R:Nat→Ty) (rk:Nat→Nat) (t0:Ty) (gk:Nat) (wr:World):Prop:=
 ∃t x,Hid (gk=far rk t)∧Below w.heap.size w wr∧Bx wr w.heap.size x.a∧Bx wr (w.heap.size+1) zTy∧TR w P N t x∧Hid (sub R t=sub R t0)
end
end
section
open Go Go.RowKit Un
def parts:Ty→List Ty
 |.var _=>[]
 |.con _ l=>l
theorem TR.parts {w:World} {P:Nat→Prop} {N:Nat} {t:Ty} {x:TV} (h:TR w P N t x):
 x.ll=(parts t).length∧(parts t).length≤1001∧∀i (hi:i<(parts t).length),∃g y,x.la=some ⟨g,0,none⟩∧(g<w.heap.size∧P g)∧at3 w g i y∧TR w P N ((parts t)[i]) y:=by
 cases h with
 |var n=>exact ⟨rfl,by simp [Go.Proofs.YtoceemjbcgmojaaGreatDoor.parts],fun i hi=>by simp [Go.Proofs.YtoceemjbcgmojaaGreatDoor.parts] at hi⟩
 |leaf c hw=>exact ⟨rfl,by simp [Go.Proofs.YtoceemjbcgmojaaGreatDoor.parts],fun i hi=>by simp [Go.Proofs.YtoceemjbcgmojaaGreatDoor.parts] at hi⟩
 |row c L g cap xs hw h0 hL hP hz hc hr=>exact ⟨rfl,hL,fun i hi=>⟨g,xs i,rfl,⟨hz,hP⟩,hc i hi,hr i hi⟩⟩
theorem TR.two {w:World} {P:Nat→Prop} {N:Nat} {t:Ty} {x:TV} (h:TR w P N t x):
 (∃n,t=.var n∧0<n∧n≤N∧x=⟨n,⟨#[]⟩,none,0,0⟩)∨∃c L,t=.con c L∧x.n=0∧x.s=c:=by
 cases h with
 |var n h hN=>exact Or.inl ⟨n,rfl,h,hN,rfl⟩
 |leaf c hw=>exact Or.inr ⟨c,[],rfl,rfl,rfl⟩
 |row c L=>exact Or.inr ⟨c,L,rfl,rfl,rfl⟩
section
variable {kb:Nat} {hv iv:Value} {N:Nat} {K:Nat→Option Ty} {R:Nat→Ty} {rk:Nat→Nat}
def SizeRel (w:World) (R:Nat→Ty) (L:List Ty) (most:Nat) (C:Array Value) (gk:Nat) (v c:Value) (wr:World):Prop:=
 ∃j n:Nat,Hid (gk=L.length-j)∧j≤L.length∧c=.int .i64 (j:Int)∧v=.int .i64 (n:Int)∧n≤most+1∧Hid (n=min (1+sizeL (subL R (L.take j))) (most+1))∧Below w.heap.size w wr∧Bx wr w.heap.size C
end
end
section
open Go Go.RowKit Un
section
variable {kb:Nat} {hv iv:Value} {N:Nat} {K:Nat→Option Ty} {R:Nat→Ty} {rk:Nat→Nat}
def InRel (w:World) (R:Nat→Ty) (L:List Ty) (v:Nat) (C:Array Value) (gk:Nat) (c:Value) (wr:World):Prop:=
 ∃j:Nat,Hid (gk=L.length-j)∧j≤L.length∧c=.int .i64 (j:Int)∧(∀i (h:i<L.length),i<j→¬Occ v (sub R L[i]))∧Below w.heap.size w wr∧Bx wr w.heap.size C
open Classical in
end
end
end Go.Proofs.YtoceemjbcgmojaaGreatDoor

import Derived.Lib.ConvBytes
import Derived.Test.YtoceemjbcgmojaaGreatDoorQXb
set_option linter.all false
set_option maxRecDepth 100000
set_option maxHeartbeats 2000000
namespace Go.Proofs.YtoceemjbcgmojaaGreatDoor
section
open Go Go.RowKit
theorem below_bytes(w:World)(e:TypeId)(s:BA):Below w.heap.size w (Lib.bytesWorld w e s):=by
 refine⟨?_,?_,?_,by rw[Lib.bytesWorld_size];omega,fun b hb=>Lib.bytesWorld_at_old w e s b hb⟩
 all_goals(simp[Lib.bytesWorld,World.freeze];try rfl)
section
variable {w:World}
theorem iatoi_C(s:BA)(h:DigN s):Calls Tryz.prog 370 #[.string s] w fun e w'=>e=.returned (.tuple #[.int .i64 (numB s:Int),.nilIface])/\Below w.heap.size w w':=by
 obtain⟨h0,h9,hd⟩:=h
 have hcv:=Lib.run_convert_string_bytes (P:=Tryz.prog) w 9 132 5 s Tryz.underlying9 Tryz.underlying132 Tryz.underlying5
 have hb:=below_bytes w 5 s
 have hcell:=fun j hj=>Lib.bytesWorld_cell w 5 s j hj
 have l0:(0:Int)<(s.size:Int):=by omega
 have l1:(s.size:Int)<19:=by omega
 have a0:=hd 0 h0
 rw[Pu.at_lt h0]at a0
 simp only[Pu.digB,Bool.and_eq_true,Nat.ble_eq]at a0
 have e1:((s[0].toNat:Int)==45)=false:=by simp;omega
 have e2:((s[0].toNat:Int)==43)=false:=by simp;omega
 generalize Lib.bytesWorld w 5 s=W at hcv hb hcell
 generalize grownCap w s.size 0 5=C at hcv
 go_enter Tryz.func370,Tryz.ntmps370
 go_wp2_with fail
 go_loop[6,49] (fun n i=>∃k:Nat,k<=s.size/\i=.int .i64 (k:Int)/\n=.int .i64 (numF s k:Int)) (fun _ i=>s.size-(intOf i).toNat)
 case atStart=>exact⟨0,by omega,rfl,rfl⟩
 case round=>
  obtain⟨k,h1,rfl,rfl⟩:=hrel
  have hn:=numF_le s k (by omega)
  by_cases ha:k<s.size
  .have hc:=hcell k ha
   have dk:=hd k ha
   have ek:s.data.toList.getD k 0=s[k]:=by
    rw[List.getD_eq_getElem?_getD,List.getElem?_eq_getElem (by simpa using ha)];rfl
   rw[ek]at hc
   rw[Pu.at_lt ha]at dk
   simp only[Pu.digB,Bool.and_eq_true,Nat.ble_eq]at dk
   have hlt:(k:Int)<(s.size:Int):=by omega
   clear hcell
   go_wp2
   refine⟨⟨k+1,by omega,by go_num,congrArg (Value.int .i64) ?_⟩,by simp[intOf];omega⟩
   simp only[numF,Pu.at_lt ha]
   omega
  .have hlt:decide ((k:Int)<(s.size:Int))=false:=by simp;omega
   clear hcell
   go_wp2
   go_ret2
   have ek:k=s.size:=by omega
   refine⟨?_,hb⟩
   show Ending.returned (.tuple #[.int .i64 (numF s k:Int),.nilIface])=_
   unfold numB
   rw[show min s.size 9=k by omega]
theorem errNil(w:World):(binOp .neq 377 .nilIface .nilIface).run Tryz.prog w=.ok (.bool false) w:=by kernel_rfl
theorem atoi_C(s:BA)(h:DigN s):Calls Tryz.prog 343 #[.string s] w fun e w'=>e=.returned (.tuple #[.int .i64 (numB s:Int),.nilIface])/\Below w.heap.size w w':=by
 have HC:=iatoi_C (w:=w) s h
 have hn:=errNil
 go_enter Tryz.func343,Tryz.ntmps343
 go_wp2_with fail
 refine HC.mono ?_
 rintro e w1⟨rfl,hb⟩
 clear HC
 go_wp2_with fail
 go_ret2
 exact⟨rfl,hb⟩
end
end
section
open Go Go.RowKit Go.ChangeMaps
section
variable {w:World} {N rb sb:Nat} {m:MV} {s:BA} {k:Nat}
theorem SX.set(h:SX w N rb sb m s k){b:Nat}(hb:N<=b)(j:Nat)(v:Value):SX (w.setCell ⟨b,j,none⟩ v) N rb sb m s k:=
 h.move (by simp[World.setCell]) fun c hc=>Below.heap_setCell _ _ _ _ (by show c≠b;omega)
theorem SX.set3(h:SX w N rb sb m s k){b:Nat}(hb:N<=b)(v0 v1 v2:Value):SX (((w.setCell ⟨b,0,none⟩ v0).setCell ⟨b,1,none⟩ v1).setCell ⟨b,2,none⟩ v2) N rb sb m s k:=((h.set hb 0 v0).set hb 1 v1).set hb 2 v2
theorem next_X(h:SX w N rb sb m s k)(hs:s.size<=1000)(h7:(tk (Pu.toks s 0) k).kind≠7):Calls Tryz.prog 191 #[rp rb] w (RuleX (Is (tkA (tk (Pu.toks s 0) k))) N rb sb m s (.ok ((),k+1)) w):=
 (next_C h.rd hs (tk_to s k h.lt)).mono fun e w' hp=>by
  have hp':StepPost rb sb m s (tk (Pu.toks s 0) k) (qbo (tk (Pu.toks s 0) k)) w e w':=hp
  exact hp'.x (R:=Is (tkA (tk (Pu.toks s 0) k))) h h7 rfl
theorem takeNum_X(h:SX w N rb sb m s k)(hs:s.size<=1000)(h4:(tk (Pu.toks s 0) k).kind=4):Calls Tryz.prog 108 #[rp rb,.string kNum] w (RuleX (Is (tkA (tk (Pu.toks s 0) k))) N rb sb m s (.ok ((),k+1)) w):=by
 have hk:=kind_num (qdb s k h.lt) h.ok
 rw[h4]at hk
 refine(qdx h.rd hs (tk_to s k h.lt) kNum (by simpa using hk)).mono fun e w' hp=>?_
 have hp':StepPost rb sb m s (tk (Pu.toks s 0) k) (qbo (tk (Pu.toks s 0) k)) w e w':=hp
 exact hp'.x (R:=Is (tkA (tk (Pu.toks s 0) k))) h (by omega) rfl
theorem qex{T:List Pu.Tok}{n k:Nat}(h:(tk T k).kind=n):qa7 T n k=.ok (tk T k,k+1):=by unfold qa7;rw[if_pos (by simp[h])]
theorem qek{T:List Pu.Tok}{k:Nat}(c:Nat)(h:qa6 (tk T k)=c):qb3 (tk T k)=.mk c (tk T k).text (qa9 (tk T k)) [] (tk T k).frm (tk T k).to (tk T k).frm:=by unfold qb3;rw[h]
theorem lowName_X(h:SX w N rb sb m s k)(hs:s.size<=1000):Calls Tryz.prog 263 #[rp rb] w (RuleX IsName N rb sb m s (qa7 (Pu.toks s 0) 1 k) w):=by
 have hz:=h.z
 have hN:=h.ev.hN
 have b0:Below w.heap.size w (w.alloc (.cells zNm 466)):=bw _
 have B0:=ai (Bx.new w zNm 466)
 have HC:=name_X (h.bel b0) hs 1 kLow (Or.inl ⟨rfl,rfl⟩)
 go_enter Tryz.func263,Tryz.ntmps263
 go_wp2_with fail
 refine HC.mono ?_
 intro e w1 hp
 cases hA:fin (Pu.toks s 0) (qa7 (Pu.toks s 0) 1 k)with
 |error f=>
  obtain⟨rfl,hb⟩:=hp.bad hA
  exact⟨rfl,RuleX.fail ((Ke.of b0).trans hb) hA⟩
 |ok r=>
 obtain⟨t,k1⟩:=r
 obtain⟨v,rfl,hb,hS,hR⟩:=hp.ok hA
 cases hR
 have B1:=ai (((uh B0).ke' hb (by omega)).alloc (.cells #[.int .i64 (t.frm:Int),.int .i64 (t.to:Int),.string t.text] 214))
 have K1:=ai (((Ke.of b0).trans hb).below' (bw (.cells #[.int .i64 (t.frm:Int),.int .i64 (t.to:Int),.string t.text] 214)))
 have S1:=ai (hS.bel (bw (.cells #[.int .i64 (t.frm:Int),.int .i64 (t.to:Int),.string t.text] 214)))
 have hlt:=hb.size
 simp at hlt
 obtain⟨c,f,z⟩:=uh B1
 clear hp hb hS
 go_wp2_with fail
 obtain⟨cF,fF,zF⟩:=(uh B1).set3' rfl (.int .i64 (t.frm:Int)) (.int .i64 (t.to:Int)) (.string t.text)
 exact bodyPost_ret (v:=nmA t) (by simp[results,Tryz.results263,go_sem,cF]) rfl (RuleX.done (qal hA).1 ((uh K1).setNew3 (br _) _ _ _) ((uh S1).set3 hN _ _ _) rfl)
theorem upName_X(h:SX w N rb sb m s k)(hs:s.size<=1000)(hk:(tk (Pu.toks s 0) k).kind=2):Calls Tryz.prog 264 #[rp rb] w (RuleX PE N rb sb m s (.ok (qb3 (tk (Pu.toks s 0) k),k+1)) w):=by
 have hi:=tk_in s k h.lt
 have ho:=qdb s k h.lt
 have HC:=name_X h hs 2 kUp (Or.inr ⟨rfl,rfl⟩)
 have hf1:=qe6
 go_enter Tryz.func264,Tryz.ntmps264
 go_wp2_with fail
 refine HC.mono ?_
 intro e w1 hp
 have hm:qa7 (Pu.toks s 0) 2 k=.ok (tk (Pu.toks s 0) k,k+1):=qex hk
 rw[hm]at hp
 by_cases h6:(tk (Pu.toks s 0) (k+1)).kind=6
 .obtain⟨rfl,hb⟩:=hp.bad (qa0 _ h6)
  exact⟨rfl,RuleX.fail hb (qa0 _ h6)⟩
 obtain⟨v,rfl,hb,hS,hR⟩:=hp.ok (fin_ok' _ h6)
 cases hR
 have K1:=ai (hb.below' (bw (.cells #[.int .i64 ((tk (Pu.toks s 0) k).frm:Int),.int .i64 ((tk (Pu.toks s 0) k).to:Int),.string (tk (Pu.toks s 0) k).text] 214)))
 have S1:=ai (hS.bel (bw (.cells #[.int .i64 ((tk (Pu.toks s 0) k).frm:Int),.int .i64 ((tk (Pu.toks s 0) k).to:Int),.string (tk (Pu.toks s 0) k).text] 214)))
 clear hp hb hS HC
 go_wp2_with fail
 go_ret
 refine RuleX.done rfl (uh K1) (uh S1) ?_
 rw[qek 2 (by unfold qa6;simp[hk])]
 exact .up _ _ _ _ _ (ho.v2 hk)
theorem bareMaker_X(h:SX w N rb sb m s k)(hs:s.size<=1000)(hk:(tk (Pu.toks s 0) k).kind=2):Calls Tryz.prog 273 #[rp rb] w (RuleX PP N rb sb m s (.ok (qb3 (tk (Pu.toks s 0) k),k+1)) w):=by
 have hi:=tk_in s k h.lt
 have ho:=qdb s k h.lt
 have HC:=name_X h hs 2 kUp (Or.inr ⟨rfl,rfl⟩)
 have hf1:=qe6
 go_enter Tryz.func273,Tryz.ntmps273
 go_wp2_with fail
 refine HC.mono ?_
 intro e w1 hp
 have hm:qa7 (Pu.toks s 0) 2 k=.ok (tk (Pu.toks s 0) k,k+1):=qex hk
 rw[hm]at hp
 by_cases h6:(tk (Pu.toks s 0) (k+1)).kind=6
 .obtain⟨rfl,hb⟩:=hp.bad (qa0 _ h6)
  exact⟨rfl,RuleX.fail hb (qa0 _ h6)⟩
 obtain⟨v,rfl,hb,hS,hR⟩:=hp.ok (fin_ok' _ h6)
 cases hR
 have K1:=ai (hb.below' (bw (.cells #[.int .i64 ((tk (Pu.toks s 0) k).frm:Int),.int .i64 ((tk (Pu.toks s 0) k).to:Int),.string (tk (Pu.toks s 0) k).text] 214)))
 have S1:=ai (hS.bel (bw (.cells #[.int .i64 ((tk (Pu.toks s 0) k).frm:Int),.int .i64 ((tk (Pu.toks s 0) k).to:Int),.string (tk (Pu.toks s 0) k).text] 214)))
 clear hp hb hS HC
 go_wp2_with fail
 go_ret
 refine RuleX.done rfl (uh K1) (uh S1) ?_
 rw[qek 2 (by unfold qa6;simp[hk])]
 exact .up _ _ [] _ _ _ _ none 0 (fun _=>.nilIface) (ho.v2 hk) hi.sp (Or.inl rfl) (fun i hi=>by simp at hi)
theorem anything_X(h:SX w N rb sb m s k)(hs:s.size<=1000)(hk:isT (tk (Pu.toks s 0) k) kAny=true):Calls Tryz.prog 271 #[rp rb] w (RuleX PP N rb sb m s (.ok (qb3 (tk (Pu.toks s 0) k),k+1)) w):=by
 have hi:=tk_in s k h.lt
 have ho:=qdb s k h.lt
 have HC:=qcg h hs kAny (by decide)
 have hf1:=qe6
 go_enter Tryz.func271,Tryz.ntmps271
 go_wp2_with fail
 refine HC.mono ?_
 intro e w1 hp
 have hm:qag (Pu.toks s 0) kAny k=.ok ((),k+1):=by unfold qag;rw[if_pos hk]
 rw[hm]at hp
 by_cases h6:(tk (Pu.toks s 0) (k+1)).kind=6
 .obtain⟨rfl,hb⟩:=hp.bad (qa0 _ h6)
  exact⟨rfl,RuleX.fail hb (qa0 _ h6)⟩
 obtain⟨v,rfl,hb,hS,hR⟩:=hp.ok (fin_ok' _ h6)
 cases hR
 have K1:=ai hb
 have S1:=ai hS
 clear hp hb hS HC
 go_wp2_with fail
 go_ret
 refine RuleX.done rfl (uh K1) (uh S1) ?_
 have h5:=qbe hk
 rw[qek 15 (by unfold qa6;rw[if_neg (by omega),if_neg (by omega),if_neg (by omega),if_neg (by omega),if_neg (by rw[qft,qff];rw[isT_any]at hk;simp at hk;simp[hk.2]),if_pos hk])]
 exact .any _ _ _ _ _
theorem truth_X(h:SX w N rb sb m s k)(hs:s.size<=1000)(hk:isT (tk (Pu.toks s 0) k) kTrue=true\/isT (tk (Pu.toks s 0) k) kFalse=true):Calls Tryz.prog 268 #[rp rb] w (RuleX (Is (.agg #[.int .i64 ((tk (Pu.toks s 0) k).frm:Int),.int .i64 ((tk (Pu.toks s 0) k).to:Int),.bool ((qaj (tk (Pu.toks s 0) k)).toList==[116,114,117,101])])) N rb sb m s (.ok ((),k+1)) w):=by
 have hz:=h.z
 have hN:=h.ev.hN
 have hi:=tk_in s k h.lt
 have b0:Below w.heap.size w (w.alloc (.cells #[.int .i64 0,.int .i64 0,.bool false] 426)):=bw _
 have B0:=ai (Bx.new w #[.int .i64 0,.int .i64 0,.bool false] 426)
 have HC:=next_X (h.bel b0) hs (by rcases hk with hk|hk<;>exact isT_7 hk)
 go_enter Tryz.func268,Tryz.ntmps268
 go_wp2_with fail
 refine HC.mono ?_
 intro e w1 hp
 by_cases h6:(tk (Pu.toks s 0) (k+1)).kind=6
 .obtain⟨rfl,hb⟩:=hp.bad (qa0 _ h6)
  exact⟨rfl,RuleX.fail ((Ke.of b0).trans hb) (qa0 _ h6)⟩
 obtain⟨v,rfl,hb,hS,hR⟩:=hp.ok (fin_ok' _ h6)
 cases hR
 have B1:=ai (((uh B0).ke' hb (by omega)).alloc (.cells #[.int .i64 ((tk (Pu.toks s 0) k).frm:Int),.int .i64 ((tk (Pu.toks s 0) k).to:Int),.string (qaj (tk (Pu.toks s 0) k)),.string (tk (Pu.toks s 0) k).text] 236))
 have B2:=ai (Bx.new w1 #[.int .i64 ((tk (Pu.toks s 0) k).frm:Int),.int .i64 ((tk (Pu.toks s 0) k).to:Int),.string (qaj (tk (Pu.toks s 0) k)),.string (tk (Pu.toks s 0) k).text] 236)
 have K1:=ai (((Ke.of b0).trans hb).below' (bw (.cells #[.int .i64 ((tk (Pu.toks s 0) k).frm:Int),.int .i64 ((tk (Pu.toks s 0) k).to:Int),.string (qaj (tk (Pu.toks s 0) k)),.string (tk (Pu.toks s 0) k).text] 236)))
 have S1:=ai (hS.bel (bw (.cells #[.int .i64 ((tk (Pu.toks s 0) k).frm:Int),.int .i64 ((tk (Pu.toks s 0) k).to:Int),.string (qaj (tk (Pu.toks s 0) k)),.string (tk (Pu.toks s 0) k).text] 236)))
 have hlt:=hb.size
 simp at hlt
 obtain⟨c,f,z⟩:=uh B1
 clear hp hb hS HC
 go_wp2_with fail
 obtain⟨cF,fF,zF⟩:=(uh B1).set3' rfl (.int .i64 ((tk (Pu.toks s 0) k).frm:Int)) (.int .i64 ((tk (Pu.toks s 0) k).to:Int)) (.bool ((qaj (tk (Pu.toks s 0) k)).toList==[116,114,117,101]))
 exact bodyPost_ret (v:=.agg #[.int .i64 ((tk (Pu.toks s 0) k).frm:Int),.int .i64 ((tk (Pu.toks s 0) k).to:Int),.bool ((qaj (tk (Pu.toks s 0) k)).toList==[116,114,117,101])]) (by simp[results,Tryz.results268,go_sem,cF]) rfl (RuleX.done rfl ((uh K1).setNew3 (br _) _ _ _) ((uh S1).set3 hN _ _ _) rfl)
theorem number_X(h:SX w N rb sb m s k)(hs:s.size<=1000)(hk:(tk (Pu.toks s 0) k).kind=4):Calls Tryz.prog 266 #[rp rb] w (RuleX (Is (.agg #[.int .i64 ((tk (Pu.toks s 0) k).frm:Int),.int .i64 ((tk (Pu.toks s 0) k).to:Int),.int .i64 (numB (tk (Pu.toks s 0) k).text:Int)])) N rb sb m s (.ok ((),k+1)) w):=by
 have hz:=h.z
 have hN:=h.ev.hN
 have hi:=tk_in s k h.lt
 have b0:Below w.heap.size w (w.alloc (.cells #[.int .i64 0,.int .i64 0,.int .i64 0] 431)):=bw _
 have B0:=ai (Bx.new w #[.int .i64 0,.int .i64 0,.int .i64 0] 431)
 have HC:=takeNum_X (h.bel b0) hs hk
 go_enter Tryz.func266,Tryz.ntmps266
 go_wp2_with fail
 refine HC.mono ?_
 intro e w1 hp
 by_cases h6:(tk (Pu.toks s 0) (k+1)).kind=6
 .obtain⟨rfl,hb⟩:=hp.bad (qa0 _ h6)
  exact⟨rfl,RuleX.fail ((Ke.of b0).trans hb) (qa0 _ h6)⟩
 obtain⟨v,rfl,hb,hS,hR⟩:=hp.ok (fin_ok' _ h6)
 cases hR
 have B1:=ai (((uh B0).ke' hb (by omega)).alloc (.cells #[.int .i64 ((tk (Pu.toks s 0) k).frm:Int),.int .i64 ((tk (Pu.toks s 0) k).to:Int),.string (qaj (tk (Pu.toks s 0) k)),.string (tk (Pu.toks s 0) k).text] 236))
 have B2:=ai (Bx.new w1 #[.int .i64 ((tk (Pu.toks s 0) k).frm:Int),.int .i64 ((tk (Pu.toks s 0) k).to:Int),.string (qaj (tk (Pu.toks s 0) k)),.string (tk (Pu.toks s 0) k).text] 236)
 have K1:=ai (((Ke.of b0).trans hb).below' (bw (.cells #[.int .i64 ((tk (Pu.toks s 0) k).frm:Int),.int .i64 ((tk (Pu.toks s 0) k).to:Int),.string (qaj (tk (Pu.toks s 0) k)),.string (tk (Pu.toks s 0) k).text] 236)))
 have S1:=ai (hS.bel (bw (.cells #[.int .i64 ((tk (Pu.toks s 0) k).frm:Int),.int .i64 ((tk (Pu.toks s 0) k).to:Int),.string (qaj (tk (Pu.toks s 0) k)),.string (tk (Pu.toks s 0) k).text] 236)))
 have hlt:=hb.size
 simp at hlt
 obtain⟨c,f,z⟩:=uh B1
 clear hp hb hS HC
 obtain⟨c2,f2,z2⟩:=uh B2
 go_wp2_with fail
 refine(atoi_C _ (hi.v4 hk)).mono ?_
 rintro e w2⟨rfl,hb⟩
 have B1:=ai ((uh B1).below hb)
 have B2:=ai ((uh B2).below hb)
 have K1:=ai ((uh K1).below' hb)
 have S1:=ai ((uh S1).bel hb)
 clear c f z c2 f2 z2 hb
 obtain⟨c,f,z⟩:=uh B1
 obtain⟨c2,f2,z2⟩:=uh B2
 go_wp2_with fail
 obtain⟨cF,fF,zF⟩:=(uh B1).set3' rfl (.int .i64 ((tk (Pu.toks s 0) k).frm:Int)) (.int .i64 ((tk (Pu.toks s 0) k).to:Int)) (.int .i64 (numB (tk (Pu.toks s 0) k).text:Int))
 exact bodyPost_ret (v:=.agg #[.int .i64 ((tk (Pu.toks s 0) k).frm:Int),.int .i64 ((tk (Pu.toks s 0) k).to:Int),.int .i64 (numB (tk (Pu.toks s 0) k).text:Int)]) (by simp[results,Tryz.results266,go_sem,cF]) rfl (RuleX.done rfl ((uh K1).setNew3 (br _) _ _ _) ((uh S1).set3 hN _ _ _) rfl)
end
end
section
open Go Go.RowKit Go.ChangeMaps
section
variable {w:World} {N rb sb:Nat} {m:MV} {s:BA} {k:Nat}
theorem leafK_4{t:Pu.Tok}(h:isT t kTrue=true\/isT t kFalse=true):qa6 t=4:=by
 have h5:t.kind=5:=by rcases h with h|h<;>exact qbe h
 unfold qa6
 rw[if_neg (by omega),if_neg (by omega),if_neg (by omega),if_neg (by omega),if_pos h]
theorem word_of{t:Pu.Tok}(h:isT t kTrue=true\/isT t kFalse=true):t.text.toList=kTrue.toList\/t.text.toList=kFalse.toList:=by
 rcases h with h|h
 .left;unfold isT at h;simp only[Bool.and_eq_true,beq_iff_eq]at h;exact h.2
 .right;unfold isT at h;simp only[Bool.and_eq_true,beq_iff_eq]at h;exact h.2
theorem atomLow_X(h:SX w N rb sb m s k)(hs:s.size<=1000)(hk:(tk (Pu.toks s 0) k).kind=1)(x:Nat)(hx:Bx w x #[rp rb]):Calls Tryz.prog 262 #[.pointer (some ⟨x,0,none⟩)] w (RuleX PE N rb sb m s (.ok (qb3 (tk (Pu.toks s 0) k),k+1)) w):=by
 have hi:=tk_in s k h.lt
 have HC:=lowName_X h hs
 obtain⟨c0,f0,z0⟩:=hx
 go_enter Tryz.func262,Tryz.ntmps262
 go_wp2_with fail
 refine HC.mono ?_
 intro e w1 hp
 rw[qex hk]at hp
 by_cases h6:(tk (Pu.toks s 0) (k+1)).kind=6
 .obtain⟨rfl,hb⟩:=hp.bad (qa0 _ h6)
  exact⟨rfl,RuleX.fail hb (qa0 _ h6)⟩
 obtain⟨v,rfl,hb,hS,hR⟩:=hp.ok (fin_ok' _ h6)
 cases hR
 have K1:=ai hb
 have S1:=ai hS
 clear hp hb hS HC c0 f0 z0
 go_wp2_with fail
 go_ret
 refine RuleX.done rfl (uh K1) (uh S1) ?_
 rw[qek 1 (by unfold qa6;simp[hk])]
 exact .low _ _ _ _ _ (hi.v1 hk)
theorem atomNum_X(h:SX w N rb sb m s k)(hs:s.size<=1000)(hk:(tk (Pu.toks s 0) k).kind=4)(x:Nat)(hx:Bx w x #[rp rb]):Calls Tryz.prog 265 #[.pointer (some ⟨x,0,none⟩)] w (RuleX PE N rb sb m s (.ok (qb3 (tk (Pu.toks s 0) k),k+1)) w):=by
 have hi:=tk_in s k h.lt
 have HC:=number_X h hs hk
 obtain⟨c0,f0,z0⟩:=hx
 go_enter Tryz.func265,Tryz.ntmps265
 go_wp2_with fail
 refine HC.mono ?_
 intro e w1 hp
 by_cases h6:(tk (Pu.toks s 0) (k+1)).kind=6
 .obtain⟨rfl,hb⟩:=hp.bad (qa0 _ h6)
  exact⟨rfl,RuleX.fail hb (qa0 _ h6)⟩
 obtain⟨v,rfl,hb,hS,hR⟩:=hp.ok (fin_ok' _ h6)
 cases hR
 have K1:=ai hb
 have S1:=ai hS
 clear hp hb hS HC c0 f0 z0
 go_wp2_with fail
 go_ret
 refine RuleX.done rfl (uh K1) (uh S1) ?_
 rw[qek 3 (by unfold qa6;simp[hk]),show qa9 (tk (Pu.toks s 0) k)=numB (tk (Pu.toks s 0) k).text by unfold qa9;simp[hk]]
 exact .num _ _ _ _ _
theorem atomWord3_X(h:SX w N rb sb m s k)(hs:s.size<=1000)(hk:isT (tk (Pu.toks s 0) k) kTrue=true\/isT (tk (Pu.toks s 0) k) kFalse=true)(x:Nat)(hx:Bx w x #[rp rb]):Calls Tryz.prog 267 #[.pointer (some ⟨x,0,none⟩)] w (RuleX PE N rb sb m s (.ok (qb3 (tk (Pu.toks s 0) k),k+1)) w):=by
 have hi:=tk_in s k h.lt
 have HC:=truth_X h hs hk
 obtain⟨c0,f0,z0⟩:=hx
 go_enter Tryz.func267,Tryz.ntmps267
 go_wp2_with fail
 refine HC.mono ?_
 intro e w1 hp
 by_cases h6:(tk (Pu.toks s 0) (k+1)).kind=6
 .obtain⟨rfl,hb⟩:=hp.bad (qa0 _ h6)
  exact⟨rfl,RuleX.fail hb (qa0 _ h6)⟩
 obtain⟨v,rfl,hb,hS,hR⟩:=hp.ok (fin_ok' _ h6)
 cases hR
 have K1:=ai hb
 have S1:=ai hS
 clear hp hb hS HC c0 f0 z0
 go_wp2_with fail
 go_ret
 refine RuleX.done rfl (uh K1) (uh S1) ?_
 rw[qek 4 (leafK_4 hk),qdi (by rcases hk with hk|hk<;>exact qbe hk)]
 exact .word _ _ _ _ _ (word_of hk)
theorem atomWord4_X(h:SX w N rb sb m s k)(hs:s.size<=1000)(hk:isT (tk (Pu.toks s 0) k) kTrue=true\/isT (tk (Pu.toks s 0) k) kFalse=true)(x:Nat)(hx:Bx w x #[rp rb]):Calls Tryz.prog 269 #[.pointer (some ⟨x,0,none⟩)] w (RuleX PE N rb sb m s (.ok (qb3 (tk (Pu.toks s 0) k),k+1)) w):=by
 have hi:=tk_in s k h.lt
 have HC:=truth_X h hs hk
 obtain⟨c0,f0,z0⟩:=hx
 go_enter Tryz.func269,Tryz.ntmps269
 go_wp2_with fail
 refine HC.mono ?_
 intro e w1 hp
 by_cases h6:(tk (Pu.toks s 0) (k+1)).kind=6
 .obtain⟨rfl,hb⟩:=hp.bad (qa0 _ h6)
  exact⟨rfl,RuleX.fail hb (qa0 _ h6)⟩
 obtain⟨v,rfl,hb,hS,hR⟩:=hp.ok (fin_ok' _ h6)
 cases hR
 have K1:=ai hb
 have S1:=ai hS
 clear hp hb hS HC c0 f0 z0
 go_wp2_with fail
 go_ret
 refine RuleX.done rfl (uh K1) (uh S1) ?_
 rw[qek 4 (leafK_4 hk),qdi (by rcases hk with hk|hk<;>exact qbe hk)]
 exact .word _ _ _ _ _ (word_of hk)
theorem plainLow_X(h:SX w N rb sb m s k)(hs:s.size<=1000)(hk:(tk (Pu.toks s 0) k).kind=1)(x:Nat)(hx:Bx w x #[rp rb]):Calls Tryz.prog 272 #[.pointer (some ⟨x,0,none⟩)] w (RuleX PP N rb sb m s (.ok (qb3 (tk (Pu.toks s 0) k),k+1)) w):=by
 have hi:=tk_in s k h.lt
 have HC:=lowName_X h hs
 obtain⟨c0,f0,z0⟩:=hx
 go_enter Tryz.func272,Tryz.ntmps272
 go_wp2_with fail
 refine HC.mono ?_
 intro e w1 hp
 rw[qex hk]at hp
 by_cases h6:(tk (Pu.toks s 0) (k+1)).kind=6
 .obtain⟨rfl,hb⟩:=hp.bad (qa0 _ h6)
  exact⟨rfl,RuleX.fail hb (qa0 _ h6)⟩
 obtain⟨v,rfl,hb,hS,hR⟩:=hp.ok (fin_ok' _ h6)
 cases hR
 have K1:=ai hb
 have S1:=ai hS
 clear hp hb hS HC c0 f0 z0
 go_wp2_with fail
 go_ret
 refine RuleX.done rfl (uh K1) (uh S1) ?_
 rw[qek 1 (by unfold qa6;simp[hk])]
 exact .low _ _ _ _ _ (hi.v1 hk)
theorem plainNum_X(h:SX w N rb sb m s k)(hs:s.size<=1000)(hk:(tk (Pu.toks s 0) k).kind=4)(x:Nat)(hx:Bx w x #[rp rb]):Calls Tryz.prog 274 #[.pointer (some ⟨x,0,none⟩)] w (RuleX PP N rb sb m s (.ok (qb3 (tk (Pu.toks s 0) k),k+1)) w):=by
 have hi:=tk_in s k h.lt
 have HC:=number_X h hs hk
 obtain⟨c0,f0,z0⟩:=hx
 go_enter Tryz.func274,Tryz.ntmps274
 go_wp2_with fail
 refine HC.mono ?_
 intro e w1 hp
 by_cases h6:(tk (Pu.toks s 0) (k+1)).kind=6
 .obtain⟨rfl,hb⟩:=hp.bad (qa0 _ h6)
  exact⟨rfl,RuleX.fail hb (qa0 _ h6)⟩
 obtain⟨v,rfl,hb,hS,hR⟩:=hp.ok (fin_ok' _ h6)
 cases hR
 have K1:=ai hb
 have S1:=ai hS
 clear hp hb hS HC c0 f0 z0
 go_wp2_with fail
 go_ret
 refine RuleX.done rfl (uh K1) (uh S1) ?_
 rw[qek 3 (by unfold qa6;simp[hk]),show qa9 (tk (Pu.toks s 0) k)=numB (tk (Pu.toks s 0) k).text by unfold qa9;simp[hk]]
 exact .num _ _ _ _ _
theorem plainWord3_X(h:SX w N rb sb m s k)(hs:s.size<=1000)(hk:isT (tk (Pu.toks s 0) k) kTrue=true\/isT (tk (Pu.toks s 0) k) kFalse=true)(x:Nat)(hx:Bx w x #[rp rb]):Calls Tryz.prog 275 #[.pointer (some ⟨x,0,none⟩)] w (RuleX PP N rb sb m s (.ok (qb3 (tk (Pu.toks s 0) k),k+1)) w):=by
 have hi:=tk_in s k h.lt
 have HC:=truth_X h hs hk
 obtain⟨c0,f0,z0⟩:=hx
 go_enter Tryz.func275,Tryz.ntmps275
 go_wp2_with fail
 refine HC.mono ?_
 intro e w1 hp
 by_cases h6:(tk (Pu.toks s 0) (k+1)).kind=6
 .obtain⟨rfl,hb⟩:=hp.bad (qa0 _ h6)
  exact⟨rfl,RuleX.fail hb (qa0 _ h6)⟩
 obtain⟨v,rfl,hb,hS,hR⟩:=hp.ok (fin_ok' _ h6)
 cases hR
 have K1:=ai hb
 have S1:=ai hS
 clear hp hb hS HC c0 f0 z0
 go_wp2_with fail
 go_ret
 refine RuleX.done rfl (uh K1) (uh S1) ?_
 rw[qek 4 (leafK_4 hk),qdi (by rcases hk with hk|hk<;>exact qbe hk)]
 exact .word _ _ _ _ _ (word_of hk)
theorem plainWord4_X(h:SX w N rb sb m s k)(hs:s.size<=1000)(hk:isT (tk (Pu.toks s 0) k) kTrue=true\/isT (tk (Pu.toks s 0) k) kFalse=true)(x:Nat)(hx:Bx w x #[rp rb]):Calls Tryz.prog 276 #[.pointer (some ⟨x,0,none⟩)] w (RuleX PP N rb sb m s (.ok (qb3 (tk (Pu.toks s 0) k),k+1)) w):=by
 have hi:=tk_in s k h.lt
 have HC:=truth_X h hs hk
 obtain⟨c0,f0,z0⟩:=hx
 go_enter Tryz.func276,Tryz.ntmps276
 go_wp2_with fail
 refine HC.mono ?_
 intro e w1 hp
 by_cases h6:(tk (Pu.toks s 0) (k+1)).kind=6
 .obtain⟨rfl,hb⟩:=hp.bad (qa0 _ h6)
  exact⟨rfl,RuleX.fail hb (qa0 _ h6)⟩
 obtain⟨v,rfl,hb,hS,hR⟩:=hp.ok (fin_ok' _ h6)
 cases hR
 have K1:=ai hb
 have S1:=ai hS
 clear hp hb hS HC c0 f0 z0
 go_wp2_with fail
 go_ret
 refine RuleX.done rfl (uh K1) (uh S1) ?_
 rw[qek 4 (leafK_4 hk),qdi (by rcases hk with hk|hk<;>exact qbe hk)]
 exact .word _ _ _ _ _ (word_of hk)
end
end
section
open Go Go.RowKit Go.ChangeMaps
section
variable {T:List Pu.Tok}
theorem begins_6'{t:Pu.Tok}(h:t.kind=6)(sort:Nat):qai t sort=false:=by
 have h0:qa6 t=0:=by unfold qa6;simp[h,qd9 h]
 unfold qai
 rw[qd9 h,h0]
 repeat' split
 all_goals rfl
theorem stall_small'(p q:M Nd)(sort:Nat):qbm T (qam T p q sort):=fun k h=>by unfold qam;rw[begins_6' h];rfl
theorem stall_rest'(p q:M Nd)(sort f:Nat)(a:Nd):qbm T (qee T p q sort f a):=fun k h=>by
 unfold qee
 rw[qd9 h,qd9 h]
 rw[if_neg (by simp),if_neg (by simp)]
 exact qf0 T _ k h
theorem stall_headF'(sm:M Nd)(sort:Nat):∀f x,qbm T (qbv T sm sort f x)
 |0,x=>fun k h=>qa0 _ h|f+1,x=>fun k h=>by unfold qbv;rw[begins_6' h];exact qa0 _ h
theorem stall_headM{sm:M Nd}{sort:Nat}(hs:qbm T sm):qbm T (qdn T sm sort):=fun k h=>by
 unfold qdn
 rw[if_neg (by simp[h])]
 exact hs k h
theorem stall_pat:∀n,qbm T (patM T n)
 |0=>fun k h=>rfl|n+1=>stall_headM (stall_small' _ _ _)
theorem stall_group{p q:M Nd}(hp:qbm T p)(sort f:Nat):qbm T (qew T p q sort f):=fun k h=>by
 unfold qew
 rw[qd9 h,if_neg (by simp)]
 exact qax (hp k h) fun a=>stall_rest' _ _ _ _ a
theorem qfz(sm:M Nd)(fr:Nat):∀f x,qbm T (qd7 T sm fr f x)
 |0,x=>fun k h=>qa0 _ h|f+1,x=>fun k h=>by unfold qd7;rw[begins_6' h];exact qa0 _ h
theorem stall_prodF(sm:M Nd)(fr:Nat):∀f x,qbm T (qec T sm fr f x)
 |0,x=>fun k h=>qa0 _ h|f+1,x=>fun k h=>by unfold qec;rw[qd9 h];exact qa0 _ h
theorem stall_sumF(sm:M Nd)(fr:Nat):∀f x,qbm T (sumF T sm fr f x)
 |0,x=>fun k h=>qa0 _ h|f+1,x=>fun k h=>by unfold sumF;rw[qd9 h,qd9 h,if_neg (by simp)];exact qa0 _ h
theorem stall_call{sm:M Nd}(hs:qbm T sm):qbm T (qbh T sm):=fun k h=>qax (hs k h) fun a=>qfz _ _ _ a
theorem stall_prod{sm:M Nd}(hs:qbm T sm):qbm T (qby T sm):=fun k h=>qax (hs k h) fun a=>stall_prodF _ _ _ a
theorem stall_sum{sm:M Nd}(hs:qbm T sm):qbm T (sumM T sm):=fun k h=>qax (hs k h) fun a=>stall_sumF _ _ _ a
def lessR(sum:M Nd)(fr:Nat)(x:Nd):M Nd:=fun k1=>if isT (tk T k1) kLess=true then bnd sum (fun y k'=>.ok (.mk 7 kLess 0 [x,y] fr (qan T k') fr,k')) (k1+1)else .ok (x,k1)
theorem stall_lessR(sum:M Nd)(fr:Nat)(x:Nd):qbm T (lessR (T:=T) sum fr x):=fun k h=>by unfold lessR;rw[qd9 h];exact qa0 _ h
theorem less_eq(sum:M Nd)(k:Nat):qe8 T sum k=bnd sum (lessR (T:=T) sum (tk T k).frm) k:=rfl
theorem stall_less{sum:M Nd}(hs:qbm T sum):qbm T (qe8 T sum):=fun k h=>qax (hs k h) fun a=>stall_lessR _ _ a
theorem qa1:∀n,qbm T (qaq T n)
 |0=>fun k h=>rfl|n+1=>fun k h=>by
  unfold qaq
  rw[qd9 h,qd9 h,qd9 h,qd9 h]
  exact stall_less (stall_sum (stall_prod (stall_call (stall_small' _ _ _)))) k h
theorem stall_fun(e:M Nd):qbm T (funM T e):=fun k h=>by
 unfold funM bnd
 rw[show qag T kFun k=.error (flOf (tk T k)) by unfold qag;rw[qd9 h];rfl]
 rfl
def passM:M Unit:=fun k=>.ok ((),k+1)
theorem small_opn{p q:M Nd}{sort k:Nat}(h:isT (tk T k) kOpn=true):qam T p q sort k=bnd (qag T kOpn) (fun _=>qew T p q sort (tk T k).frm) k:=by
 have h':isT (tk T k) qes=true:=h
 unfold qam bnd qag
 rw[if_pos (by unfold qai;simp[h']),if_pos h',if_pos h]
theorem group_unit{p q:M Nd}{sort f k:Nat}(h1:sort≠1)(h:isT (tk T k) kClose=true):qew T p q sort f k=bnd passM (fun _ j=>.ok (.mk 5 kNo 0 [] f (qan T j) f,j)) k:=by
 unfold qew
 rw[if_pos ⟨h1,h⟩]
 rfl
theorem group_part{p q:M Nd}{sort f k:Nat}(h:isT (tk T k) kClose=false):qew T p q sort f k=bnd p (qee T p q sort f) k:=by
 unfold qew
 rw[if_neg (by simp[h])]
theorem rest_comma'{p q:M Nd}{sort f:Nat}{a:Nd}{k:Nat}(h:isT (tk T k) kComma=true):qee T p q sort f a k=bnd passM (fun _=>bnd p fun b=>bnd (qag T kClose) fun _ j=>.ok (.mk 6 kNo 0 [a,b] f (qan T j) f,j)) k:=by unfold qee;rw[if_pos h];rfl
theorem rest_colon'{p q:M Nd}{f:Nat}{a:Nd}{k:Nat}(h0:isT (tk T k) kComma=false)(h:isT (tk T k) qcx=true):qee T p q 3 f a k=bnd passM (fun _=>bnd q fun b=>bnd (qag T kClose) fun _ j=>.ok (.mk 14 kNo 0 [a,b] f (qan T j) f,j)) k:=by unfold qee;rw[if_neg (by simp[h0]),if_pos ⟨rfl,h⟩];rfl
theorem rest_close'{p q:M Nd}{sort f:Nat}{a:Nd}{k:Nat}(h0:isT (tk T k) kComma=false)(h:sort=3->isT (tk T k) qcx=false):qee T p q sort f a k=bnd (qag T kClose) (fun _ j=>.ok (a,j)) k:=by
 unfold qee
 rw[if_neg (by simp[h0]),if_neg (by rintro⟨h1,h2⟩;rw[h h1]at h2;cases h2)]
 rfl
end
end
section
open Go Go.RowKit Go.ChangeMaps
section
variable {w:World} {N rb sb:Nat} {m:MV} {s:BA} {k:Nat}
theorem patternGroup_X{n:Nat}(hs:s.size<=1000)(IH:PatC s n)(h:SX w N rb sb m s k)(hn:(Pu.toks s 0).length<=k+1+n)(ho:isT (tk (Pu.toks s 0) k) kOpn=true):
 Calls Tryz.prog 277 #[rp rb] w (RuleX PP N rb sb m s (qam (Pu.toks s 0) (patM (Pu.toks s 0) n) (qb1 (Pu.toks s 0)) 2 k) w):=by
 have hf1:=qe6
 have hf2:=spn175
 have hnot:∀(x:Bool)(w:World),(Op.unary .not (.bool x)).run Tryz.prog w=.ok (.bool (!x)) w:=fun _ _=>rfl
 have HE0:=small_opn (p:=(patM (Pu.toks s 0) n)) (q:=(qb1 (Pu.toks s 0))) (sort:=2) ho
 have hz:=h.z
 have S1:=ai h
 have K2:=ai (Ke.refl rb w)
 have E3:=ai HE0
 clear h HE0
 go_enter Tryz.func277,Tryz.ntmps277
 go_wp2_with fail
 refine(qcg (uh S1) hs kOpn (by decide)).mono ?_
 intro e w1 hp
 cases hA:fin (Pu.toks s 0) (qag (Pu.toks s 0) kOpn k)with
 |error f'=>
  obtain⟨rfl,hb⟩:=hp.bad hA
  exact⟨rfl,RuleX.stop (uh E3) hA (fun a=>stall_group (stall_pat _) _ _) ((uh K2).trans hb)⟩
 |ok r'=>
 obtain⟨_u1,k1⟩:=r'
 obtain⟨v1,rfl,hb,hS,hR⟩:=hp.ok hA
 have S4:=ai hS
 have K5:=ai ((uh K2).trans hb)
 have E6:=ai ((uh E3).trans (qae hA))
 have qw1:=(qal hA).1
 have zw1:=hb.size
 try simp at zw1
 cases hR
 clear hp hb hS hA S1 K2 E3
 have ek1:=qah _ _ _ _ qw1
 subst ek1
 go_wp2_with fail
 by_cases hc:isT (tk (Pu.toks s 0) (k+1)) kClose=true
 .have EM9:=ai ((uh E6).trans (group_unit (p:=(patM (Pu.toks s 0) n)) (q:=(qb1 (Pu.toks s 0))) (by decide) hc))
  refine(took_Y (uh S4) hs kClose (by decide) hc).mono ?_
  intro e w2 hp
  cases hA:fin (Pu.toks s 0) (passM (k+1))with
  |error f'=>
   obtain⟨rfl,hb⟩:=hp.bad hA
   exact⟨rfl,RuleX.stop (uh EM9) hA (fun a=>qao _) ((uh K5).trans hb)⟩
  |ok r'=>
  obtain⟨_u2,k2⟩:=r'
  obtain⟨v2,rfl,hb,hS,hR⟩:=hp.ok hA
  have S7:=ai hS
  have K8:=ai ((uh K5).trans hb)
  have E9:=ai ((uh EM9).trans (qae hA))
  have qw2:=(qal hA).1
  have zw2:=hb.size
  try simp at zw2
  cases hR
  clear hp hb hS hA S4 K5 EM9
  go_wp2_with fail
  refine(qcr (uh S7) _).mono ?_
  rintro e w3⟨rfl,hb⟩
  have S10:=ai ((uh S7).bel hb)
  have K11:=ai ((uh K8).below' hb)
  have zw3:=hb.size
  try simp at zw3
  clear hb S7 K8
  go_wp2_with fail
  go_ret
  exact RuleX.done (uh E9) (uh K11) (uh S10) (.unit _ _ _ _ _)
 .have hc':isT (tk (Pu.toks s 0) (k+1)) kClose=false:=by simpa using hc
  have EM9:=ai ((uh E6).trans (group_part (p:=(patM (Pu.toks s 0) n)) (q:=(qb1 (Pu.toks s 0))) (sort:=2) hc'))
  refine(took_N (uh S4) kClose (by decide) hc').mono ?_
  rintro e w'⟨rfl,rfl⟩
  go_wp2_with fail
  refine(IH _ _ _ _ _ _ (uh S4) (by omega)).mono ?_
  intro e w2 hp
  cases hA:fin (Pu.toks s 0) (patM (Pu.toks s 0) n (k+1))with
  |error f'=>
   obtain⟨rfl,hb⟩:=hp.bad hA
   exact⟨rfl,RuleX.stop (uh EM9) hA (fun a=>stall_rest' _ _ _ _ a) ((uh K5).trans hb)⟩
  |ok r'=>
  obtain⟨a,k2⟩:=r'
  obtain⟨v2,rfl,hb,hS,hR⟩:=hp.ok hA
  have S7:=ai hS
  have K8:=ai ((uh K5).trans hb)
  have E9:=ai ((uh EM9).trans (qae hA))
  have qw2:=(qal hA).1
  have zw2:=hb.size
  try simp at zw2
  have V10:=ai hR
  obtain⟨tv2,xv2,rfl⟩:=hR.iface
  clear hp hb hS hA S4 K5 EM9 hR
  have lt2:=qdk n _ _ _ qw2
  go_wp2_with fail
  by_cases hm:isT (tk (Pu.toks s 0) k2) kComma=true
  .have EM8:=ai ((uh E9).trans (rest_comma' (p:=(patM (Pu.toks s 0) n)) (q:=(qb1 (Pu.toks s 0))) (sort:=2) hm))
   refine(took_Y (uh S7) hs kComma (by decide) hm).mono ?_
   intro e w3 hp
   cases hA:fin (Pu.toks s 0) (passM k2)with
   |error f'=>
    obtain⟨rfl,hb⟩:=hp.bad hA
    exact⟨rfl,RuleX.stop (uh EM8) hA (fun a=>qaf (stall_pat _) fun _=>qaf (qap _ _) fun _=>qao _) ((uh K8).trans hb)⟩
   |ok r'=>
   obtain⟨_u3,k3⟩:=r'
   obtain⟨v3,rfl,hb,hS,hR⟩:=hp.ok hA
   have S11:=ai hS
   have K12:=ai ((uh K8).trans hb)
   have E13:=ai ((uh EM8).trans (qae hA))
   have qw3:=(qal hA).1
   have zw3:=hb.size
   try simp at zw3
   have V14:=ai ((uh V10).ke hb (fun b p=>by show b≠rb;have p':w1.heap.size<=b:=p;omega))
   clear V10
   cases hR
   clear hp hb hS hA S7 K8 EM8
   have ek3:k3=k2+1:=by unfold passM at qw3;cases qw3;rfl
   subst ek3
   go_wp2_with fail
   refine(IH _ _ _ _ _ _ (uh S11) (by omega)).mono ?_
   intro e w4 hp
   cases hA:fin (Pu.toks s 0) (patM (Pu.toks s 0) n (k2+1))with
   |error f'=>
    obtain⟨rfl,hb⟩:=hp.bad hA
    exact⟨rfl,RuleX.stop (uh E13) hA (fun a=>qaf (qap _ _) fun _=>qao _) ((uh K12).trans hb)⟩
   |ok r'=>
   obtain⟨b,k4⟩:=r'
   obtain⟨v4,rfl,hb,hS,hR⟩:=hp.ok hA
   have S15:=ai hS
   have K16:=ai ((uh K12).trans hb)
   have E17:=ai ((uh E13).trans (qae hA))
   have qw4:=(qal hA).1
   have zw4:=hb.size
   try simp at zw4
   have V18:=ai ((uh V14).ke hb (fun b p=>by show b≠rb;have p':w1.heap.size<=b:=p;omega))
   clear V14
   have V19:=ai hR
   obtain⟨tv4,xv4,rfl⟩:=hR.iface
   clear hp hb hS hA S11 K12 E13 hR
   go_wp2_with fail
   refine(qcg (uh S15) hs kClose (by decide)).mono ?_
   intro e w5 hp
   cases hA:fin (Pu.toks s 0) (qag (Pu.toks s 0) kClose k4)with
   |error f'=>
    obtain⟨rfl,hb⟩:=hp.bad hA
    exact⟨rfl,RuleX.stop (uh E17) hA (fun a=>qao _) ((uh K16).trans hb)⟩
   |ok r'=>
   obtain⟨_u5,k5⟩:=r'
   obtain⟨v5,rfl,hb,hS,hR⟩:=hp.ok hA
   have S20:=ai hS
   have K21:=ai ((uh K16).trans hb)
   have E22:=ai ((uh E17).trans (qae hA))
   have qw5:=(qal hA).1
   have zw5:=hb.size
   try simp at zw5
   have V23:=ai ((uh V18).ke hb (fun b p=>by show b≠rb;have p':w1.heap.size<=b:=p;omega))
   clear V18
   have V24:=ai ((uh V19).ke hb (fun b p=>by show b≠rb;have p':w3.heap.size<=b:=p;omega))
   clear V19
   cases hR
   clear hp hb hS hA S15 K16 E17
   go_wp2_with fail
   refine(qcr (uh S20) _).mono ?_
   rintro e w6⟨rfl,hb⟩
   have S25:=ai ((uh S20).bel hb)
   have K26:=ai ((uh K21).below' hb)
   have zw6:=hb.size
   try simp at zw6
   have V27:=ai ((uh V23).bel hb)
   clear V23
   have V28:=ai ((uh V24).bel hb)
   clear V24
   clear hb S20 K21
   go_wp2_with fail
   go_ret
   exact RuleX.done (uh E22) (uh K26) (uh S25) (.pr _ _ _ _ _ _ _ _ _ ((uh V27).wide fun b p=>by have p':w1.heap.size<=b:=p;show w.heap.size<=b;omega) ((uh V28).wide fun b p=>by have p':w3.heap.size<=b:=p;show w.heap.size<=b;omega))
  .have hm':isT (tk (Pu.toks s 0) k2) kComma=false:=by simpa using hm
   refine(took_N (uh S7) kComma (by decide) hm').mono ?_
   rintro e w'⟨rfl,rfl⟩
   go_wp2_with fail
   have EM8:=ai ((uh E9).trans (rest_close' (p:=(patM (Pu.toks s 0) n)) (q:=(qb1 (Pu.toks s 0))) (sort:=2) hm' (fun h=>by omega)))
   refine(qcg (uh S7) hs kClose (by decide)).mono ?_
   intro e w5 hp
   cases hA:fin (Pu.toks s 0) (qag (Pu.toks s 0) kClose k2)with
   |error f'=>
    obtain⟨rfl,hb⟩:=hp.bad hA
    exact⟨rfl,RuleX.stop (uh EM8) hA (fun a=>qao _) ((uh K8).trans hb)⟩
   |ok r'=>
   obtain⟨_u5,k5⟩:=r'
   obtain⟨v5,rfl,hb,hS,hR⟩:=hp.ok hA
   have S11:=ai hS
   have K12:=ai ((uh K8).trans hb)
   have E13:=ai ((uh EM8).trans (qae hA))
   have qw5:=(qal hA).1
   have zw5:=hb.size
   try simp at zw5
   have V14:=ai ((uh V10).ke hb (fun b p=>by show b≠rb;have p':w1.heap.size<=b:=p;omega))
   clear V10
   cases hR
   clear hp hb hS hA S7 K8 EM8
   go_wp2_with fail
   go_ret
   exact RuleX.done (uh E13) (uh K12) (uh S11) ((uh V14).wide fun b p=>by have p':w1.heap.size<=b:=p;show w.heap.size<=b;omega)
end
end
section
open Go Go.RowKit Go.ChangeMaps
abbrev EQ(α:Type):=World->(Nat->Prop)->α->(Nat->Value)->Prop
def Moves{α:Type}(Q:EQ α):Prop:=∀(w w':World)(P P':Nat->Prop)(a:α)(c:Nat->Value),Q w P a c->w.heap.size<=w'.heap.size->(∀b,P b->b<w.heap.size->w'.heap[b]? =w.heap[b]?)->(∀b,P b->b<w.heap.size->P' b)->Q w' P' a c
def flatC(cs:Nat->Nat->Value)(sz:Nat):Nat->List Value
 |0=>[]|n+1=>flatC cs sz n++(List.range sz).map (cs n)
theorem flatC_len(cs:Nat->Nat->Value)(sz n:Nat):(flatC cs sz n).length=n*sz:=by
 induction n with
 |zero=>simp[flatC]|succ n ih=>simp only[flatC,lqa,ih,List.length_map,List.length_range,Nat.succ_mul]
theorem flatC_at(cs:Nat->Nat->Value)(sz:Nat):∀n i j,i<n->j<sz->(flatC cs sz n)[i*sz+j]? =some (cs i j):=by
 intro n
 induction n with
 |zero=>intro i j h;omega|succ n ih=>
  intro i j hi hj
  simp only[flatC]
  by_cases h:i<n
  .have:i*sz+j<n*sz:=by
    have:(i+1)*sz<=n*sz:=Nat.mul_le_mul_right _ h
    rw[Nat.succ_mul]at this
    omega
   rw[List.getElem?_append_left (by rw[flatC_len];exact this)]
   exact ih i j h hj
  .have e:i=n:=by omega
   subst e
   rw[List.getElem?_append_right (by rw[flatC_len];omega),flatC_len]
   rw[show i*sz+j-i*sz=j by omega]
   simp[hj]
theorem flatC_congr{cs ds:Nat->Nat->Value}{sz:Nat}:∀n,(∀i,i<n->cs i=ds i)->flatC cs sz n=flatC ds sz n
 |0,_=>rfl|n+1,h=>by simp only[flatC];rw[flatC_congr n (fun i hi=>h i (by omega)),h n (by omega)]
def RowO{α:Type}(Q:EQ α)(et:TypeId)(sz:Nat)(w:World)(base:Nat)(va:Option Addr)(vc:Nat)(L:List α):Prop:=
 ∃cs:Nat->Nat->Value,w.ownsRow base et sz (.slice va L.length vc) L.length (flatC cs sz L.length)/\∀i(h:i<L.length),Q w (fun b=>base<=b/\b<w.heap.size/\(Value.slice va L.length vc).ownBlock≠some b) L[i] (cs i)
def RowV{α:Type}(Q:EQ α)(sz:Nat)(w:World)(P:Nat->Prop)(L:List α)(v:Value):Prop:=
 ∃(va:Option Addr)(vc:Nat)(cs:Nat->Nat->Value),v=.slice va L.length vc/\(L=[]\/∃g,va=some ⟨g,0,none⟩/\P g/\g<w.heap.size/\∀i,i<L.length->∀j,j<sz->w.cell? ⟨g,i*sz+j,none⟩=some (cs i j))/\∀i(h:i<L.length),Q w P L[i] (cs i)
section
variable {α:Type} {Q:EQ α} {et:TypeId} {sz:Nat} {w w':World} {base:Nat} {va:Option Addr} {vc:Nat} {L:List α}
theorem RowO.nil(Q:EQ α)(et:TypeId)(sz:Nat)(w:World)(base:Nat):RowO Q et sz w base none 0 []:=⟨fun _ _=>.nilIface,World.ownsRow_nil _ _ _ _,fun i h=>absurd h (by simp)⟩
theorem RowO.v(hQ:Moves Q)(h:RowO Q et sz w base va vc L):RowV Q sz w (fun b=>base<=b) L (.slice va L.length vc):=by
 obtain⟨cs,ho,hr⟩:=h
 refine⟨va,vc,cs,rfl,?_,fun i hi=>hQ _ _ _ _ _ _ (hr i hi) (br _) (fun _ _ _=>rfl) fun b p _=>p.1⟩
 obtain⟨h1,h2⟩:=ho
 rcases h2 with⟨_,hz⟩|⟨q,cap,cur,hv,hg,hh,_,_,_,ht⟩
 .exact Or.inl (List.eq_nil_of_length_eq_zero hz)
 .injection hv with e1 e2 e3
  subst e1
  refine Or.inr ⟨q,rfl,hg,(Array.getElem?_eq_some_iff.1 hh).1,fun i hi j hj=>?_⟩
  have hlt:i*sz+j<L.length*sz:=by
   have:(i+1)*sz<=L.length*sz:=Nat.mul_le_mul_right _ hi
   rw[Nat.succ_mul]at this
   omega
  rw[<-flatC_at cs sz L.length i j hi hj,<-ht]
  simp only[World.cell?,hh]
  rw[List.getElem?_take_of_lt hlt]
  simp
theorem RowO.ke{rb:Nat}(hQ:Moves Q)(h:RowO Q et sz w base va vc L)(hb:Ke rb w w')(hr:rb<base):RowO Q et sz w' base va vc L:=by
 obtain⟨cs,ho,hP⟩:=h
 exact⟨cs,own_ke ho hb hr,fun i hi=>hQ _ _ _ _ _ _ (hP i hi) hb.size (fun b p z=>hb.block b z (by have:=p.1;omega)) fun b p _=>⟨p.1,Nat.lt_of_lt_of_le p.2.1 hb.size,p.2.2⟩⟩
theorem RowO.block(h:RowO Q et sz w base va vc L):∀b,(Value.slice va L.length vc).ownBlock=some b->base<=b/\b<w.heap.size:=by
 obtain⟨cs,ho,_⟩:=h
 exact qa3 ho
theorem RowO.one{lo q:Nat}{a:α}{c:Nat->Value}(hQ:Moves Q)(hq:Q w (fun b=>lo<=b) a c)(hlo:base<=lo)(hb:lo<=w.heap.size)(hs:0<sz)(C:Array Value)(hC:C=((List.range sz).map c).toArray)(hqq:q=w.heap.size):RowO Q et sz (w.alloc (.cells C et)) base (some ⟨q,0,none⟩) 1 [a]:=by
 subst hqq hC
 refine⟨fun _=>c,⟨by simp[flatC],Or.inr ⟨w.heap.size,1,_,rfl,by omega,(MapKept.heap_alloc w _).1,by simp,by unfold maxLen;omega,by simp,by simp[flatC];exact List.take_of_length_le (by simp)⟩⟩,fun i hi=>?_⟩
 have:i=0:=by simpa using hi
 subst this
 refine hQ _ _ _ _ _ _ hq (by simp) (fun b _ z=>Below.heap_alloc _ _ _ z) fun b p z=>⟨Nat.le_trans hlo p,by simp;omega,?_⟩
 simp[Value.ownBlock]
 omega
theorem RowO.push{w1 W w3:World}{lo q3 c3:Nat}{a:α}{c:Nat->Value}(hQ:Moves Q){cs:Nat->Nat->Value}(hP:∀i(h:i<L.length),Q w1 (fun b=>base<=b/\b<w1.heap.size/\(Value.slice va L.length vc).ownBlock≠some b) L[i] (cs i))(hq:Q w1 (fun b=>lo<=b) a c)(hbase:base<=lo)(hold:∀b,(Value.slice va L.length vc).ownBlock=some b->b<lo)(hW:Below w1.heap.size w1 W)(h3:w3.ownsRow base et sz (.slice (some ⟨q3,0,none⟩) (L.length+1) c3) (L.length+1) (flatC cs sz L.length++(List.range sz).map c))(hg:W.grownBy w3 (Value.slice va L.length vc).ownBlock)(hloc:(Value.slice (some ⟨q3,0,none⟩) (L.length+1) c3).ownBlock=(Value.slice va L.length vc).ownBlock\/(Value.slice (some ⟨q3,0,none⟩) (L.length+1) c3).ownBlock=some W.heap.size):
 RowO Q et sz w3 base (some ⟨q3,0,none⟩) c3 (L++[a]):=by
 have hlen:(L++[a]).length=L.length+1:=by simp
 have hsz:=hg.size
 have hbk:∀b,b<w1.heap.size->(Value.slice va L.length vc).ownBlock≠some b->w3.heap[b]? =w1.heap[b]? :=fun b hb hn=>(hg.block b (Nat.lt_of_lt_of_le hb hW.size) (fun e=>hn e.symm)).trans (hW.block b hb)
 have hnew:∀b,b<w1.heap.size->(Value.slice va L.length vc).ownBlock≠some b->(Value.slice (some ⟨q3,0,none⟩) (L.length+1) c3).ownBlock≠some b:=fun b hb hn e=>by
  rcases hloc with g|g
  .exact hn (g▸e)
  .have q:some b=some W.heap.size:=e.symm.trans g
   simp at q
   have:=hW.size
   omega
 have hws:=hW.size
 have hcs:∀i,i<L.length->(fun i=>if i=L.length then c else cs i) i=cs i:=fun i hi=>if_neg (by omega)
 refine⟨fun i=>if i=L.length then c else cs i,?_,fun i hi=>?_⟩
 .rw[hlen]
  show w3.ownsRow base et sz _ _ (flatC _ sz L.length++(List.range sz).map (if L.length=L.length then c else cs L.length))
  rw[if_pos rfl,flatC_congr (ds:=cs) L.length hcs]
  exact h3
 .rw[hlen]
  by_cases hlt:i<L.length
  .rw[List.getElem_append_left hlt]
   show Q w3 _ L[i] (if i=L.length then c else cs i)
   rw[if_neg (by omega)]
   exact hQ _ _ _ _ _ _ (hP i hlt) (by omega) (fun b p z=>hbk b p.2.1 p.2.2) fun b p z=>⟨p.1,by omega,hnew b p.2.1 p.2.2⟩
  .have hi':i=L.length:=by simp at hi;omega
   subst hi'
   have e1:(L++[a])[L.length]'hi=a:=by simp
   rw[e1]
   show Q w3 _ a (if L.length=L.length then c else cs L.length)
   rw[if_pos rfl]
   have hne:∀b,lo<=b->(Value.slice va L.length vc).ownBlock≠some b:=fun b h1 e=>by have:=hold b e;omega
   exact hQ _ _ _ _ _ _ hq (by omega) (fun b p z=>hbk b z (hne b p)) fun b p z=>⟨Nat.le_trans hbase p,by omega,hnew b z (hne b p)⟩
end
def Q1(R:World->(Nat->Prop)->Nd->Value->Prop):EQ Nd:=fun w P a c=>R w P a (c 0)
theorem moves_pp:Moves (Q1 PP):=fun _ _ _ _ _ _ h h1 h2 h3=>PP.move h h1 h2 h3
theorem qdj:Moves (Q1 PT):=fun _ _ _ _ _ _ h h1 h2 h3=>PT.move h h1 h2 h3
section
variable {W w3:World} {row:Option Nat} {N rb sb:Nat} {m:MV} {s:BA} {k:Nat}
theorem SX.grown(hg:W.grownBy w3 row)(h:SX W N rb sb m s k)(hr:∀j,row=some j->N<=j):SX w3 N rb sb m s k:=
 h.move hg.size fun b hb=>hg.block b (Nat.lt_of_lt_of_le hb h.ev.hN) fun e=>by have:=hr b e.symm;omega
theorem qc4{L:List (BA×Value)}{b:Nat}{mt ft:TypeId}(h:MS Value.string W b L)(hm:Tryz.prog.underlying mt=some (.map 234 ft))(hz:(zeroValue ft).run Tryz.prog W=.ok .nilFunc W)(x:BA):
 (Instr.lookup mt (.map (some b)) (.string x) true).run Tryz.prog W=.ok (qc2 (got x L) .nilFunc) W:=by
 have:=h.look (KL.str Tryz.underlying234) hm hz x trivial (fun _ _=>trivial) true
 rw[this]
 cases got x L<;>rfl
theorem got_no{x:BA}:∀{L:List (BA×Value)},(∀p∈L,p.1≠x)->got x L=none
 |[],_=>rfl|p::l,h=>by
  unfold got
  rw[if_neg (h p (List.mem_cons_self ..))]
  exact got_no fun q hq=>h q (List.mem_cons_of_mem _ hq)
end
end
section
open Go Go.RowKit Go.ChangeMaps
theorem begins_cases{t:Pu.Tok}(ho:qd5 t){sort:Nat}(hs:sort=2\/sort=3)(hb:qai t sort=true):t.kind=1\/t.kind=2\/t.kind=4\/isT t kTrue=true\/isT t kFalse=true\/(sort=2/\isT t kAny=true)\/isT t kOpn=true:=by
 by_cases h0:isT t kOpn=true
 .simp[h0]
 have h0':isT t qes=false:=by simpa using h0
 unfold qai at hb
 rw[h0']at hb
 unfold qa6 at hb
 by_cases h1:t.kind=1
 .exact Or.inl h1
 by_cases h2:t.kind=2
 .exact Or.inr (Or.inl h2)
 by_cases h4:t.kind=4
 .exact Or.inr (Or.inr (Or.inl h4))
 by_cases h5:isT t kTrue=true
 .simp[h5]
 by_cases h6:isT t kFalse=true
 .simp[h6]
 by_cases h7:isT t kAny=true
 .rcases hs with rfl|rfl
  .simp[h7]
  .exfalso
   by_cases h3:t.kind=3
   .simp[h1,h2,h3,h4,h5,h6,h7]at hb
   .simp[h1,h2,h3,h4,h5,h6,h7]at hb
 .exfalso
  rcases hs with rfl|rfl
  .by_cases h3:t.kind=3
   .simp[h1,h2,h3,h4,h5,h6,h7]at hb
   .simp[h1,h2,h3,h4,h5,h6,h7]at hb
  .by_cases h3:t.kind=3
   .simp[h1,h2,h3,h4,h5,h6,h7]at hb
   .simp[h1,h2,h3,h4,h5,h6,h7]at hb
theorem begins_none{t:Pu.Tok}{sort:Nat}(hs:sort=2\/sort=3)(hb:qai t sort=false):t.kind≠1/\t.kind≠2/\t.kind≠4/\isT t kTrue=false/\isT t kFalse=false/\(sort=2->isT t kAny=false)/\isT t kOpn=false:=by
 unfold qai at hb
 rw[Bool.or_eq_false_iff]at hb
 obtain⟨h0,hb⟩:=hb
 have key:∀c,c=1\/c=2\/c=3\/c=4->qa6 t≠c:=by
  intro c hc e
  rw[e]at hb
  rcases hs with rfl|rfl<;>rcases hc with rfl|rfl|rfl|rfl<;>simp at hb
 refine⟨fun e=>key 1 (by simp) (by unfold qa6;simp[e]),fun e=>key 2 (by simp) (by unfold qa6;simp[e]),fun e=>key 3 (by simp) (by unfold qa6;simp[e]),?_,?_,?_,h0⟩
 .cases h:isT t kTrue with
  |false=>rfl|true=>exact absurd (leafK_4 (Or.inl h)) (key 4 (by simp))
 .cases h:isT t kFalse with
  |false=>rfl|true=>exact absurd (leafK_4 (Or.inr h)) (key 4 (by simp))
 .rintro rfl
  cases h:isT t kAny with
  |false=>rfl|true=>
   have h5:=qbe h
   have:qa6 t=15:=by
    unfold qa6
    rw[if_neg (by omega),if_neg (by omega),if_neg (by omega),if_neg (by omega),if_neg (by rw[qft,qff];rw[isT_any]at h;simp at h;simp[h.2]),if_pos h]
   rw[this]at hb
   simp at hb
theorem qbz{T:List Pu.Tok}{p q:M Nd}{sort k:Nat}(hb:qai (tk T k) sort=true)(ho:isT (tk T k) kOpn=false):qam T p q sort k=.ok (qb3 (tk T k),k+1):=by
 have ho':isT (tk T k) qes=false:=ho
 unfold qam
 rw[if_pos hb,if_neg (by simp[ho'])]
theorem tlInj{a b:BA}(h:a.toList=b.toList):a=b:=by
 rw[ByteArray.toList_eq,ByteArray.toList_eq]at h
 exact ByteArray.ext (Array.ext' h)
theorem qco{t:Pu.Tok}{c:BA}(h:isT t c=true):qaj t=c:=by
 rw[qdi (qbe h)]
 unfold isT at h
 simp only[Bool.and_eq_true,beq_iff_eq]at h
 exact tlInj h.2
theorem qd0{t:Pu.Tok}{c:BA}(h5:t.kind=5)(h:isT t c=false):c≠t.text:=fun e=>by
 subst e
 unfold isT at h
 simp[h5]at h
theorem kd_open{t:Pu.Tok}(h:t.kind≠5)(c:BA):isT t c=false:=by unfold isT;simp[h]
theorem isT_two{t:Pu.Tok}{c d:BA}(h:isT t c=true)(hn:c.toList≠d.toList):isT t d=false:=by
 unfold isT at h⊢
 simp only[Bool.and_eq_true,beq_iff_eq]at h
 simp[h.1,h.2,hn]
section
variable {w:World} {N rb sb:Nat} {m:MV} {s:BA} {k n:Nat}
theorem plain_yes(hs:s.size<=1000)(IH:PatC s n)(h:SX w N rb sb m s k)(hn:(Pu.toks s 0).length<=k+1+n)(hb:qai (tk (Pu.toks s 0) k) 2=true){x:Nat}(hx:Bx w x #[rp rb]):
 (∃f,got (qaj (tk (Pu.toks s 0) k)) (plainL rb x)=some (mth f rb)/\(∀args w,(callFunc f args).run Tryz.prog w=.ok (.enter f args) w)/\∀W,Below w.heap.size w W->Calls Tryz.prog f #[rp rb] W (RuleX PP N rb sb m s (qam (Pu.toks s 0) (patM (Pu.toks s 0) n) (qb1 (Pu.toks s 0)) 2 k) W))\/
 (∃f,got (qaj (tk (Pu.toks s 0) k)) (plainL rb x)=some (clo f x)/\(∀args w,(callFunc f args).run Tryz.prog w=.ok (.enter f args) w)/\∀W,Below w.heap.size w W->Calls Tryz.prog f #[.pointer (some ⟨x,0,none⟩)] W (RuleX PP N rb sb m s (qam (Pu.toks s 0) (patM (Pu.toks s 0) n) (qb1 (Pu.toks s 0)) 2 k) W)):=by
 have ho:=qdb s k h.lt
 rcases begins_cases ho (by decide) hb with hk|hk|hk|hk|hk|⟨h9,hk⟩|hk
 .refine Or.inr ⟨272,by rw[qc7 hk];rfl,fun _ _=>by kernel_rfl,?_⟩
  rw[qbz hb (kd_open (by omega) _)]
  exact fun W hW=>plainLow_X (h.bel hW) hs hk x (hx.below hW)
 .refine Or.inl ⟨273,by rw[qc0 hk];rfl,fun _ _=>by kernel_rfl,?_⟩
  rw[qbz hb (kd_open (by omega) _)]
  exact fun W hW=>bareMaker_X (h.bel hW) hs hk
 .refine Or.inr ⟨274,by rw[qc8 hk];rfl,fun _ _=>by kernel_rfl,?_⟩
  rw[qbz hb (kd_open (by omega) _)]
  exact fun W hW=>plainNum_X (h.bel hW) hs hk x (hx.below hW)
 .refine Or.inr ⟨275,by rw[qco hk];rfl,fun _ _=>by kernel_rfl,?_⟩
  rw[qbz hb (isT_two hk (by simp[ByteArray.toList_eq]))]
  exact fun W hW=>plainWord3_X (h.bel hW) hs (Or.inl hk) x (hx.below hW)
 .refine Or.inr ⟨276,by rw[qco hk];rfl,fun _ _=>by kernel_rfl,?_⟩
  rw[qbz hb (isT_two hk (by simp[ByteArray.toList_eq]))]
  exact fun W hW=>plainWord4_X (h.bel hW) hs (Or.inr hk) x (hx.below hW)
 .refine Or.inl ⟨271,by rw[qco hk];rfl,fun _ _=>by kernel_rfl,?_⟩
  rw[qbz hb (isT_two hk (by simp[ByteArray.toList_eq]))]
  exact fun W hW=>anything_X (h.bel hW) hs hk
 .refine Or.inl ⟨277,by rw[qco hk];rfl,fun _ _=>by kernel_rfl,fun W hW=>patternGroup_X hs IH (h.bel hW) hn hk⟩
theorem plain_no(h:SX w N rb sb m s k)(hb:qai (tk (Pu.toks s 0) k) 2=false)(x:Nat):got (qaj (tk (Pu.toks s 0) k)) (plainL rb x)=none:=by
 have ho:=qdb s k h.lt
 obtain⟨n1,n2,n4,nt,nf,na,no⟩:=begins_none (by decide) hb
 rcases ho.kd with h'|h'|h'|h'|h'|h'|h'
 .exact absurd h' n1
 .exact absurd h' n2
 .rw[qc1 h'];rfl
 .exact absurd h' n4
 .rw[qdi h']
  have hz:=ho.s5 h'
  have big:∀c:BA,5<c.size->c≠(tk (Pu.toks s 0) k).text:=fun c hc e=>by rw[e]at hc;omega
  refine got_no fun p hp=>?_
  simp only[plainL,List.mem_cons,List.not_mem_nil,or_false]at hp
  rcases hp with rfl|rfl|rfl|rfl|rfl|rfl|rfl
  .exact qd0 h' (na rfl)
  .exact big kLow (by decide)
  .exact big kUp (by decide)
  .exact big kNum (by decide)
  .exact qd0 h' nt
  .exact qd0 h' nf
  .exact qd0 h' no
 .exact absurd h' h.ok
 .rw[qc9 h'];rfl
theorem zeroFnP(w:World):(zeroValue 470).run Tryz.prog w=.ok .nilFunc w:=by kernel_rfl
theorem onePattern_X(hs:s.size<=1000)(IH:PatC s n)(h:SX w N rb sb m s k)(hn:(Pu.toks s 0).length<=k+1+n){b x:Nat}(hM:MS Value.string w b (plainL rb x))(hx:Bx w x #[rp rb]):
 Calls Tryz.prog 372 #[rp rb,.map (some b)] w (RuleX PP N rb sb m s (qam (Pu.toks s 0) (patM (Pu.toks s 0) n) (qb1 (Pu.toks s 0)) 2 k) w):=by
 have hl:=qc4 hM Tryz.underlying241 (zeroFnP w) (qaj (tk (Pu.toks s 0) k))
 have hnot:∀(x:Bool)(w:World),(Op.unary .not (.bool x)).run Tryz.prog w=.ok (.bool (!x)) w:=fun _ _=>rfl
 obtain⟨c,f,z⟩:=h.bx
 by_cases hb:qai (tk (Pu.toks s 0) k) 2=true
 .rcases plain_yes hs IH h hn hb hx with⟨F,hg,hcf,HC⟩|⟨F,hg,hcf,HC⟩
  all_goals rw[hg]at hl
  all_goals clear hg hM hx h IH
  .simp only[qc2]at hl
   go_enter Tryz.func372,Tryz.ntmps372
   go_wp2_with fail
   refine(HC _ (Below.refl _ _)).mono ?_
   intro e w1 hp
   cases hA:fin (Pu.toks s 0) (qam (Pu.toks s 0) (patM (Pu.toks s 0) n) (qb1 (Pu.toks s 0)) 2 k)with
   |error f'=>
    obtain⟨rfl,hb'⟩:=hp.bad hA
    exact⟨rfl,hp⟩
   |ok r=>
   obtain⟨a,k2⟩:=r
   obtain⟨v,rfl,_,_,hR⟩:=hp.ok hA
   obtain⟨tv,xv,rfl⟩:=hR.iface
   go_wp2_with fail
   go_ret
   exact hp
  .simp only[qc2]at hl
   go_enter Tryz.func372,Tryz.ntmps372
   go_wp2_with fail
   refine(HC _ (Below.refl _ _)).mono ?_
   intro e w1 hp
   cases hA:fin (Pu.toks s 0) (qam (Pu.toks s 0) (patM (Pu.toks s 0) n) (qb1 (Pu.toks s 0)) 2 k)with
   |error f'=>
    obtain⟨rfl,hb'⟩:=hp.bad hA
    exact⟨rfl,hp⟩
   |ok r=>
   obtain⟨a,k2⟩:=r
   obtain⟨v,rfl,_,_,hR⟩:=hp.ok hA
   obtain⟨tv,xv,rfl⟩:=hR.iface
   go_wp2_with fail
   go_ret
   exact hp
 .have hb':qai (tk (Pu.toks s 0) k) 2=false:=by simpa using hb
  rw[plain_no h hb' x]at hl
  simp only[qc2]at hl
  have h6:=h.ok
  go_enter Tryz.func372,Tryz.ntmps372
  go_wp2_with(go_at_call 190;refine(qfv h.rd).mono ?_;rintro e w1⟨rfl,hb⟩)
  refine⟨rfl,Ke.of hb,?_⟩
  rw[show qam (Pu.toks s 0) (patM (Pu.toks s 0) n) (qb1 (Pu.toks s 0)) 2 k=.error (flOf (tk (Pu.toks s 0) k)) by unfold qam;rw[hb'];rfl,flOf,if_neg h6]
  rfl
end
end
section
open Go Go.RowKit Go.ChangeMaps
theorem patInfo:(Tryz.prog.info? 332).map (fun i=>(i.zero,i.size,i.bytes))=some (some .nilIface,1,16):=by kernel_rfl
theorem patsUnder:Tryz.prog.underlying 408=some (.slice 332):=by kernel_rfl
def ManyP(nm:BA)(w:World)(P:Nat->Prop)(a:Nd)(v:Value):Prop:=∃L fr to at_,a=.mk 2 nm 0 L fr to at_/\RowV (Q1 PP) 1 w P L v
abbrev smP(s:BA)(n:Nat):M Nd:=qam (Pu.toks s 0) (patM (Pu.toks s 0) n) (qb1 (Pu.toks s 0)) 2
def ManyRelP(N rb sb:Nat)(m:MV)(s:BA)(n k:Nat)(nm:BA)(fr at_:Nat)(w:World)(r:Except Fl (Nd×Nat))(gk:Nat)(v:Value)(wr:World):Prop:=
 ∃(kr:Nat)(L:List Nd)(to f:Nat)(va:Option Addr)(vc:Nat),
  v=.slice va L.length vc/\SX wr N rb sb m s kr/\Ke rb w wr/\Hid (gk=(Pu.toks s 0).length-kr)/\k<=kr/\L.length<=kr/\
  RowO (Q1 PP) 332 1 wr w.heap.size va vc L/\Hid (r=qbv (Pu.toks s 0) (smP s n) 2 f (.mk 2 nm 0 L fr to at_) kr)/\(Pu.toks s 0).length<=kr+f
theorem headF_stop'{T:List Pu.Tok}{sm:M Nd}{sort f:Nat}{x:Nd}{k:Nat}(h:qai (tk T k) sort=false):qbv T sm sort f x k=.ok (x,k):=by
 cases f with
 |zero=>rfl|succ f=>unfold qbv;rw[h];rfl
theorem headF_go'{T:List Pu.Tok}{sm:M Nd}{sort f:Nat}{x:Nd}{k:Nat}(h:qai (tk T k) sort=true):qbv T sm sort (f+1) x k=bnd sm (fun y k'=>qbv T sm sort f (x.add y (qan T k')) k') k:=by
 show(if qai (tk T k) sort=true then _ else _)=_
 rw[if_pos h]
section
variable {w:World} {N rb sb:Nat} {m:MV} {s:BA} {k n:Nat}
theorem SX.plain(h:SX w N rb sb m s k){b:Nat}(hb:m.d=.map (some b)):∃x,Bx w x #[rp rb]/\MS Value.string w b (plainL rb x):=by
 obtain⟨x,hx,b',e,_,_,hM⟩:=h.ev.mp.pl
 rw[hb]at e
 cases e
 exact⟨x,hx.2.2,hM⟩
theorem manyPattern_X(hs:s.size<=1000)(hT:(Pu.toks s 0).length<=1001)(IH:PatC s n)(h:SX w N rb sb m s k)(hn:(Pu.toks s 0).length<=k+1+n)(nm:BA)(fr to at_:Nat){b:Nat}(hmd:m.d=.map (some b)):
 Calls Tryz.prog 373 #[rp rb,.map (some b)] w (RuleX (ManyP nm) N rb sb m s (qbv (Pu.toks s 0) (smP s n) 2 (Pu.toks s 0).length (.mk 2 nm 0 [] fr to at_) k) w):=by
 obtain⟨i0,hi0,hz0,hz1,hz2⟩:=info_parts patInfo
 have hnot:∀(x:Bool)(w:World),(Op.unary .not (.bool x)).run Tryz.prog w=.ok (.bool (!x)) w:=fun _ _=>rfl
 have hzr:=h.z
 have hNw:=h.ev.hN
 obtain⟨r,hr⟩:∃r,r=qbv (Pu.toks s 0) (smP s n) 2 (Pu.toks s 0).length (.mk 2 nm 0 [] fr to at_) k:=⟨_,rfl⟩
 rw[<-hr]
 have hk:=h.lt
 have HR:=ai h
 have Hr:=ai hr
 have Hmd:=ai hmd
 clear h hr hmd
 go_enter Tryz.func373,Tryz.ntmps373
 go_wp2_with fail
 go_loopg[5] ((Pu.toks s 0).length-k) (fun gk v wr=>ManyRelP N rb sb m s n k nm fr at_ w r gk v wr)
 case atStart=>exact⟨k,[],to,(Pu.toks s 0).length,none,0,rfl,uh HR,Ke.refl _ _,ai rfl,br _,by simp,RowO.nil _ _ _ _ _,Hr,by omega⟩
 case round=>
  clear HR Hr
  obtain⟨kr,L,to',f,va,vc,rfl,R,K,hgk,hle,hLl,RW,hE,hfu⟩:=hrel
  obtain⟨x,hx,hM⟩:=R.plain (uh Hmd)
  have hl:=qc4 hM Tryz.underlying241 (zeroFnP wr) (qaj (tk (Pu.toks s 0) kr))
  have hkr:=R.lt
  obtain⟨c,ff,z⟩:=R.bx
  by_cases hb:qai (tk (Pu.toks s 0) kr) 2=true
  .obtain⟨f,rfl⟩:∃f',f=f'+1:=⟨f-1,by omega⟩
   have hE2:=ai ((uh hE).trans (headF_go' hb))
   clear hE
   rcases plain_yes hs IH R (by omega) hb hx with⟨F,hg,hcf,HC⟩|⟨F,hg,hcf,HC⟩
   all_goals rw[hg]at hl
   all_goals clear hg
   .simp only[qc2]at hl
    go_wp2_with fail
    refine(HC _ (Below.refl _ _)).mono ?_
    intro e w1 hp
    cases hA:fin (Pu.toks s 0) (smP s n kr)with
    |error f'=>
     obtain⟨rfl,hb'⟩:=hp.bad hA
     exact⟨rfl,RuleX.stop (uh hE2) hA (fun a q h=>stall_headF' _ _ _ _ q h) (K.trans hb')⟩
    |ok rr=>
    obtain⟨a,k2⟩:=rr
    obtain⟨v,rfl,hb1,S1,P1⟩:=hp.ok hA
    obtain⟨tv,xv,rfl⟩:=P1.iface
    have hlt:=qaw (qdk (T:=(Pu.toks s 0)) n) qdd 2 _ _ _ (qal hA).1
    have HE3:=ai ((uh hE2).trans (qae hA))
    have z1:=hb1.size
    have zw:=K.size
    have hrw:=RW.block
    have RW1:=RW.ke moves_pp hb1 hzr
    have hob:=RW1.block
    obtain⟨cs,hown,hPP⟩:=RW1
    have HO:=ai hown
    have HPP:=ai hPP
    have HP1:=ai P1
    have HS1:=ai S1
    have HK1:=ai (K.trans hb1)
    clear hp hA HC hE2 hcf hown hPP P1 S1 hb1 RW R K c ff z hl hM hx
    go_wp2_with(at_builtin;go_must(refine wpList_append_own_at _ rfl (.tmp 21) (.tmp 24) 408 rfl w.heap.size 332 i0 _ 1 16 patsUnder hi0 hz0 hz1 hz2 rfl (by decide) (.slice va L.length vc) L.length _ rfl ((uh HO).alloc _) ⟨w1.heap.size,0,none⟩ 1 1 [.iface tv (.agg xv)] rfl rfl (qbw _ _ _ _ (by simp)) (by intro u hu;simp at hu;subst hu;rfl) (by unfold maxLen;omega) (by omega) (by simp;omega) ?_;intro v3 w3 hown3 hg3 hnil3 hloc3;have Hown3:=ai hown3;have Hg3:=ai hg3;have Hloc3:=ai hloc3;clear hown3 hg3 hnil3 hloc3))
    obtain⟨q3,c3,rfl⟩:=qb6 (uh Hown3) (by omega)
    go_roundg((Pu.toks s 0).length-k2)
    case measure=>rw[uh hgk];omega
    case rel=>
     have hlen:(L++[a]).length=L.length+1:=by simp
     have hbw:Below w1.heap.size w1 (w1.alloc (.cells #[.iface tv (.agg xv)] 332)):=bw _
     refine⟨k2,L++[a],qan (Pu.toks s 0) k2,f,some ⟨q3,0,none⟩,c3,by rw[hlen],((uh HS1).bel hbw).grown (uh Hg3) (fun j e=>by have:=hob j e;omega),?_,ai rfl,by omega,by rw[hlen];omega,?_,HE3,by omega⟩
     .exact Ke.grown (uh Hg3) ((uh HK1).below' hbw) (fun j e=>(hob j e).1)
     .exact RowO.push (w1:=w1) (lo:=wr.heap.size) (c:=fun _=>.iface tv (.agg xv)) moves_pp (uh HPP) (uh HP1) (by omega) (fun b e=>(hrw b e).2) hbw (uh Hown3) (uh Hg3) (uh Hloc3)
   .simp only[qc2]at hl
    go_wp2_with fail
    refine(HC _ (Below.refl _ _)).mono ?_
    intro e w1 hp
    cases hA:fin (Pu.toks s 0) (smP s n kr)with
    |error f'=>
     obtain⟨rfl,hb'⟩:=hp.bad hA
     exact⟨rfl,RuleX.stop (uh hE2) hA (fun a q h=>stall_headF' _ _ _ _ q h) (K.trans hb')⟩
    |ok rr=>
    obtain⟨a,k2⟩:=rr
    obtain⟨v,rfl,hb1,S1,P1⟩:=hp.ok hA
    obtain⟨tv,xv,rfl⟩:=P1.iface
    have hlt:=qaw (qdk (T:=(Pu.toks s 0)) n) qdd 2 _ _ _ (qal hA).1
    have HE3:=ai ((uh hE2).trans (qae hA))
    have z1:=hb1.size
    have zw:=K.size
    have hrw:=RW.block
    have RW1:=RW.ke moves_pp hb1 hzr
    have hob:=RW1.block
    obtain⟨cs,hown,hPP⟩:=RW1
    have HO:=ai hown
    have HPP:=ai hPP
    have HP1:=ai P1
    have HS1:=ai S1
    have HK1:=ai (K.trans hb1)
    clear hp hA HC hE2 hcf hown hPP P1 S1 hb1 RW R K c ff z hl hM hx
    go_wp2_with(at_builtin;go_must(refine wpList_append_own_at _ rfl (.tmp 21) (.tmp 24) 408 rfl w.heap.size 332 i0 _ 1 16 patsUnder hi0 hz0 hz1 hz2 rfl (by decide) (.slice va L.length vc) L.length _ rfl ((uh HO).alloc _) ⟨w1.heap.size,0,none⟩ 1 1 [.iface tv (.agg xv)] rfl rfl (qbw _ _ _ _ (by simp)) (by intro u hu;simp at hu;subst hu;rfl) (by unfold maxLen;omega) (by omega) (by simp;omega) ?_;intro v3 w3 hown3 hg3 hnil3 hloc3;have Hown3:=ai hown3;have Hg3:=ai hg3;have Hloc3:=ai hloc3;clear hown3 hg3 hnil3 hloc3))
    obtain⟨q3,c3,rfl⟩:=qb6 (uh Hown3) (by omega)
    go_roundg((Pu.toks s 0).length-k2)
    case measure=>rw[uh hgk];omega
    case rel=>
     have hlen:(L++[a]).length=L.length+1:=by simp
     have hbw:Below w1.heap.size w1 (w1.alloc (.cells #[.iface tv (.agg xv)] 332)):=bw _
     refine⟨k2,L++[a],qan (Pu.toks s 0) k2,f,some ⟨q3,0,none⟩,c3,by rw[hlen],((uh HS1).bel hbw).grown (uh Hg3) (fun j e=>by have:=hob j e;omega),?_,ai rfl,by omega,by rw[hlen];omega,?_,HE3,by omega⟩
     .exact Ke.grown (uh Hg3) ((uh HK1).below' hbw) (fun j e=>(hob j e).1)
     .exact RowO.push (w1:=w1) (lo:=wr.heap.size) (c:=fun _=>.iface tv (.agg xv)) moves_pp (uh HPP) (uh HP1) (by omega) (fun b e=>(hrw b e).2) hbw (uh Hown3) (uh Hg3) (uh Hloc3)
  .have hb':qai (tk (Pu.toks s 0) kr) 2=false:=by simpa using hb
   rw[plain_no R hb' x]at hl
   simp only[qc2]at hl
   have hE2:=ai ((uh hE).trans (headF_stop' hb'))
   go_wp2_with fail
   go_ret
   exact RuleX.done (uh hE2) K R ⟨L,_,_,_,rfl,RW.v moves_pp⟩
end
end
section
open Go Go.RowKit Go.ChangeMaps
theorem headF_form{T:List Pu.Tok}{sm:M Nd}{sort c:Nat}{nm:BA}{n fr at_:Nat}:∀f L k a k2,qbv T sm sort f (.mk c nm n L fr (qan T k) at_) k=.ok (a,k2)->∃L',a=.mk c nm n L' fr (qan T k2) at_
 |0,L,k,a,k2,h=>by cases h;exact⟨L,rfl⟩|f+1,L,k,a,k2,h=>by
  unfold qbv at h
  split at h
  .obtain⟨y,k1,_,h2⟩:=qad h
   exact headF_form f (L++[y]) k1 a k2 h2
  .cases h;exact⟨L,rfl⟩
section
variable {w:World} {N rb sb:Nat} {m:MV} {s:BA} {k n:Nat}
theorem SX.md(h:SX w N rb sb m s k):∃b,m.d=.map (some b):=by
 obtain⟨x,_,b,e,_⟩:=h.ev.mp.pl
 exact⟨b,e⟩
theorem RowV.up{P:Nat->Prop}{L:List Nd}{v:Value}(h:RowV (Q1 PP) 1 w P L v)(s:BA)(n f t a y:Nat)(hu:UpN s)(hy:y=a+s.size):PP w P (.mk 2 s n L f t a) (.iface 410 (.agg #[.int .i64 (f:Int),.int .i64 (t:Int),.int .i64 (a:Int),.int .i64 (y:Int),.string s,v])):=by
 obtain⟨va,vc,cs,rfl,hrow,hr⟩:=h
 refine .up s n L f t a y va vc (fun i=>cs i 0) hu hy ?_ hr
 rcases hrow with h0|⟨g,h1,h2,h3,h4⟩
 .exact Or.inl h0
 .exact Or.inr ⟨g,h1,h2,h3,fun i hi=>by have:=h4 i hi 0 (by decide);simpa using this⟩
theorem pattern_step(hs:s.size<=1000)(hT:(Pu.toks s 0).length<=1001)(IH:PatC s n):PatC s (n+1):=by
 intro w N rb sb m k h hn
 obtain⟨b,hmd⟩:=h.md
 have ho:=qdb s k h.lt
 have hin:=tk_in s k h.lt
 have hku:=kind_up ho h.ok
 have hz:=h.z
 have hNw:=h.ev.hN
 obtain⟨c,f,z⟩:=h.bx
 by_cases h2:(tk (Pu.toks s 0) k).kind=2
 .have hkd':((qaj (tk (Pu.toks s 0) k)).toList==[117,112,32,110,97,109,101])=true:=by rw[show kUp.toList=[117,112,32,110,97,109,101]from qab _]at hku;rw[hku];simp[h2]
  obtain⟨k1,e1,e2⟩:=qf3 s k h.lt (by omega)
  have HE:Hid (patM (Pu.toks s 0) (n+1) k=bnd (qa7 (Pu.toks s 0) 2) (fun _=>qbv (Pu.toks s 0) (smP s n) 2 (Pu.toks s 0).length (.mk 2 (tk (Pu.toks s 0) k).text 0 [] (tk (Pu.toks s 0) k).frm (qan (Pu.toks s 0) (k+1)) (tk (Pu.toks s 0) k).frm)) k):=by
   show _=_
   show qdn (Pu.toks s 0) (smP s n) 2 k=_
   unfold qdn
   rw[if_pos (by simp[h2])]
   unfold bnd
   rw[show smP s n k=_ from qfy 2 k h2,qex h2,e2]
   unfold qb3 qa6 qa9
   simp[h2]
  have HC:=name_X h hs 2 kUp (Or.inr ⟨rfl,rfl⟩)
  have Hmd:=ai hmd
  clear hku h
  go_enter Tryz.func344,Tryz.ntmps344
  go_wp2_with fail
  refine HC.mono ?_
  intro e w1 hp
  rw[qex h2]at hp
  by_cases h61:(tk (Pu.toks s 0) (k+1)).kind=6
  .obtain⟨rfl,hb⟩:=hp.bad (qa0 _ h61)
   exact⟨rfl,RuleX.stop (uh HE) (by rw[qex h2];exact qa0 _ h61) (fun a=>stall_headF' _ _ _ _) hb⟩
  obtain⟨v,rfl,K1,S1,hR⟩:=hp.ok (fin_ok' _ h61)
  cases hR
  have HE2:=ai ((uh HE).trans (qae (by rw[qex h2];exact fin_ok' _ h61)))
  have hb1:Below w1.heap.size w1 (w1.alloc (.cells #[.int .i64 ((tk (Pu.toks s 0) k).frm:Int),.int .i64 ((tk (Pu.toks s 0) k).to:Int),.string (tk (Pu.toks s 0) k).text] 214)):=bw _
  have S2:=ai (S1.bel hb1)
  have K2:=ai (K1.below' hb1)
  have B2:=ai (Bx.new w1 #[.int .i64 ((tk (Pu.toks s 0) k).frm:Int),.int .i64 ((tk (Pu.toks s 0) k).to:Int),.string (tk (Pu.toks s 0) k).text] 214)
  have z1:=K1.size
  obtain⟨c2,f2,z2⟩:=(uh S2).bx
  clear hp hb1 S1 K1 c f z HC HE
  go_wp2_with fail
  refine(manyPattern_X hs hT IH (uh S2) (by omega) (tk (Pu.toks s 0) k).text (tk (Pu.toks s 0) k).frm (qan (Pu.toks s 0) (k+1)) (tk (Pu.toks s 0) k).frm (uh Hmd)).mono ?_
  intro e w3 hp
  cases hA:fin (Pu.toks s 0) (qbv (Pu.toks s 0) (smP s n) 2 (Pu.toks s 0).length (.mk 2 (tk (Pu.toks s 0) k).text 0 [] (tk (Pu.toks s 0) k).frm (qan (Pu.toks s 0) (k+1)) (tk (Pu.toks s 0) k).frm) (k+1))with
  |error f'=>
   obtain⟨rfl,hb'⟩:=hp.bad hA
   exact⟨rfl,RuleX.fail ((uh K2).trans hb') (by rw[uh HE2];exact hA)⟩
  |ok rr=>
  obtain⟨a,k2⟩:=rr
  obtain⟨v,rfl,hb3,S3,L,fr,to,at_,rfl,RV⟩:=hp.ok hA
  have hform:=headF_form _ _ _ _ _ (qal hA).1
  obtain⟨L',hL'⟩:=hform
  injection hL' with _ _ _ e3 e4 e5 e6
  subst e3 e4 e5 e6
  have HE3:=ai ((uh HE2).trans (qal hA).1)
  have B3:=ai ((uh B2).ke' hb3 (by omega))
  have S3':=ai S3
  have K3:=ai ((uh K2).trans hb3)
  have P3:=ai (RV.up (tk (Pu.toks s 0) k).text 0 (tk (Pu.toks s 0) k).frm (qan (Pu.toks s 0) k2) (tk (Pu.toks s 0) k).frm (tk (Pu.toks s 0) k).to (ho.v2 h2) hin.sp)
  obtain⟨va,vc,cs,rfl,_,_⟩:=RV
  obtain⟨c3,f3,z3⟩:=uh B3
  have z33:=hb3.size
  simp at z33
  clear hp hA S3 hb3 c2 f2 z2 hkd' HE2 B2 S2 K2
  go_wp2_with fail
  go_region_with(go_at_call 214;refine(qcr ((uh S3').bel (Below.refl _ _).drew) _).mono ?_;rintro e w4⟨rfl,hb4⟩;have S4:=ai (((uh S3').bel (Below.refl _ _).drew).bel hb4);have K4:=ai (((uh K3).below' (Below.refl _ _).drew).below' hb4);have B4:=ai ((uh B3).drew'.below hb4);have P4:=ai (((uh P3).bel (Below.refl _ _).drew).bel hb4);obtain⟨c4,f4,z4⟩:=uh B4;clear hb4)
  all_goals(
   go_wp2_with fail
   go_ret
   exact RuleX.done (uh HE3) (uh K4) (uh S4) ((uh P4).wide fun b p=>Nat.le_trans (by simp;omega) p))
 .have hkd':((qaj (tk (Pu.toks s 0) k)).toList==[117,112,32,110,97,109,101])=false:=by rw[show kUp.toList=[117,112,32,110,97,109,101]from qab _]at hku;rw[hku];simp[h2]
  have HE:patM (Pu.toks s 0) (n+1) k=smP s n k:=by show qdn (Pu.toks s 0) (smP s n) 2 k=_;unfold qdn;rw[if_neg (by simp[h2])]
  rw[HE]
  obtain⟨x,hx,hM⟩:=h.plain hmd
  have HC:=onePattern_X hs IH h (by omega) hM hx
  clear hku HE
  go_enter Tryz.func344,Tryz.ntmps344
  go_wp2_with fail
  refine HC.mono ?_
  intro e w1 hp
  cases hA:fin (Pu.toks s 0) (smP s n k)with
  |error f'=>
   obtain⟨rfl,hb'⟩:=hp.bad hA
   exact⟨rfl,hp⟩
  |ok r=>
  obtain⟨a,k2⟩:=r
  obtain⟨v,rfl,_,_,hR⟩:=hp.ok hA
  obtain⟨tv,xv,rfl⟩:=hR.iface
  go_wp2_with fail
  go_ret
  exact hp
theorem pattern_X(hs:s.size<=1000)(hT:(Pu.toks s 0).length<=1001):∀n,PatC s n
 |0=>fun w N rb sb m k h hn=>by have:=h.lt;omega|n+1=>pattern_step hs hT (pattern_X hs hT n)
end
end
section
open Go Go.RowKit Go.ChangeMaps
section
variable {w:World} {N rb sb:Nat} {m:MV} {s:BA} {k n:Nat}
theorem group_X{n:Nat}(hs:s.size<=1000)(hT:(Pu.toks s 0).length<=1001)(IH:qfr s n)(h:SX w N rb sb m s k)(hn:(Pu.toks s 0).length<=k+1+n)(ho:isT (tk (Pu.toks s 0) k) kOpn=true):
 Calls Tryz.prog 270 #[rp rb] w (RuleX PE N rb sb m s (qam (Pu.toks s 0) (qaq (Pu.toks s 0) n) (typM (Pu.toks s 0) n) 3 k) w):=by
 have hf1:=qe6
 have hf2:=spn175
 have hnot:∀(x:Bool)(w:World),(Op.unary .not (.bool x)).run Tryz.prog w=.ok (.bool (!x)) w:=fun _ _=>rfl
 have HE0:=small_opn (p:=(qaq (Pu.toks s 0) n)) (q:=(typM (Pu.toks s 0) n)) (sort:=3) ho
 have hz:=h.z
 have S1:=ai h
 have K2:=ai (Ke.refl rb w)
 have E3:=ai HE0
 clear h HE0
 go_enter Tryz.func270,Tryz.ntmps270
 go_wp2_with fail
 refine(qcg (uh S1) hs kOpn (by decide)).mono ?_
 intro e w1 hp
 cases hA:fin (Pu.toks s 0) (qag (Pu.toks s 0) kOpn k)with
 |error f'=>
  obtain⟨rfl,hb⟩:=hp.bad hA
  exact⟨rfl,RuleX.stop (uh E3) hA (fun a=>stall_group (qa1 _) _ _) ((uh K2).trans hb)⟩
 |ok r'=>
 obtain⟨_u1,k1⟩:=r'
 obtain⟨v1,rfl,hb,hS,hR⟩:=hp.ok hA
 have S4:=ai hS
 have K5:=ai ((uh K2).trans hb)
 have E6:=ai ((uh E3).trans (qae hA))
 have qw1:=(qal hA).1
 have zw1:=hb.size
 try simp at zw1
 cases hR
 clear hp hb hS hA S1 K2 E3
 have ek1:=qah _ _ _ _ qw1
 subst ek1
 go_wp2_with fail
 by_cases hc:isT (tk (Pu.toks s 0) (k+1)) kClose=true
 .have EM9:=ai ((uh E6).trans (group_unit (p:=(qaq (Pu.toks s 0) n)) (q:=(typM (Pu.toks s 0) n)) (by decide) hc))
  refine(took_Y (uh S4) hs kClose (by decide) hc).mono ?_
  intro e w2 hp
  cases hA:fin (Pu.toks s 0) (passM (k+1))with
  |error f'=>
   obtain⟨rfl,hb⟩:=hp.bad hA
   exact⟨rfl,RuleX.stop (uh EM9) hA (fun a=>qao _) ((uh K5).trans hb)⟩
  |ok r'=>
  obtain⟨_u2,k2⟩:=r'
  obtain⟨v2,rfl,hb,hS,hR⟩:=hp.ok hA
  have S7:=ai hS
  have K8:=ai ((uh K5).trans hb)
  have E9:=ai ((uh EM9).trans (qae hA))
  have qw2:=(qal hA).1
  have zw2:=hb.size
  try simp at zw2
  cases hR
  clear hp hb hS hA S4 K5 EM9
  go_wp2_with fail
  refine(qcr (uh S7) _).mono ?_
  rintro e w3⟨rfl,hb⟩
  have S10:=ai ((uh S7).bel hb)
  have K11:=ai ((uh K8).below' hb)
  have zw3:=hb.size
  try simp at zw3
  clear hb S7 K8
  go_wp2_with fail
  go_ret
  exact RuleX.done (uh E9) (uh K11) (uh S10) (.unit _ _ _ _ _)
 .have hc':isT (tk (Pu.toks s 0) (k+1)) kClose=false:=by simpa using hc
  have EM9:=ai ((uh E6).trans (group_part (p:=(qaq (Pu.toks s 0) n)) (q:=(typM (Pu.toks s 0) n)) (sort:=3) hc'))
  refine(took_N (uh S4) kClose (by decide) hc').mono ?_
  rintro e w'⟨rfl,rfl⟩
  go_wp2_with fail
  refine(IH _ _ _ _ _ _ (uh S4) (by omega)).mono ?_
  intro e w2 hp
  cases hA:fin (Pu.toks s 0) (qaq (Pu.toks s 0) n (k+1))with
  |error f'=>
   obtain⟨rfl,hb⟩:=hp.bad hA
   exact⟨rfl,RuleX.stop (uh EM9) hA (fun a=>stall_rest' _ _ _ _ a) ((uh K5).trans hb)⟩
  |ok r'=>
  obtain⟨a,k2⟩:=r'
  obtain⟨v2,rfl,hb,hS,hR⟩:=hp.ok hA
  have S7:=ai hS
  have K8:=ai ((uh K5).trans hb)
  have E9:=ai ((uh EM9).trans (qae hA))
  have qw2:=(qal hA).1
  have zw2:=hb.size
  try simp at zw2
  have V10:=ai hR
  obtain⟨tv2,xv2,rfl⟩:=hR.iface
  clear hp hb hS hA S4 K5 EM9 hR
  have lt2:=qdg n _ _ _ qw2
  go_wp2_with fail
  by_cases hm:isT (tk (Pu.toks s 0) k2) kComma=true
  .have EM8:=ai ((uh E9).trans (rest_comma' (p:=(qaq (Pu.toks s 0) n)) (q:=(typM (Pu.toks s 0) n)) (sort:=3) hm))
   refine(took_Y (uh S7) hs kComma (by decide) hm).mono ?_
   intro e w3 hp
   cases hA:fin (Pu.toks s 0) (passM k2)with
   |error f'=>
    obtain⟨rfl,hb⟩:=hp.bad hA
    exact⟨rfl,RuleX.stop (uh EM8) hA (fun a=>qaf (qa1 _) fun _=>qaf (qap _ _) fun _=>qao _) ((uh K8).trans hb)⟩
   |ok r'=>
   obtain⟨_u3,k3⟩:=r'
   obtain⟨v3,rfl,hb,hS,hR⟩:=hp.ok hA
   have S11:=ai hS
   have K12:=ai ((uh K8).trans hb)
   have E13:=ai ((uh EM8).trans (qae hA))
   have qw3:=(qal hA).1
   have zw3:=hb.size
   try simp at zw3
   have V14:=ai ((uh V10).ke hb (fun b p=>by show b≠rb;have p':w1.heap.size<=b:=p;omega))
   clear V10
   cases hR
   clear hp hb hS hA S7 K8 EM8
   have ek3:k3=k2+1:=by unfold passM at qw3;cases qw3;rfl
   subst ek3
   go_wp2_with fail
   refine(IH _ _ _ _ _ _ (uh S11) (by omega)).mono ?_
   intro e w4 hp
   cases hA:fin (Pu.toks s 0) (qaq (Pu.toks s 0) n (k2+1))with
   |error f'=>
    obtain⟨rfl,hb⟩:=hp.bad hA
    exact⟨rfl,RuleX.stop (uh E13) hA (fun a=>qaf (qap _ _) fun _=>qao _) ((uh K12).trans hb)⟩
   |ok r'=>
   obtain⟨b,k4⟩:=r'
   obtain⟨v4,rfl,hb,hS,hR⟩:=hp.ok hA
   have S15:=ai hS
   have K16:=ai ((uh K12).trans hb)
   have E17:=ai ((uh E13).trans (qae hA))
   have qw4:=(qal hA).1
   have zw4:=hb.size
   try simp at zw4
   have V18:=ai ((uh V14).ke hb (fun b p=>by show b≠rb;have p':w1.heap.size<=b:=p;omega))
   clear V14
   have V19:=ai hR
   obtain⟨tv4,xv4,rfl⟩:=hR.iface
   clear hp hb hS hA S11 K12 E13 hR
   go_wp2_with fail
   refine(qcg (uh S15) hs kClose (by decide)).mono ?_
   intro e w5 hp
   cases hA:fin (Pu.toks s 0) (qag (Pu.toks s 0) kClose k4)with
   |error f'=>
    obtain⟨rfl,hb⟩:=hp.bad hA
    exact⟨rfl,RuleX.stop (uh E17) hA (fun a=>qao _) ((uh K16).trans hb)⟩
   |ok r'=>
   obtain⟨_u5,k5⟩:=r'
   obtain⟨v5,rfl,hb,hS,hR⟩:=hp.ok hA
   have S20:=ai hS
   have K21:=ai ((uh K16).trans hb)
   have E22:=ai ((uh E17).trans (qae hA))
   have qw5:=(qal hA).1
   have zw5:=hb.size
   try simp at zw5
   have V23:=ai ((uh V18).ke hb (fun b p=>by show b≠rb;have p':w1.heap.size<=b:=p;omega))
   clear V18
   have V24:=ai ((uh V19).ke hb (fun b p=>by show b≠rb;have p':w3.heap.size<=b:=p;omega))
   clear V19
   cases hR
   clear hp hb hS hA S15 K16 E17
   go_wp2_with fail
   refine(qcr (uh S20) _).mono ?_
   rintro e w6⟨rfl,hb⟩
   have S25:=ai ((uh S20).bel hb)
   have K26:=ai ((uh K21).below' hb)
   have zw6:=hb.size
   try simp at zw6
   have V27:=ai ((uh V23).bel hb)
   clear V23
   have V28:=ai ((uh V24).bel hb)
   clear V24
   clear hb S20 K21
   go_wp2_with fail
   go_ret
   exact RuleX.done (uh E22) (uh K26) (uh S25) (.pr _ _ _ _ _ _ _ _ _ ((uh V27).wide fun b p=>by have p':w1.heap.size<=b:=p;show w.heap.size<=b;omega) ((uh V28).wide fun b p=>by have p':w3.heap.size<=b:=p;show w.heap.size<=b;omega))
  .have hm':isT (tk (Pu.toks s 0) k2) kComma=false:=by simpa using hm
   refine(took_N (uh S7) kComma (by decide) hm').mono ?_
   rintro e w'⟨rfl,rfl⟩
   go_wp2_with fail
   by_cases hl:isT (tk (Pu.toks s 0) k2) qcx=true
   .have EM8:=ai ((uh E9).trans (rest_colon' (p:=(qaq (Pu.toks s 0) n)) (q:=(typM (Pu.toks s 0) n)) hm' hl))
    refine(took_Y (uh S7) hs qcx (by decide) hl).mono ?_
    intro e w3 hp
    cases hA:fin (Pu.toks s 0) (passM k2)with
    |error f'=>
     obtain⟨rfl,hb⟩:=hp.bad hA
     exact⟨rfl,RuleX.stop (uh EM8) hA (fun a=>qaf (stall_typ _ _) fun _=>qaf (qap _ _) fun _=>qao _) ((uh K8).trans hb)⟩
    |ok r'=>
    obtain⟨_u3,k3⟩:=r'
    obtain⟨v3,rfl,hb,hS,hR⟩:=hp.ok hA
    have S11:=ai hS
    have K12:=ai ((uh K8).trans hb)
    have E13:=ai ((uh EM8).trans (qae hA))
    have qw3:=(qal hA).1
    have zw3:=hb.size
    try simp at zw3
    have V14:=ai ((uh V10).ke hb (fun b p=>by show b≠rb;have p':w1.heap.size<=b:=p;omega))
    clear V10
    cases hR
    clear hp hb hS hA S7 K8 EM8
    have ek3:k3=k2+1:=by unfold passM at qw3;cases qw3;rfl
    subst ek3
    go_wp2_with fail
    refine(arrow_X hs hT (n:=n) (uh S11) (by omega)).mono ?_
    intro e w4 hp
    cases hA:fin (Pu.toks s 0) (typM (Pu.toks s 0) n (k2+1))with
    |error f'=>
     obtain⟨rfl,hb⟩:=hp.bad hA
     exact⟨rfl,RuleX.stop (uh E13) hA (fun a=>qaf (qap _ _) fun _=>qao _) ((uh K12).trans hb)⟩
    |ok r'=>
    obtain⟨b,k4⟩:=r'
    obtain⟨v4,rfl,hb,hS,hR⟩:=hp.ok hA
    have S15:=ai hS
    have K16:=ai ((uh K12).trans hb)
    have E17:=ai ((uh E13).trans (qae hA))
    have qw4:=(qal hA).1
    have zw4:=hb.size
    try simp at zw4
    have V18:=ai ((uh V14).ke hb (fun b p=>by show b≠rb;have p':w1.heap.size<=b:=p;omega))
    clear V14
    have V19:=ai hR
    obtain⟨tv4,xv4,rfl⟩:=hR.iface
    clear hp hb hS hA S11 K12 E13 hR
    go_wp2_with fail
    refine(qcg (uh S15) hs kClose (by decide)).mono ?_
    intro e w5 hp
    cases hA:fin (Pu.toks s 0) (qag (Pu.toks s 0) kClose k4)with
    |error f'=>
     obtain⟨rfl,hb⟩:=hp.bad hA
     exact⟨rfl,RuleX.stop (uh E17) hA (fun a=>qao _) ((uh K16).trans hb)⟩
    |ok r'=>
    obtain⟨_u5,k5⟩:=r'
    obtain⟨v5,rfl,hb,hS,hR⟩:=hp.ok hA
    have S20:=ai hS
    have K21:=ai ((uh K16).trans hb)
    have E22:=ai ((uh E17).trans (qae hA))
    have qw5:=(qal hA).1
    have zw5:=hb.size
    try simp at zw5
    have V23:=ai ((uh V18).ke hb (fun b p=>by show b≠rb;have p':w1.heap.size<=b:=p;omega))
    clear V18
    have V24:=ai ((uh V19).ke hb (fun b p=>by show b≠rb;have p':w3.heap.size<=b:=p;omega))
    clear V19
    cases hR
    clear hp hb hS hA S15 K16 E17
    go_wp2_with fail
    refine(qcr (uh S20) _).mono ?_
    rintro e w6⟨rfl,hb⟩
    have S25:=ai ((uh S20).bel hb)
    have K26:=ai ((uh K21).below' hb)
    have zw6:=hb.size
    try simp at zw6
    have V27:=ai ((uh V23).bel hb)
    clear V23
    have V28:=ai ((uh V24).bel hb)
    clear V24
    clear hb S20 K21
    go_wp2_with fail
    go_ret
    exact RuleX.done (uh E22) (uh K26) (uh S25) (.of _ _ _ _ _ _ _ _ _ ((uh V27).wide fun b p=>by have p':w1.heap.size<=b:=p;show w.heap.size<=b;omega) ((uh V28).wide fun b p=>by have p':w3.heap.size<=b:=p;show w.heap.size<=b;omega))
   .have hl':isT (tk (Pu.toks s 0) k2) qcx=false:=by simpa using hl
    refine(took_N (uh S7) qcx (by decide) hl').mono ?_
    rintro e w'⟨rfl,rfl⟩
    go_wp2_with fail
    have EM8:=ai ((uh E9).trans (rest_close' (p:=(qaq (Pu.toks s 0) n)) (q:=(typM (Pu.toks s 0) n)) (sort:=3) hm' (fun _=>hl')))
    refine(qcg (uh S7) hs kClose (by decide)).mono ?_
    intro e w5 hp
    cases hA:fin (Pu.toks s 0) (qag (Pu.toks s 0) kClose k2)with
    |error f'=>
     obtain⟨rfl,hb⟩:=hp.bad hA
     exact⟨rfl,RuleX.stop (uh EM8) hA (fun a=>qao _) ((uh K8).trans hb)⟩
    |ok r'=>
    obtain⟨_u5,k5⟩:=r'
    obtain⟨v5,rfl,hb,hS,hR⟩:=hp.ok hA
    have S11:=ai hS
    have K12:=ai ((uh K8).trans hb)
    have E13:=ai ((uh EM8).trans (qae hA))
    have qw5:=(qal hA).1
    have zw5:=hb.size
    try simp at zw5
    have V14:=ai ((uh V10).ke hb (fun b p=>by show b≠rb;have p':w1.heap.size<=b:=p;omega))
    clear V10
    cases hR
    clear hp hb hS hA S7 K8 EM8
    go_wp2_with fail
    go_ret
    exact RuleX.done (uh E13) (uh K12) (uh S11) ((uh V14).wide fun b p=>by have p':w1.heap.size<=b:=p;show w.heap.size<=b;omega)
theorem atom_yes(hs:s.size<=1000)(hT:(Pu.toks s 0).length<=1001)(IH:qfr s n)(h:SX w N rb sb m s k)(hn:(Pu.toks s 0).length<=k+1+n)(hb:qai (tk (Pu.toks s 0) k) 3=true){x:Nat}(hx:Bx w x #[rp rb]):
 (∃f,got (qaj (tk (Pu.toks s 0) k)) (atomL rb x)=some (mth f rb)/\(∀args w,(callFunc f args).run Tryz.prog w=.ok (.enter f args) w)/\∀W,Below w.heap.size w W->Calls Tryz.prog f #[rp rb] W (RuleX PE N rb sb m s (qam (Pu.toks s 0) (qaq (Pu.toks s 0) n) (typM (Pu.toks s 0) n) 3 k) W))\/
 (∃f,got (qaj (tk (Pu.toks s 0) k)) (atomL rb x)=some (clo f x)/\(∀args w,(callFunc f args).run Tryz.prog w=.ok (.enter f args) w)/\∀W,Below w.heap.size w W->Calls Tryz.prog f #[.pointer (some ⟨x,0,none⟩)] W (RuleX PE N rb sb m s (qam (Pu.toks s 0) (qaq (Pu.toks s 0) n) (typM (Pu.toks s 0) n) 3 k) W)):=by
 have ho:=qdb s k h.lt
 rcases begins_cases ho (by decide) hb with hk|hk|hk|hk|hk|⟨h9,hk⟩|hk
 .refine Or.inr ⟨262,by rw[qc7 hk];rfl,fun _ _=>by kernel_rfl,?_⟩
  rw[qbz hb (kd_open (by omega) _)]
  exact fun W hW=>atomLow_X (h.bel hW) hs hk x (hx.below hW)
 .refine Or.inl ⟨264,by rw[qc0 hk];rfl,fun _ _=>by kernel_rfl,?_⟩
  rw[qbz hb (kd_open (by omega) _)]
  exact fun W hW=>upName_X (h.bel hW) hs hk
 .refine Or.inr ⟨265,by rw[qc8 hk];rfl,fun _ _=>by kernel_rfl,?_⟩
  rw[qbz hb (kd_open (by omega) _)]
  exact fun W hW=>atomNum_X (h.bel hW) hs hk x (hx.below hW)
 .refine Or.inr ⟨267,by rw[qco hk];rfl,fun _ _=>by kernel_rfl,?_⟩
  rw[qbz hb (isT_two hk (by simp[ByteArray.toList_eq]))]
  exact fun W hW=>atomWord3_X (h.bel hW) hs (Or.inl hk) x (hx.below hW)
 .refine Or.inr ⟨269,by rw[qco hk];rfl,fun _ _=>by kernel_rfl,?_⟩
  rw[qbz hb (isT_two hk (by simp[ByteArray.toList_eq]))]
  exact fun W hW=>atomWord4_X (h.bel hW) hs (Or.inr hk) x (hx.below hW)
 .exact absurd h9 (by decide)
 .refine Or.inl ⟨270,by rw[qco hk];rfl,fun _ _=>by kernel_rfl,fun W hW=>group_X hs hT IH (h.bel hW) hn hk⟩
theorem atom_no(h:SX w N rb sb m s k)(hb:qai (tk (Pu.toks s 0) k) 3=false)(x:Nat):got (qaj (tk (Pu.toks s 0) k)) (atomL rb x)=none:=by
 have ho:=qdb s k h.lt
 obtain⟨n1,n2,n4,nt,nf,na,no⟩:=begins_none (by decide) hb
 rcases ho.kd with h'|h'|h'|h'|h'|h'|h'
 .exact absurd h' n1
 .exact absurd h' n2
 .rw[qc1 h'];rfl
 .exact absurd h' n4
 .rw[qdi h']
  have hz:=ho.s5 h'
  have big:∀c:BA,5<c.size->c≠(tk (Pu.toks s 0) k).text:=fun c hc e=>by rw[e]at hc;omega
  refine got_no fun p hp=>?_
  simp only[atomL,List.mem_cons,List.not_mem_nil,or_false]at hp
  rcases hp with rfl|rfl|rfl|rfl|rfl|rfl
  .exact big kLow (by decide)
  .exact big kUp (by decide)
  .exact big kNum (by decide)
  .exact qd0 h' nt
  .exact qd0 h' nf
  .exact qd0 h' no
 .exact absurd h' h.ok
 .rw[qc9 h'];rfl
theorem zeroFnE(w:World):(zeroValue 465).run Tryz.prog w=.ok .nilFunc w:=by kernel_rfl
theorem oneExpr_X(hs:s.size<=1000)(hT:(Pu.toks s 0).length<=1001)(IH:qfr s n)(h:SX w N rb sb m s k)(hn:(Pu.toks s 0).length<=k+1+n){b x:Nat}(hM:MS Value.string w b (atomL rb x))(hx:Bx w x #[rp rb]):
 Calls Tryz.prog 347 #[rp rb,.map (some b)] w (RuleX PE N rb sb m s (qam (Pu.toks s 0) (qaq (Pu.toks s 0) n) (typM (Pu.toks s 0) n) 3 k) w):=by
 have hl:=qc4 hM Tryz.underlying240 (zeroFnE w) (qaj (tk (Pu.toks s 0) k))
 have hnot:∀(x:Bool)(w:World),(Op.unary .not (.bool x)).run Tryz.prog w=.ok (.bool (!x)) w:=fun _ _=>rfl
 obtain⟨c,f,z⟩:=h.bx
 by_cases hb:qai (tk (Pu.toks s 0) k) 3=true
 .rcases atom_yes hs hT IH h hn hb hx with⟨F,hg,hcf,HC⟩|⟨F,hg,hcf,HC⟩
  all_goals rw[hg]at hl
  all_goals clear hg hM hx h IH
  .simp only[qc2]at hl
   go_enter Tryz.func347,Tryz.ntmps347
   go_wp2_with fail
   refine(HC _ (Below.refl _ _)).mono ?_
   intro e w1 hp
   cases hA:fin (Pu.toks s 0) (qam (Pu.toks s 0) (qaq (Pu.toks s 0) n) (typM (Pu.toks s 0) n) 3 k)with
   |error f'=>
    obtain⟨rfl,hb'⟩:=hp.bad hA
    exact⟨rfl,hp⟩
   |ok r=>
   obtain⟨a,k2⟩:=r
   obtain⟨v,rfl,_,_,hR⟩:=hp.ok hA
   obtain⟨tv,xv,rfl⟩:=hR.iface
   go_wp2_with fail
   go_ret
   exact hp
  .simp only[qc2]at hl
   go_enter Tryz.func347,Tryz.ntmps347
   go_wp2_with fail
   refine(HC _ (Below.refl _ _)).mono ?_
   intro e w1 hp
   cases hA:fin (Pu.toks s 0) (qam (Pu.toks s 0) (qaq (Pu.toks s 0) n) (typM (Pu.toks s 0) n) 3 k)with
   |error f'=>
    obtain⟨rfl,hb'⟩:=hp.bad hA
    exact⟨rfl,hp⟩
   |ok r=>
   obtain⟨a,k2⟩:=r
   obtain⟨v,rfl,_,_,hR⟩:=hp.ok hA
   obtain⟨tv,xv,rfl⟩:=hR.iface
   go_wp2_with fail
   go_ret
   exact hp
 .have hb':qai (tk (Pu.toks s 0) k) 3=false:=by simpa using hb
  rw[atom_no h hb' x]at hl
  simp only[qc2]at hl
  have h6:=h.ok
  go_enter Tryz.func347,Tryz.ntmps347
  go_wp2_with(go_at_call 190;refine(qfv h.rd).mono ?_;rintro e w1⟨rfl,hb⟩)
  refine⟨rfl,Ke.of hb,?_⟩
  rw[show qam (Pu.toks s 0) (qaq (Pu.toks s 0) n) (typM (Pu.toks s 0) n) 3 k=.error (flOf (tk (Pu.toks s 0) k)) by unfold qam;rw[hb'];rfl,flOf,if_neg h6]
  rfl
theorem SX.atom(h:SX w N rb sb m s k){b:Nat}(hb:m.c=.map (some b)):∃x,Bx w x #[rp rb]/\MS Value.string w b (atomL rb x):=by
 obtain⟨x,hx,b',e,_,_,hM⟩:=h.ev.mp.at_
 rw[hb]at e
 cases e
 exact⟨x,hx.2.2,hM⟩
theorem SX.mc(h:SX w N rb sb m s k):∃b,m.c=.map (some b):=by
 obtain⟨x,_,b,e,_⟩:=h.ev.mp.at_
 exact⟨b,e⟩
end
end
section
open Go Go.RowKit Go.ChangeMaps
abbrev smE(s:BA)(n:Nat):M Nd:=qam (Pu.toks s 0) (qaq (Pu.toks s 0) n) (typM (Pu.toks s 0) n) 3
def LeftRel(N rb sb:Nat)(m:MV)(s:BA)(k:Nat)(w:World)(r:Except Fl (Nd×Nat))(g:Nat->Nd->M Nd)(gk:Nat)(v:Value)(wr:World):Prop:=
 ∃(kr:Nat)(nd:Nd)(f:Nat),SX wr N rb sb m s kr/\Ke rb w wr/\Hid (gk=(Pu.toks s 0).length-kr)/\k<kr/\PE wr (fun b=>w.heap.size<=b) nd v/\Hid (r=g f nd kr)/\(Pu.toks s 0).length<=kr+f
theorem qak(w:World)(q:Nat){n:Nat}:Below n w (w.drewN q):=⟨rfl,rfl,rfl,br _,fun _ _=>rfl⟩
theorem callF_go{T:List Pu.Tok}{sm:M Nd}{fr f:Nat}{x:Nd}{k:Nat}(h:qai (tk T k) 3=true):qd7 T sm fr (f+1) x k=bnd sm (fun y k'=>qd7 T sm fr f (.mk 8 kNo 0 [x,y] fr (qan T k') fr) k') k:=by
 show(if qai (tk T k) 3=true then _ else _)=_
 rw[if_pos h]
theorem callF_end{T:List Pu.Tok}{sm:M Nd}{fr f:Nat}{x:Nd}{k:Nat}(h:qai (tk T k) 3=false):qd7 T sm fr f x k=.ok (x,k):=by
 cases f with
 |zero=>rfl|succ f=>unfold qd7;rw[h];rfl
section
variable {w:World} {N rb sb:Nat} {m:MV} {s:BA} {k n:Nat}
theorem call_X(hs:s.size<=1000)(hT:(Pu.toks s 0).length<=1001)(IH:qfr s n)(h:SX w N rb sb m s k)(hn:(Pu.toks s 0).length<=k+1+n):
 Calls Tryz.prog 284 #[rp rb] w (RuleX PE N rb sb m s (qbh (Pu.toks s 0) (smE s n) k) w):=by
 have hnot:∀(x:Bool)(w:World),(Op.unary .not (.bool x)).run Tryz.prog w=.ok (.bool (!x)) w:=fun _ _=>rfl
 obtain⟨b,hmc⟩:=h.mc
 obtain⟨x,hx,hM⟩:=h.atom hmc
 have hzr:=h.z
 have HC:=oneExpr_X hs hT IH h hn hM hx
 have hk:=h.lt
 obtain⟨r,hr⟩:∃r,r=qbh (Pu.toks s 0) (smE s n) k:=⟨_,rfl⟩
 rw[<-hr]
 have HE:Hid (r=bnd (smE s n) (qd7 (Pu.toks s 0) (smE s n) (tk (Pu.toks s 0) k).frm (Pu.toks s 0).length) k):=hr
 obtain⟨c,ff,z⟩:=h.bx
 clear hx hM hr
 go_enter Tryz.func284,Tryz.ntmps284
 go_wp2_with fail
 refine HC.mono ?_
 intro e w1 hp
 cases hA:fin (Pu.toks s 0) (smE s n k)with
 |error f'=>
  obtain⟨rfl,hb'⟩:=hp.bad hA
  exact⟨rfl,RuleX.stop (uh HE) hA (fun a q h=>qfz _ _ _ _ q h) hb'⟩
 |ok rr=>
 obtain⟨a,k1⟩:=rr
 obtain⟨v0,rfl,hb1,S1,P1⟩:=hp.ok hA
 obtain⟨t0,x0,rfl⟩:=P1.iface
 have hlt0:=qaw (qdg (T:=(Pu.toks s 0)) n) (qa2 n) 3 _ _ _ (qal hA).1
 have HE1:=ai ((uh HE).trans (qae hA))
 have HS1:=ai S1
 have HP1:=ai P1
 have HK1:=ai hb1
 have Hmc:=ai hmc
 clear hp hA HC HE S1 P1 hb1 c ff z h
 go_wp2_with fail
 go_loopg[4] ((Pu.toks s 0).length-k1) (fun gk v wr=>LeftRel N rb sb m s k w r (fun f nd=>qd7 (Pu.toks s 0) (smE s n) (tk (Pu.toks s 0) k).frm f nd) gk v wr)
 case atStart=>exact⟨k1,a,(Pu.toks s 0).length,uh HS1,uh HK1,ai rfl,hlt0,uh HP1,HE1,by omega⟩
 case round=>
  clear HS1 HP1 HK1 HE1
  obtain⟨kr,nd,f,R,K,hgk,hle,PV,hE,hfu⟩:=hrel
  obtain⟨x,hx,hM⟩:=R.atom hmc
  have hl:=fun q=>qc4 (hM.same (w':=wr.drewN q) rfl) Tryz.underlying240 (zeroFnE _) (qaj (tk (Pu.toks s 0) kr))
  have hl0:=qc4 hM Tryz.underlying240 (zeroFnE _) (qaj (tk (Pu.toks s 0) kr))
  have hkr:=R.lt
  obtain⟨tv,xv,rfl⟩:=PV.iface
  obtain⟨c,ff,z⟩:=R.bx
  by_cases hb:qai (tk (Pu.toks s 0) kr) 3=true
  .obtain⟨f,rfl⟩:∃f',f=f'+1:=⟨f-1,by omega⟩
   have hE2:=ai ((uh hE).trans (callF_go hb))
   clear hE
   rcases atom_yes hs hT IH R (by omega) hb hx with⟨F,hg,hcf,HC⟩|⟨F,hg,hcf,HC⟩
   all_goals rw[hg]at hl0
   all_goals simp only[hg]at hl
   all_goals clear hg
   .simp only[qc2]at hl hl0
    go_wp2_with fail
    go_quiet(fail)
    go_wp2_with fail
    refine(HC _ (qak _ nq)).mono ?_
    intro e w1 hp
    cases hA:fin (Pu.toks s 0) (smE s n kr)with
    |error f'=>
     obtain⟨rfl,hb'⟩:=hp.bad hA
     exact⟨rfl,RuleX.stop (uh hE2) hA (fun a q h=>qfz _ _ _ _ q h) ((K.below' (qak _ nq)).trans hb')⟩
    |ok rr=>
    obtain⟨a,k2⟩:=rr
    obtain⟨v1,rfl,hb1,S1,P1⟩:=hp.ok hA
    obtain⟨t1,x1,rfl⟩:=P1.iface
    have hlt:=qaw (qdg (T:=(Pu.toks s 0)) n) (qa2 n) 3 _ _ _ (qal hA).1
    have HE3:=ai ((uh hE2).trans (qae hA))
    have z1:=hb1.size
    have zw:=K.size
    have P0:=ai ((PV.bel (qak _ nq)).ke hb1 (fun b p=>by show b≠rb;have p':w.heap.size<=b:=p;omega))
    have HP1:=ai P1
    have HS1:=ai S1
    have HK1:=ai ((K.below' (qak _ nq)).trans hb1)
    clear hp hA HC hE2 hcf P1 S1 hb1 R K c ff z hl hl0 hM hx PV
    go_wp2_with fail
    refine(qcr (uh HS1) _).mono ?_
    rintro e w2⟨rfl,hb2⟩
    have P0:=ai ((uh P0).bel hb2)
    have HP1:=ai ((uh HP1).bel hb2)
    have HS1:=ai ((uh HS1).bel hb2)
    have HK1:=ai ((uh HK1).below' hb2)
    clear hb2
    go_wp2_with fail
    go_roundg((Pu.toks s 0).length-k2)
    case measure=>rw[uh hgk];omega
    case rel=>exact⟨k2,_,f,uh HS1,uh HK1,ai rfl,by omega,.call _ _ _ _ _ _ _ _ _ (uh P0) ((uh HP1).wide fun b p=>by have p':wr.heap.size<=b:=p;show w.heap.size<=b;omega),HE3,by omega⟩
   .simp only[qc2]at hl hl0
    go_wp2_with fail
    go_quiet(fail)
    go_wp2_with fail
    refine(HC _ (qak _ nq)).mono ?_
    intro e w1 hp
    cases hA:fin (Pu.toks s 0) (smE s n kr)with
    |error f'=>
     obtain⟨rfl,hb'⟩:=hp.bad hA
     exact⟨rfl,RuleX.stop (uh hE2) hA (fun a q h=>qfz _ _ _ _ q h) ((K.below' (qak _ nq)).trans hb')⟩
    |ok rr=>
    obtain⟨a,k2⟩:=rr
    obtain⟨v1,rfl,hb1,S1,P1⟩:=hp.ok hA
    obtain⟨t1,x1,rfl⟩:=P1.iface
    have hlt:=qaw (qdg (T:=(Pu.toks s 0)) n) (qa2 n) 3 _ _ _ (qal hA).1
    have HE3:=ai ((uh hE2).trans (qae hA))
    have z1:=hb1.size
    have zw:=K.size
    have P0:=ai ((PV.bel (qak _ nq)).ke hb1 (fun b p=>by show b≠rb;have p':w.heap.size<=b:=p;omega))
    have HP1:=ai P1
    have HS1:=ai S1
    have HK1:=ai ((K.below' (qak _ nq)).trans hb1)
    clear hp hA HC hE2 hcf P1 S1 hb1 R K c ff z hl hl0 hM hx PV
    go_wp2_with fail
    refine(qcr (uh HS1) _).mono ?_
    rintro e w2⟨rfl,hb2⟩
    have P0:=ai ((uh P0).bel hb2)
    have HP1:=ai ((uh HP1).bel hb2)
    have HS1:=ai ((uh HS1).bel hb2)
    have HK1:=ai ((uh HK1).below' hb2)
    clear hb2
    go_wp2_with fail
    go_roundg((Pu.toks s 0).length-k2)
    case measure=>rw[uh hgk];omega
    case rel=>exact⟨k2,_,f,uh HS1,uh HK1,ai rfl,by omega,.call _ _ _ _ _ _ _ _ _ (uh P0) ((uh HP1).wide fun b p=>by have p':wr.heap.size<=b:=p;show w.heap.size<=b;omega),HE3,by omega⟩
  .have hb':qai (tk (Pu.toks s 0) kr) 3=false:=by simpa using hb
   have hg:=atom_no R hb' x
   rw[hg]at hl0
   simp only[hg,qc2]at hl hl0
   have hE2:=ai ((uh hE).trans (callF_end hb'))
   go_wp2_with fail
   go_quiet(fail)
   go_wp2_with fail
   go_ret
   exact RuleX.done (uh hE2) (K.below' (qak _ nq)) (R.bel (qak _ nq)) (PV.bel (qak _ nq))
end
end
section
open Go Go.RowKit Go.ChangeMaps
def opM(T:List Pu.Tok)(sub:M Nd)(op:BA)(fr:Nat)(x:Nd):M Nd:=fun k=>bnd sub (fun y k'=>.ok (.mk 7 op 0 [x,y] fr (qan T k') fr,k')) (k+1)
theorem opM_eq{T:List Pu.Tok}{sub:M Nd}{op:BA}{fr:Nat}{x:Nd}{k:Nat}:opM T sub op fr x k=bnd passM (fun _=>bnd sub (fun y k'=>.ok (.mk 7 op 0 [x,y] fr (qan T k') fr,k'))) k:=rfl
theorem stall_sub{T:List Pu.Tok}{sub:M Nd}(h:qbm T sub)(op:BA)(fr:Nat)(x:Nd):qbm T (bnd sub (fun y k'=>.ok (Nd.mk 7 op 0 [x,y] fr (qan T k') fr,k'))):=qaf h fun _=>qao _
theorem prodF_go{T:List Pu.Tok}{sub:M Nd}{fr f:Nat}{x:Nd}{k:Nat}(h:isT (tk T k) kStar=true):qec T sub fr (f+1) x k=bnd (opM T sub kStar fr x) (qec T sub fr f) k:=by
 show(if isT (tk T k) kStar=true then _ else _)=_
 rw[if_pos h]
 unfold opM bnd
 dsimp only
 cases sub (k+1)<;>rfl
theorem prodF_end{T:List Pu.Tok}{sub:M Nd}{fr f:Nat}{x:Nd}{k:Nat}(h:isT (tk T k) kStar=false):qec T sub fr f x k=.ok (x,k):=by
 cases f with
 |zero=>rfl|succ f=>unfold qec;rw[h];rfl
theorem sumF_go{T:List Pu.Tok}{sub:M Nd}{fr f:Nat}{x:Nd}{k:Nat}(h:isT (tk T k) kPlus=true\/isT (tk T k) kMinus=true):sumF T sub fr (f+1) x k=bnd (opM T sub (tk T k).text fr x) (sumF T sub fr f) k:=by
 show(if isT (tk T k) kPlus=true\/isT (tk T k) kMinus=true then _ else _)=_
 rw[if_pos h]
 unfold opM bnd
 dsimp only
 cases sub (k+1)<;>rfl
theorem sumF_end{T:List Pu.Tok}{sub:M Nd}{fr f:Nat}{x:Nd}{k:Nat}(h:isT (tk T k) kPlus=false)(h':isT (tk T k) kMinus=false):sumF T sub fr f x k=.ok (x,k):=by
 cases f with
 |zero=>rfl|succ f=>unfold sumF;rw[h,h'];rfl
theorem text_of{t:Pu.Tok}{c:BA}(h:isT t c=true):t.text=c:=by
 unfold isT at h
 simp only[Bool.and_eq_true,beq_iff_eq]at h
 exact tlInj h.2
def PEo(P:Nat->Prop)(w:World)(Q:Nat->Prop)(a:Nd)(v:Value):Prop:=PE w (fun b=>P b\/Q b) a v
theorem tok182(a b c d:Value)(w:World):(Instr.field 236 (.agg #[a,b,c,d]) 2).run Tryz.prog w=.ok d w:=by kernel_rfl
section
variable {w:World} {N rb sb:Nat} {m:MV} {s:BA} {k n:Nat}
def SubC(s:BA)(n F:Nat)(sub:M Nd):Prop:=∀(w:World)(N rb sb:Nat)(m:MV)(k:Nat),SX w N rb sb m s k->(Pu.toks s 0).length<=k+1+n->Calls Tryz.prog F #[rp rb] w (RuleX PE N rb sb m s (sub k) w)
theorem op_X{F:Nat}{sub:M Nd}(hs:s.size<=1000)(HF:SubC s n F sub)(hcf:∀args w,(callFunc F args).run Tryz.prog w=.ok (.enter F args) w)(hst:qbm (Pu.toks s 0) sub)(h:SX w N rb sb m s k)(hn:(Pu.toks s 0).length<=k+1+n)(hop:(tk (Pu.toks s 0) k).text=kPlus\/(tk (Pu.toks s 0) k).text=kMinus\/(tk (Pu.toks s 0) k).text=kStar\/(tk (Pu.toks s 0) k).text=kLess)(h7:(tk (Pu.toks s 0) k).kind≠7)(fr:Nat){x y:Nat}(hx:Bx w x #[rp rb])(hy:Bx w y #[mth F rb])(nx:x≠rb)(ny:y≠rb){P:Nat->Prop}(hP:∀b,P b->b≠rb){nd:Nd}{v:Value}(hv:PE w P nd v):
 Calls Tryz.prog 345 #[.int .i64 (fr:Int),v,.pointer (some ⟨x,0,none⟩),.pointer (some ⟨y,0,none⟩)] w (RuleX (PEo P) N rb sb m s (opM (Pu.toks s 0) sub (tk (Pu.toks s 0) k).text fr nd k) w):=by
 have hf2:=tok182
 have hzr:=h.z
 obtain⟨tv,xv,rfl⟩:=hv.iface
 have HC:=next_X h hs h7
 have BX:=ai hx
 have BY:=ai hy
 have PV:=ai hv
 obtain⟨c0,f0,z0⟩:=hx
 obtain⟨c1,f1,z1⟩:=hy
 clear h hv
 go_enter Tryz.func345,Tryz.ntmps345
 go_wp2_with fail
 refine HC.mono ?_
 intro e w1 hp
 by_cases h6:(tk (Pu.toks s 0) (k+1)).kind=6
 .obtain⟨rfl,hb⟩:=hp.bad (qa0 _ h6)
  exact⟨rfl,RuleX.stop opM_eq (qa0 _ h6) (fun _=>stall_sub hst _ _ _) hb⟩
 obtain⟨v1,rfl,K1,S1,hR⟩:=hp.ok (fin_ok' _ h6)
 cases hR
 have BX:=ai ((uh BX).ke' K1 nx)
 have BY:=ai ((uh BY).ke' K1 ny)
 have PV:=ai ((uh PV).ke K1 hP)
 have HK:=ai K1
 have z2:=K1.size
 have HC:=HF _ _ _ _ _ _ S1 (by omega)
 clear c0 f0 z0 c1 f1 z1 hp K1 S1
 obtain⟨c0,f0,z0⟩:=uh BX
 obtain⟨c1,f1,z1⟩:=uh BY
 go_wp2_with fail
 refine HC.mono ?_
 intro e w2 hp
 cases hA:fin (Pu.toks s 0) (sub (k+1))with
 |error f'=>
  obtain⟨rfl,hb⟩:=hp.bad hA
  exact⟨rfl,RuleX.fail ((uh HK).trans hb) (by show fin _ (bnd sub _ (k+1))=_;rw[qax hA (fun _=>qao _)])⟩
 |ok rr=>
 obtain⟨a,k2⟩:=rr
 obtain⟨v2,rfl,K2,S2,P2⟩:=hp.ok hA
 obtain⟨t2,x2,rfl⟩:=P2.iface
 have HE:Hid (opM (Pu.toks s 0) sub (tk (Pu.toks s 0) k).text fr nd k=.ok (.mk 7 (tk (Pu.toks s 0) k).text 0 [nd,a] fr (qan (Pu.toks s 0) k2) fr,k2)):=ai (qae (m:=sub) (k:=k+1) hA)
 have BX:=ai ((uh BX).ke' K2 nx)
 have PV:=ai ((uh PV).ke K2 hP)
 have P2:=ai P2
 have HK:=ai ((uh HK).trans K2)
 have HS:=ai S2
 clear c0 f0 z0 c1 f1 z1 hp K2 S2 BY hA
 obtain⟨c0,f0,z0⟩:=uh BX
 go_wp2_with fail
 refine(qcr (uh HS) _).mono ?_
 rintro e w3⟨rfl,hb⟩
 have PV:=ai ((uh PV).bel hb)
 have P2:=ai ((uh P2).bel hb)
 have HK:=ai ((uh HK).below' hb)
 have HS:=ai ((uh HS).bel hb)
 clear hb c0 f0 z0
 go_wp2_with fail
 go_ret
 exact RuleX.done (uh HE) (uh HK) (uh HS) (.op _ _ _ _ _ _ _ _ _ hop ((uh PV).wide fun b p=>Or.inl p) ((uh P2).wide fun b p=>Or.inr (Nat.le_trans z2 p)))
theorem zeroOp(w:World):(zeroValue 472).run Tryz.prog w=.ok .nilFunc w:=by kernel_rfl
theorem SX.h_(h:SX w N rb sb m s k){b:Nat}(hb:m.h=.map (some b)):∃x0 y0,BoxAt w N rb x0 #[rp rb]/\BoxAt w N rb y0 #[mth 284 rb]/\MS Value.string w b [(kStar,opR x0 y0)]:=by
 obtain⟨x0,y0,h0,g0,b',e,_,_,hM⟩:=h.ev.mp.pr
 rw[hb]at e
 cases e
 exact⟨x0,y0,h0,g0,hM⟩
theorem SX.hm(h:SX w N rb sb m s k):∃b,m.h=.map (some b):=by
 obtain⟨x0,y0,h0,g0,b',e,_,_,hM⟩:=h.ev.mp.pr
 exact⟨b',e⟩
theorem got_leftProd{t:Pu.Tok}(ho:qd5 t)(h6:t.kind≠6)(n0:isT t kStar=false)(x0 y0:Nat):got (qaj t) [(kStar,opR x0 y0)]=none:=by
 rcases ho.kd with h'|h'|h'|h'|h'|h'|h'
 .rw[qc7 h'];rfl
 .rw[qc0 h'];rfl
 .rw[qc1 h'];rfl
 .rw[qc8 h'];rfl
 .rw[qdi h']
  refine got_no fun p hp=>?_
  simp only[List.mem_cons,List.not_mem_nil,or_false]at hp
  rcases hp with rfl
  .exact qd0 h' n0
 .exact absurd h' h6
 .rw[qc9 h'];rfl
theorem leftProd_X{n:Nat}(hs:s.size<=1000)(hT:(Pu.toks s 0).length<=1001)(HF:SubC s n 284 (qbh (Pu.toks s 0) (smE s n)))(hst:qbm (Pu.toks s 0) (qbh (Pu.toks s 0) (smE s n)))(hlts:Lts (qbh (Pu.toks s 0) (smE s n)))(h:SX w N rb sb m s k)(hn:(Pu.toks s 0).length<=k+1+n){b:Nat}(hmb:m.h=.map (some b)):
 Calls Tryz.prog 346 #[rp rb,mth 284 rb,.map (some b)] w (RuleX PE N rb sb m s (qby (Pu.toks s 0) (qbh (Pu.toks s 0) (smE s n)) k) w):=by
 have hnot:∀(x:Bool)(w:World),(Op.unary .not (.bool x)).run Tryz.prog w=.ok (.bool (!x)) w:=fun _ _=>rfl
 have hcF:∀args w,(callFunc 284 args).run Tryz.prog w=.ok (.enter 284 args) w:=fun _ _=>by kernel_rfl
 have hcO:∀args w,(callFunc 345 args).run Tryz.prog w=.ok (.enter 345 args) w:=fun _ _=>by kernel_rfl
 have hzr:=h.z
 have HC:=HF _ _ _ _ _ _ h hn
 obtain⟨r,hr⟩:∃r,r=qby (Pu.toks s 0) (qbh (Pu.toks s 0) (smE s n)) k:=⟨_,rfl⟩
 rw[<-hr]
 have HE:Hid (r=bnd (qbh (Pu.toks s 0) (smE s n)) (qec (Pu.toks s 0) (qbh (Pu.toks s 0) (smE s n)) (tk (Pu.toks s 0) k).frm (Pu.toks s 0).length) k):=hr
 obtain⟨c,ff,z⟩:=h.bx
 clear hr
 go_enter Tryz.func346,Tryz.ntmps346
 go_wp2_with fail
 refine HC.mono ?_
 intro e w1 hp
 cases hA:fin (Pu.toks s 0) ((qbh (Pu.toks s 0) (smE s n)) k)with
 |error f'=>
  obtain⟨rfl,hb'⟩:=hp.bad hA
  exact⟨rfl,RuleX.stop (uh HE) hA (fun a q h=>stall_prodF _ _ _ _ q h) hb'⟩
 |ok rr=>
 obtain⟨a,k1⟩:=rr
 obtain⟨v0,rfl,hb1,S1,P1⟩:=hp.ok hA
 obtain⟨t0,x0,rfl⟩:=P1.iface
 have hlt0:=hlts _ _ _ (qal hA).1
 have HE1:=ai ((uh HE).trans (qae hA))
 have HS1:=ai S1
 have HP1:=ai P1
 have HK1:=ai hb1
 clear hp hA HC HE S1 P1 hb1 c ff z h
 go_wp2_with fail
 go_loopg[8] ((Pu.toks s 0).length-k1) (fun gk v wr=>LeftRel N rb sb m s k w r (fun f nd=>qec (Pu.toks s 0) (qbh (Pu.toks s 0) (smE s n)) (tk (Pu.toks s 0) k).frm f nd) gk v wr)
 case atStart=>exact⟨k1,a,(Pu.toks s 0).length,uh HS1,uh HK1,ai rfl,hlt0,uh HP1,HE1,by omega⟩
 case round=>
  clear HS1 HP1 HK1 HE1
  obtain⟨kr,nd,f,R,K,hgk,hle,PV,hE,hfu⟩:=hrel
  obtain⟨x0,y0,bx0,by0,hM⟩:=R.h_ hmb
  have hl:=qc4 hM Tryz.underlying243 (zeroOp _) (qaj (tk (Pu.toks s 0) kr))
  have hkr:=R.lt
  have ho:=qdb s kr hkr
  obtain⟨tv,xv,rfl⟩:=PV.iface
  obtain⟨c,ff,z⟩:=R.bx
  by_cases hb:isT (tk (Pu.toks s 0) kr) kStar=true
  .obtain⟨f,rfl⟩:∃f',f=f'+1:=⟨f-1,by omega⟩
   have hE2:=ai ((uh hE).trans (prodF_go hb))
   clear hE
   have hg:got (qaj (tk (Pu.toks s 0) kr)) [(kStar,opR x0 y0)]=some (opR x0 y0):=by rw[qco hb];rfl
   rw[hg]at hl
   simp only[qc2]at hl
   have HC:=op_X hs HF hcF hst R (by omega) (by rw[text_of hb];simp) (isT_7 hb) (tk (Pu.toks s 0) k).frm bx0.2.2 by0.2.2 bx0.2.1 by0.2.1 (P:=fun b=>w.heap.size<=b) (fun b p=>by have p':w.heap.size<=b:=p;omega) PV
   rw[text_of hb]at HC
   go_wp2_with fail
   refine HC.mono ?_
   intro e w1 hp
   cases hA:fin (Pu.toks s 0) (opM (Pu.toks s 0) (qbh (Pu.toks s 0) (smE s n)) kStar (tk (Pu.toks s 0) k).frm nd kr)with
   |error f'=>
    obtain⟨rfl,hb'⟩:=hp.bad hA
    exact⟨rfl,RuleX.stop (uh hE2) hA (fun a q h=>stall_prodF _ _ _ _ q h) (K.trans hb')⟩
   |ok rr=>
   obtain⟨a,k2⟩:=rr
   obtain⟨v1,rfl,hb1,S1,P1⟩:=hp.ok hA
   obtain⟨t1,x1,rfl⟩:=PE.iface P1
   have hlt:kr<k2:=by
    obtain⟨_,j,h1,h2⟩:=qad (m:=(qbh (Pu.toks s 0) (smE s n))) (k:=kr+1) (qal hA).1
    cases h2
    have:=hlts _ _ _ h1
    omega
   have HE3:=ai ((uh hE2).trans (qae hA))
   have HP1:=ai P1
   have HS1:=ai S1
   have zw:=K.size
   have HK1:=ai (K.trans hb1)
   clear hp hA HC hE2 P1 S1 hb1 R K c ff z hl hM PV hg
   go_wp2_with fail
   go_roundg((Pu.toks s 0).length-k2)
   case measure=>rw[uh hgk];omega
   case rel=>exact⟨k2,_,f,uh HS1,uh HK1,ai rfl,by omega,PE.wide (uh HP1) fun b p=>p.elim id fun p=>(by have p':wr.heap.size<=b:=p;show w.heap.size<=b;omega),HE3,by omega⟩
  have n0:isT (tk (Pu.toks s 0) kr) kStar=false:=by simpa using hb
  clear hb
  rw[got_leftProd ho R.ok n0 x0 y0]at hl
  simp only[qc2]at hl
  have hE2:=ai ((uh hE).trans (prodF_end n0))
  go_wp2_with fail
  go_ret
  exact RuleX.done (uh hE2) K R PV
theorem SX.g_(h:SX w N rb sb m s k){b:Nat}(hb:m.g=.map (some b)):∃x0 y0 x1 y1,BoxAt w N rb x0 #[rp rb]/\BoxAt w N rb y0 #[mth 283 rb]/\BoxAt w N rb x1 #[rp rb]/\BoxAt w N rb y1 #[mth 283 rb]/\MS Value.string w b [(kPlus,opR x0 y0),(kMinus,opR x1 y1)]:=by
 obtain⟨x0,y0,x1,y1,h0,g0,h1,g1,b',e,_,_,hM⟩:=h.ev.mp.sm
 rw[hb]at e
 cases e
 exact⟨x0,y0,x1,y1,h0,g0,h1,g1,hM⟩
theorem SX.gm(h:SX w N rb sb m s k):∃b,m.g=.map (some b):=by
 obtain⟨x0,y0,x1,y1,h0,g0,h1,g1,b',e,_,_,hM⟩:=h.ev.mp.sm
 exact⟨b',e⟩
theorem got_leftSum{t:Pu.Tok}(ho:qd5 t)(h6:t.kind≠6)(n0:isT t kPlus=false)(n1:isT t kMinus=false)(x0 y0 x1 y1:Nat):got (qaj t) [(kPlus,opR x0 y0),(kMinus,opR x1 y1)]=none:=by
 rcases ho.kd with h'|h'|h'|h'|h'|h'|h'
 .rw[qc7 h'];rfl
 .rw[qc0 h'];rfl
 .rw[qc1 h'];rfl
 .rw[qc8 h'];rfl
 .rw[qdi h']
  refine got_no fun p hp=>?_
  simp only[List.mem_cons,List.not_mem_nil,or_false]at hp
  rcases hp with rfl|rfl
  .exact qd0 h' n0
  .exact qd0 h' n1
 .exact absurd h' h6
 .rw[qc9 h'];rfl
theorem leftSum_X{n:Nat}(hs:s.size<=1000)(hT:(Pu.toks s 0).length<=1001)(HF:SubC s n 283 (qby (Pu.toks s 0) (qbh (Pu.toks s 0) (smE s n))))(hst:qbm (Pu.toks s 0) (qby (Pu.toks s 0) (qbh (Pu.toks s 0) (smE s n))))(hlts:Lts (qby (Pu.toks s 0) (qbh (Pu.toks s 0) (smE s n))))(h:SX w N rb sb m s k)(hn:(Pu.toks s 0).length<=k+1+n){b:Nat}(hmb:m.g=.map (some b)):
 Calls Tryz.prog 346 #[rp rb,mth 283 rb,.map (some b)] w (RuleX PE N rb sb m s (sumM (Pu.toks s 0) (qby (Pu.toks s 0) (qbh (Pu.toks s 0) (smE s n))) k) w):=by
 have hnot:∀(x:Bool)(w:World),(Op.unary .not (.bool x)).run Tryz.prog w=.ok (.bool (!x)) w:=fun _ _=>rfl
 have hcF:∀args w,(callFunc 283 args).run Tryz.prog w=.ok (.enter 283 args) w:=fun _ _=>by kernel_rfl
 have hcO:∀args w,(callFunc 345 args).run Tryz.prog w=.ok (.enter 345 args) w:=fun _ _=>by kernel_rfl
 have hzr:=h.z
 have HC:=HF _ _ _ _ _ _ h hn
 obtain⟨r,hr⟩:∃r,r=sumM (Pu.toks s 0) (qby (Pu.toks s 0) (qbh (Pu.toks s 0) (smE s n))) k:=⟨_,rfl⟩
 rw[<-hr]
 have HE:Hid (r=bnd (qby (Pu.toks s 0) (qbh (Pu.toks s 0) (smE s n))) (sumF (Pu.toks s 0) (qby (Pu.toks s 0) (qbh (Pu.toks s 0) (smE s n))) (tk (Pu.toks s 0) k).frm (Pu.toks s 0).length) k):=hr
 obtain⟨c,ff,z⟩:=h.bx
 clear hr
 go_enter Tryz.func346,Tryz.ntmps346
 go_wp2_with fail
 refine HC.mono ?_
 intro e w1 hp
 cases hA:fin (Pu.toks s 0) ((qby (Pu.toks s 0) (qbh (Pu.toks s 0) (smE s n))) k)with
 |error f'=>
  obtain⟨rfl,hb'⟩:=hp.bad hA
  exact⟨rfl,RuleX.stop (uh HE) hA (fun a q h=>stall_sumF _ _ _ _ q h) hb'⟩
 |ok rr=>
 obtain⟨a,k1⟩:=rr
 obtain⟨v0,rfl,hb1,S1,P1⟩:=hp.ok hA
 obtain⟨t0,x0,rfl⟩:=P1.iface
 have hlt0:=hlts _ _ _ (qal hA).1
 have HE1:=ai ((uh HE).trans (qae hA))
 have HS1:=ai S1
 have HP1:=ai P1
 have HK1:=ai hb1
 clear hp hA HC HE S1 P1 hb1 c ff z h
 go_wp2_with fail
 go_loopg[8] ((Pu.toks s 0).length-k1) (fun gk v wr=>LeftRel N rb sb m s k w r (fun f nd=>sumF (Pu.toks s 0) (qby (Pu.toks s 0) (qbh (Pu.toks s 0) (smE s n))) (tk (Pu.toks s 0) k).frm f nd) gk v wr)
 case atStart=>exact⟨k1,a,(Pu.toks s 0).length,uh HS1,uh HK1,ai rfl,hlt0,uh HP1,HE1,by omega⟩
 case round=>
  clear HS1 HP1 HK1 HE1
  obtain⟨kr,nd,f,R,K,hgk,hle,PV,hE,hfu⟩:=hrel
  obtain⟨x0,y0,x1,y1,bx0,by0,bx1,by1,hM⟩:=R.g_ hmb
  have hl:=qc4 hM Tryz.underlying243 (zeroOp _) (qaj (tk (Pu.toks s 0) kr))
  have hkr:=R.lt
  have ho:=qdb s kr hkr
  obtain⟨tv,xv,rfl⟩:=PV.iface
  obtain⟨c,ff,z⟩:=R.bx
  by_cases hb:isT (tk (Pu.toks s 0) kr) kPlus=true
  .obtain⟨f,rfl⟩:∃f',f=f'+1:=⟨f-1,by omega⟩
   have hE2:=ai ((uh hE).trans (sumF_go (Or.inl hb)))
   clear hE
   have hg:got (qaj (tk (Pu.toks s 0) kr)) [(kPlus,opR x0 y0),(kMinus,opR x1 y1)]=some (opR x0 y0):=by rw[qco hb];rfl
   rw[hg]at hl
   simp only[qc2]at hl
   have HC:=op_X hs HF hcF hst R (by omega) (by rw[text_of hb];simp) (isT_7 hb) (tk (Pu.toks s 0) k).frm bx0.2.2 by0.2.2 bx0.2.1 by0.2.1 (P:=fun b=>w.heap.size<=b) (fun b p=>by have p':w.heap.size<=b:=p;omega) PV
   go_wp2_with fail
   refine HC.mono ?_
   intro e w1 hp
   cases hA:fin (Pu.toks s 0) (opM (Pu.toks s 0) (qby (Pu.toks s 0) (qbh (Pu.toks s 0) (smE s n))) (tk (Pu.toks s 0) kr).text (tk (Pu.toks s 0) k).frm nd kr)with
   |error f'=>
    obtain⟨rfl,hb'⟩:=hp.bad hA
    exact⟨rfl,RuleX.stop (uh hE2) hA (fun a q h=>stall_sumF _ _ _ _ q h) (K.trans hb')⟩
   |ok rr=>
   obtain⟨a,k2⟩:=rr
   obtain⟨v1,rfl,hb1,S1,P1⟩:=hp.ok hA
   obtain⟨t1,x1,rfl⟩:=PE.iface P1
   have hlt:kr<k2:=by
    obtain⟨_,j,h1,h2⟩:=qad (m:=(qby (Pu.toks s 0) (qbh (Pu.toks s 0) (smE s n)))) (k:=kr+1) (qal hA).1
    cases h2
    have:=hlts _ _ _ h1
    omega
   have HE3:=ai ((uh hE2).trans (qae hA))
   have HP1:=ai P1
   have HS1:=ai S1
   have zw:=K.size
   have HK1:=ai (K.trans hb1)
   clear hp hA HC hE2 P1 S1 hb1 R K c ff z hl hM PV hg
   go_wp2_with fail
   go_roundg((Pu.toks s 0).length-k2)
   case measure=>rw[uh hgk];omega
   case rel=>exact⟨k2,_,f,uh HS1,uh HK1,ai rfl,by omega,PE.wide (uh HP1) fun b p=>p.elim id fun p=>(by have p':wr.heap.size<=b:=p;show w.heap.size<=b;omega),HE3,by omega⟩
  have n0:isT (tk (Pu.toks s 0) kr) kPlus=false:=by simpa using hb
  clear hb
  by_cases hb:isT (tk (Pu.toks s 0) kr) kMinus=true
  .obtain⟨f,rfl⟩:∃f',f=f'+1:=⟨f-1,by omega⟩
   have hE2:=ai ((uh hE).trans (sumF_go (Or.inr hb)))
   clear hE
   have hg:got (qaj (tk (Pu.toks s 0) kr)) [(kPlus,opR x0 y0),(kMinus,opR x1 y1)]=some (opR x1 y1):=by rw[qco hb];rfl
   rw[hg]at hl
   simp only[qc2]at hl
   have HC:=op_X hs HF hcF hst R (by omega) (by rw[text_of hb];simp) (isT_7 hb) (tk (Pu.toks s 0) k).frm bx1.2.2 by1.2.2 bx1.2.1 by1.2.1 (P:=fun b=>w.heap.size<=b) (fun b p=>by have p':w.heap.size<=b:=p;omega) PV
   go_wp2_with fail
   refine HC.mono ?_
   intro e w1 hp
   cases hA:fin (Pu.toks s 0) (opM (Pu.toks s 0) (qby (Pu.toks s 0) (qbh (Pu.toks s 0) (smE s n))) (tk (Pu.toks s 0) kr).text (tk (Pu.toks s 0) k).frm nd kr)with
   |error f'=>
    obtain⟨rfl,hb'⟩:=hp.bad hA
    exact⟨rfl,RuleX.stop (uh hE2) hA (fun a q h=>stall_sumF _ _ _ _ q h) (K.trans hb')⟩
   |ok rr=>
   obtain⟨a,k2⟩:=rr
   obtain⟨v1,rfl,hb1,S1,P1⟩:=hp.ok hA
   obtain⟨t1,x1,rfl⟩:=PE.iface P1
   have hlt:kr<k2:=by
    obtain⟨_,j,h1,h2⟩:=qad (m:=(qby (Pu.toks s 0) (qbh (Pu.toks s 0) (smE s n)))) (k:=kr+1) (qal hA).1
    cases h2
    have:=hlts _ _ _ h1
    omega
   have HE3:=ai ((uh hE2).trans (qae hA))
   have HP1:=ai P1
   have HS1:=ai S1
   have zw:=K.size
   have HK1:=ai (K.trans hb1)
   clear hp hA HC hE2 P1 S1 hb1 R K c ff z hl hM PV hg
   go_wp2_with fail
   go_roundg((Pu.toks s 0).length-k2)
   case measure=>rw[uh hgk];omega
   case rel=>exact⟨k2,_,f,uh HS1,uh HK1,ai rfl,by omega,PE.wide (uh HP1) fun b p=>p.elim id fun p=>(by have p':wr.heap.size<=b:=p;show w.heap.size<=b;omega),HE3,by omega⟩
  have n1:isT (tk (Pu.toks s 0) kr) kMinus=false:=by simpa using hb
  clear hb
  rw[got_leftSum ho R.ok n0 n1 x0 y0 x1 y1]at hl
  simp only[qc2]at hl
  have hE2:=ai ((uh hE).trans (sumF_end n0 n1))
  go_wp2_with fail
  go_ret
  exact RuleX.done (uh hE2) K R PV
end
end
section
open Go Go.RowKit Go.ChangeMaps
section
variable {w:World} {N rb sb:Nat} {m:MV} {s:BA} {k n:Nat}
theorem sm_lts:Lts (smE s n):=qaw (qdg n) (qa2 n) 3
theorem sm_stall:qbm (Pu.toks s 0) (smE s n):=stall_small' _ _ _
theorem calls_X(hs:s.size<=1000)(hT:(Pu.toks s 0).length<=1001)(IH:qfr s n):SubC s n 284 (qbh (Pu.toks s 0) (smE s n)):=fun w N rb sb m k h hn=>call_X hs hT IH h hn
theorem products_X(hs:s.size<=1000)(hT:(Pu.toks s 0).length<=1001)(IH:qfr s n):SubC s n 283 (qby (Pu.toks s 0) (qbh (Pu.toks s 0) (smE s n))):=by
 intro w N rb sb m k h hn
 obtain⟨b,hmb⟩:=h.hm
 have hmf:∀(fn:Fn)(first cap:Array Value)(w:World),(Instr.makeFunc fn first cap).run Tryz.prog w=.ok (.func fn first cap) w:=fun _ _ _ _=>rfl
 have HC:=leftProd_X hs hT (calls_X hs hT IH) (stall_call sm_stall) (qd8 sm_lts) h hn hmb
 obtain⟨c,ff,z⟩:=h.bx
 go_enter Tryz.func283,Tryz.ntmps283
 go_wp2_with fail
 refine HC.mono ?_
 intro e w1 hp
 cases hA:fin (Pu.toks s 0) ((qby (Pu.toks s 0) (qbh (Pu.toks s 0) (smE s n))) k)with
 |error f'=>
  obtain⟨rfl,hb'⟩:=hp.bad hA
  exact⟨rfl,hp⟩
 |ok r=>
 obtain⟨a,k2⟩:=r
 obtain⟨v,rfl,_,_,hR⟩:=hp.ok hA
 obtain⟨tv,xv,rfl⟩:=hR.iface
 go_wp2_with fail
 go_ret
 exact hp
theorem sums_X(hs:s.size<=1000)(hT:(Pu.toks s 0).length<=1001)(IH:qfr s n):SubC s n 282 (sumM (Pu.toks s 0) (qby (Pu.toks s 0) (qbh (Pu.toks s 0) (smE s n)))):=by
 intro w N rb sb m k h hn
 obtain⟨b,hmb⟩:=h.gm
 have hmf:∀(fn:Fn)(first cap:Array Value)(w:World),(Instr.makeFunc fn first cap).run Tryz.prog w=.ok (.func fn first cap) w:=fun _ _ _ _=>rfl
 have HC:=leftSum_X hs hT (products_X hs hT IH) (stall_prod (stall_call sm_stall)) (prod_lts (qd8 sm_lts)) h hn hmb
 obtain⟨c,ff,z⟩:=h.bx
 go_enter Tryz.func282,Tryz.ntmps282
 go_wp2_with fail
 refine HC.mono ?_
 intro e w1 hp
 cases hA:fin (Pu.toks s 0) ((sumM (Pu.toks s 0) (qby (Pu.toks s 0) (qbh (Pu.toks s 0) (smE s n)))) k)with
 |error f'=>
  obtain⟨rfl,hb'⟩:=hp.bad hA
  exact⟨rfl,hp⟩
 |ok r=>
 obtain⟨a,k2⟩:=r
 obtain⟨v,rfl,_,_,hR⟩:=hp.ok hA
 obtain⟨tv,xv,rfl⟩:=hR.iface
 go_wp2_with fail
 go_ret
 exact hp
theorem SX.f_(h:SX w N rb sb m s k){b:Nat}(hb:m.f=.map (some b)):∃x0 y0,BoxAt w N rb x0 #[rp rb]/\BoxAt w N rb y0 #[mth 282 rb]/\MS Value.string w b [(kLess,opR x0 y0)]:=by
 obtain⟨x0,y0,h0,g0,b',e,_,_,hM⟩:=h.ev.mp.cm
 rw[hb]at e
 cases e
 exact⟨x0,y0,h0,g0,hM⟩
theorem SX.fm(h:SX w N rb sb m s k):∃b,m.f=.map (some b):=by
 obtain⟨x0,y0,h0,g0,b',e,_,_,hM⟩:=h.ev.mp.cm
 exact⟨b',e⟩
theorem got_cmp{t:Pu.Tok}(ho:qd5 t)(h6:t.kind≠6)(n0:isT t kLess=false)(x0 y0:Nat):got (qaj t) [(kLess,opR x0 y0)]=none:=by
 rcases ho.kd with h'|h'|h'|h'|h'|h'|h'
 .rw[qc7 h'];rfl
 .rw[qc0 h'];rfl
 .rw[qc1 h'];rfl
 .rw[qc8 h'];rfl
 .rw[qdi h']
  refine got_no fun p hp=>?_
  simp only[List.mem_cons,List.not_mem_nil,or_false]at hp
  rcases hp with rfl
  exact qd0 h' n0
 .exact absurd h' h6
 .rw[qc9 h'];rfl
theorem comparison_X(hs:s.size<=1000)(hT:(Pu.toks s 0).length<=1001)(IH:qfr s n)(h:SX w N rb sb m s k)(hn:(Pu.toks s 0).length<=k+1+n):Calls Tryz.prog 369 #[rp rb] w (RuleX PE N rb sb m s (qe8 (Pu.toks s 0) (sumM (Pu.toks s 0) (qby (Pu.toks s 0) (qbh (Pu.toks s 0) (smE s n)))) k) w):=by
 have hcO:∀args w,(callFunc 345 args).run Tryz.prog w=.ok (.enter 345 args) w:=fun _ _=>by kernel_rfl
 have hcF:∀args w,(callFunc 282 args).run Tryz.prog w=.ok (.enter 282 args) w:=fun _ _=>by kernel_rfl
 have hnot:∀(x:Bool)(w:World),(Op.unary .not (.bool x)).run Tryz.prog w=.ok (.bool (!x)) w:=fun _ _=>rfl
 obtain⟨b,hmb⟩:=h.fm
 have HF:=sums_X (n:=n) hs hT IH
 have hst:qbm (Pu.toks s 0) (sumM (Pu.toks s 0) (qby (Pu.toks s 0) (qbh (Pu.toks s 0) (smE s n)))):=stall_sum (stall_prod (stall_call sm_stall))
 have hlts:Lts (sumM (Pu.toks s 0) (qby (Pu.toks s 0) (qbh (Pu.toks s 0) (smE s n)))):=sum_lts (prod_lts (qd8 sm_lts))
 have hzr:=h.z
 have HC:=HF _ _ _ _ _ _ h hn
 have HE:Hid (qe8 (Pu.toks s 0) (sumM (Pu.toks s 0) (qby (Pu.toks s 0) (qbh (Pu.toks s 0) (smE s n)))) k=bnd (sumM (Pu.toks s 0) (qby (Pu.toks s 0) (qbh (Pu.toks s 0) (smE s n)))) (lessR (T:=(Pu.toks s 0)) (sumM (Pu.toks s 0) (qby (Pu.toks s 0) (qbh (Pu.toks s 0) (smE s n)))) (tk (Pu.toks s 0) k).frm) k):=ai (less_eq _ _)
 obtain⟨c,ff,z⟩:=h.bx
 clear h
 go_enter Tryz.func369,Tryz.ntmps369
 go_wp2_with fail
 refine HC.mono ?_
 intro e w1 hp
 cases hA:fin (Pu.toks s 0) ((sumM (Pu.toks s 0) (qby (Pu.toks s 0) (qbh (Pu.toks s 0) (smE s n)))) k)with
 |error f'=>
  obtain⟨rfl,hb'⟩:=hp.bad hA
  exact⟨rfl,RuleX.stop (uh HE) hA (fun a=>stall_lessR _ _ _) hb'⟩
 |ok rr=>
 obtain⟨a,k1⟩:=rr
 obtain⟨v0,rfl,K,R,PV⟩:=hp.ok hA
 have hlt:=hlts _ _ _ (qal hA).1
 obtain⟨x0,y0,bx0,by0,hM⟩:=R.f_ hmb
 have hl:=fun q=>qc4 (hM.same (w':=w1.drewN q) rfl) Tryz.underlying243 (zeroOp _) (qaj (tk (Pu.toks s 0) k1))
 have hl0:=qc4 hM Tryz.underlying243 (zeroOp _) (qaj (tk (Pu.toks s 0) k1))
 have hkr:=R.lt
 have ho:=qdb s k1 hkr
 obtain⟨tv,xv,rfl⟩:=PV.iface
 have HE1:=ai ((uh HE).trans (qae hA))
 have z1:=K.size
 clear hp hA HE HC c ff z
 obtain⟨c,ff,z⟩:=R.bx
 by_cases hb:isT (tk (Pu.toks s 0) k1) kLess=true
 .have hg:got (qaj (tk (Pu.toks s 0) k1)) [(kLess,opR x0 y0)]=some (opR x0 y0):=by rw[qco hb];rfl
  simp only[hg,qc2]at hl hl0
  have HE2:Hid (qe8 (Pu.toks s 0) (sumM (Pu.toks s 0) (qby (Pu.toks s 0) (qbh (Pu.toks s 0) (smE s n)))) k=opM (Pu.toks s 0) (sumM (Pu.toks s 0) (qby (Pu.toks s 0) (qbh (Pu.toks s 0) (smE s n)))) (tk (Pu.toks s 0) k1).text (tk (Pu.toks s 0) k).frm a k1):=ai ((uh HE1).trans (by unfold lessR;rw[if_pos hb,text_of hb];rfl))
  have HC:=fun q=>op_X hs HF hcF hst (R.bel (qak _ q)) (by omega) (by rw[text_of hb];simp) (isT_7 hb) (tk (Pu.toks s 0) k).frm (bx0.2.2.below (qak _ q)) (by0.2.2.below (qak _ q)) bx0.2.1 by0.2.1 (P:=fun b=>w.heap.size<=b) (fun b p=>by have p':w.heap.size<=b:=p;omega) (PV.bel (qak _ q))
  go_wp2_with fail
  go_quiet(fail)
  go_wp2_with fail
  refine(HC nq).mono ?_
  intro e w2 hp
  cases hA:fin (Pu.toks s 0) (opM (Pu.toks s 0) (sumM (Pu.toks s 0) (qby (Pu.toks s 0) (qbh (Pu.toks s 0) (smE s n)))) (tk (Pu.toks s 0) k1).text (tk (Pu.toks s 0) k).frm a k1)with
  |error f'=>
   obtain⟨rfl,hb'⟩:=hp.bad hA
   exact⟨rfl,RuleX.fail ((K.below' (qak _ nq)).trans hb') (by rw[uh HE2];exact hA)⟩
  |ok rr=>
  obtain⟨a2,k2⟩:=rr
  obtain⟨v1,rfl,hb1,S1,P1⟩:=hp.ok hA
  obtain⟨t1,x1,rfl⟩:=PE.iface P1
  have HE3:=ai ((uh HE2).trans (qal hA).1)
  have HP1:=ai P1
  have HS1:=ai S1
  have HK1:=ai ((K.below' (qak _ nq)).trans hb1)
  clear hp hA HC P1 S1 hb1 c ff z hl hl0
  go_wp2_with fail
  go_ret
  exact RuleX.done (uh HE3) (uh HK1) (uh HS1) (PE.wide (uh HP1) fun b p=>p.elim id fun p=>(by have p':w1.heap.size<=b:=p;show w.heap.size<=b;omega))
 .have hb':isT (tk (Pu.toks s 0) k1) kLess=false:=by simpa using hb
  have hg:=got_cmp ho R.ok hb' x0 y0
  simp only[hg,qc2]at hl hl0
  have HE2:Hid (qe8 (Pu.toks s 0) (sumM (Pu.toks s 0) (qby (Pu.toks s 0) (qbh (Pu.toks s 0) (smE s n)))) k=.ok (a,k1)):=ai ((uh HE1).trans (by unfold lessR;rw[if_neg hb]))
  go_wp2_with fail
  go_quiet(fail)
  go_wp2_with fail
  go_ret
  exact RuleX.done (uh HE2) (K.below' (qak _ nq)) (R.bel (qak _ nq)) (PV.bel (qak _ nq))
end
end
end Go.Proofs.YtoceemjbcgmojaaGreatDoor

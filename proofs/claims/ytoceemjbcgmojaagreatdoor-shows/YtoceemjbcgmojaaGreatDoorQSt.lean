import Derived.Test.YtoceemjbcgmojaaGreatDoorQSo
set_option linter.all false
set_option maxRecDepth 100000
set_option maxHeartbeats 20000000
namespace Go.Proofs.YtoceemjbcgmojaaGreatDoor
section
open Go Go.RowKit
section
variable {rb g cap:Nat} {T:List Pu.Tok} {σ:St} {w:World}
theorem Fr.s7{S:Nat->Prop}{a w:World}(h:Fr S a w){b:Nat}(hb:S b\/a.heap.size<=b)(v0 v1 v2 v3 v4 v5 v6:Value):Fr S a (((((((w.setCell ⟨b,0,none⟩ v0).setCell ⟨b,1,none⟩ v1).setCell ⟨b,2,none⟩ v2).setCell ⟨b,3,none⟩ v3).setCell ⟨b,4,none⟩ v4).setCell ⟨b,5,none⟩ v5).setCell ⟨b,6,none⟩ v6):=
 ((((((h.set hb 0 v0).set hb 1 v1).set hb 2 v2).set hb 3 v3).set hb 4 v4).set hb 5 v5).set hb 6 v6
theorem fin0{w w10 Wf:World}{rb g cap:Nat}{T:List Pu.Tok}{σ:St}{u6:Nat}(F:Fr (fun b=>b=w.heap.size\/b=u6) w10 Wf)(hK:Ke rb w w10)(hS:SS w10 rb g cap T σ)(hr:rb<w.heap.size)(hg:g<w.heap.size)(hu:w.heap.size<u6):Ke rb w Wf/\SS Wf rb g cap T σ:=by
 have hz:=hS.hr
 have hgz:=hS.hg
 exact⟨⟨F.os.trans hK.os,F.tape.trans hK.tape,F.output.trans hK.output,Nat.le_trans hK.size F.size,fun k hk hn=>(F.block k (Nat.lt_of_lt_of_le hk hK.size) (by intro e;have e:k=w.heap.size\/k=u6:=e;omega)).trans (hK.block k hk hn)⟩,hS.same F.size (F.block rb hz (by intro e;have e:rb=w.heap.size\/rb=u6:=e;omega)) (F.block g hgz (by intro e;have e:g=w.heap.size\/g=u6:=e;omega))⟩
theorem less_fin{w w10 Wf:World}{rb g cap:Nat}{T:List Pu.Tok}{σ:St}{u6 r:Nat}{a b:Nd}{x z:NV}{P:Nat->Prop}{C:Array Value}(F:Fr (fun b=>b=w.heap.size\/b=u6) w10 Wf)(hK:Ke rb w w10)(hS:SS w10 rb g cap T σ)(hr:rb<w.heap.size)(hg:g<w.heap.size)(hu:w.heap.size<u6)(hP:∀b,P b->w.heap.size<b/\b≠u6)(hR:Bx Wf r C)(hC:C=(flat [x,z]).toArray)(hr0:w.heap.size<=r)(f t q:Nat)(ha:NR w10 P a x)(hb:NR w10 P b z):
 Ke rb w Wf/\SS Wf rb g cap T σ/\NR Wf (fun b=>w.heap.size<=b) (.mk 7 kLess 0 [a,b] f t q) ⟨7,kLess,0,some ⟨r,0,none⟩,2,2,f,t,q⟩:=by
 have hz:=hS.hr
 have hgz:=hS.hg
 refine⟨⟨F.os.trans hK.os,F.tape.trans hK.tape,F.output.trans hK.output,Nat.le_trans hK.size F.size,fun k hk hn=>(F.block k (Nat.lt_of_lt_of_le hk hK.size) (by intro e;have e:k=w.heap.size\/k=u6:=e;omega)).trans (hK.block k hk hn)⟩,hS.same F.size (F.block rb hz (by intro e;have e:rb=w.heap.size\/rb=u6:=e;omega)) (F.block g hgz (by intro e;have e:g=w.heap.size\/g=u6:=e;omega)),?_⟩
 have mv:∀{nd:Nd}{y:NV},NR w10 P nd y->NR Wf (fun b=>w.heap.size<=b) nd y:=fun k=>k.move F.size (fun c p hz=>F.block c hz (by intro e;have e:c=w.heap.size\/c=u6:=e;have:=hP c p;omega)) (fun c p _=>Nat.le_of_lt (hP c p).1)
 exact NR.two (P:=fun b=>w.heap.size<=b) 7 kLess 0 f t q hR hC (mv ha) (mv hb) hr0 2
theorem less_yes{n k:Nat}{sum:M Nd}(HS:NodeC rb g cap T 209 #[.pointer (some ⟨rb,0,none⟩)] sum n)(hm:∀k a k',sum k=.ok (a,k')->k<k')(h:SS w rb g cap T (.ok k))(hf:T.length<=k+n)(h0:isT (tk T k) kFun=false)(h1:isT (tk T k) kIf=false)(h2:isT (tk T k) qbc=false)(h3:isT (tk T k) kLet=false){a:Nd}{k1:Nat}(hp:sum k=.ok (a,k1))(hl:isT (tk T k1) kLess=true):
 Calls Tryz.prog 120 #[.pointer (some ⟨rb,0,none⟩)] w fun e w'=>∃x:NV,e=.returned x.v/\Ke rb w w'/\SS w' rb g cap T (nx (.ok (k1+1)) sum)/\∀b k',sum (k1+1)=.ok (b,k')->NR w' (fun b=>w.heap.size<=b) (.mk 7 kLess 0 [a,b] (tk T k).frm (qan T k') (tk T k).frm) x:=by
 have HS':=ai HS
 have hf':=ai hf
 have hp':=ai hp
 have hlt:=hm _ _ _ hp
 have ff:=qd4
 have i0:isS T (.ok k) kFun=false:=h0
 have i1:isS T (.ok k) kIf=false:=h1
 have i2:isS T (.ok k) qbc=false:=h2
 have i3:isS T (.ok k) kLet=false:=h3
 have hD:isS T (.ok k1) kLess=true:=hl
 have h7:(tk T k1).kind≠7:=by have:=qbe hl;omega
 clear HS hf hp hm h0 h1 h2 h3 hl
 have hr:=h.hr
 have hg:=h.hg
 have H1:=ai h
 have K2:=ai (Ke.refl rb w)
 clear h
 go_enter Tryz.func120,Tryz.ntmps120
 go_wp2_with fail
 have H3:=ai ((uh H1).alloc (.cells qat 62))
 have K4:=ai ((uh K2).alloc (.cells qat 62))
 have B5:=ai (Bx.at w qat 62 (w.heap.size) (by simp[World.setCell]))
 clear H1 K2
 refine(qb5 (uh H3)).mono ?_
 rintro e w1⟨t,rfl,hb,ht⟩
 have H6:=ai ((uh H3).below hb)
 have K7:=ai ((uh K4).below hb)
 have z8:=hb.size
 try simp[World.setCell]at z8
 have B9:=ai ((uh B5).below hb)
 clear H3 K4 B5 hb
 obtain⟨c10,f11,y12⟩:=uh B9
 have Ht:=ai ht
 clear ht
 unfold tokV
 go_wp2_with fail
 clear c10 f11 y12
 refine(is_S (uh H6) kFun).mono ?_
 rintro e w2⟨rfl,hb⟩
 have H16:=ai ((uh H6).below hb)
 have K17:=ai ((uh K7).below hb)
 have z18:=hb.size
 try simp[World.setCell]at z18
 have B19:=ai ((uh B9).below hb)
 clear H6 K7 B9 hb
 obtain⟨c20,f21,y22⟩:=uh B19
 go_wp2_with fail
 clear c20 f21 y22
 refine(is_S (uh H16) kIf).mono ?_
 rintro e w3⟨rfl,hb⟩
 have H26:=ai ((uh H16).below hb)
 have K27:=ai ((uh K17).below hb)
 have z28:=hb.size
 try simp[World.setCell]at z28
 have B29:=ai ((uh B19).below hb)
 clear H16 K17 B19 hb
 obtain⟨c30,f31,y32⟩:=uh B29
 go_wp2_with fail
 clear c30 f31 y32
 refine(is_S (uh H26) qbc).mono ?_
 rintro e w4⟨rfl,hb⟩
 have H36:=ai ((uh H26).below hb)
 have K37:=ai ((uh K27).below hb)
 have z38:=hb.size
 try simp[World.setCell]at z38
 have B39:=ai ((uh B29).below hb)
 clear H26 K27 B29 hb
 obtain⟨c40,f41,y42⟩:=uh B39
 go_wp2_with fail
 clear c40 f41 y42
 refine(is_S (uh H36) kLet).mono ?_
 rintro e w5⟨rfl,hb⟩
 have H46:=ai ((uh H36).below hb)
 have K47:=ai ((uh K37).below hb)
 have z48:=hb.size
 try simp[World.setCell]at z48
 have B49:=ai ((uh B39).below hb)
 clear H36 K37 B39 hb
 obtain⟨c50,f51,y52⟩:=uh B49
 go_wp2_with fail
 clear c50 f51 y52
 refine(uh HS' _ _ (uh H46) (by intro j hj;cases hj;exact uh hf')).mono ?_
 rintro e w6⟨x,rfl,hb,hS,hN⟩
 have H56:=ai hS
 have K57:=ai ((uh K47).trans hb)
 have z58:=hb.size
 try simp[World.setCell]at z58
 have B59:=ai ((uh B49).ke hb (by omega))
 clear H46 K47 B49 hb hS
 obtain⟨c60,f61,y62⟩:=uh B59
 rw[qas (uh hp')]at H56
 have hN1:=ai ((hN _ _ _ rfl (uh hp')).rng w5.heap.size (fun b hb=>by simpa using hb))
 clear hN
 have ht':=uh Ht k rfl
 subst ht'
 clear Ht
 unfold NV.v
 go_wp2_with fail
 have H63:=ai ((uh H56).alloc (.cells (nvA x) 62))
 have K64:=ai ((uh K57).alloc (.cells (nvA x) 62))
 have B65:=ai ((uh B59).alloc (.cells (nvA x) 62))
 have B66:=ai (Bx.at w6 (nvA x) 62 (w6.heap.size) (by simp[World.setCell]))
 have R67:=ai ((NR.bel (uh hN1) (bw (.cells (nvA x) 62))))
 clear H56 K57 B59 hN1 c60 f61 y62
 refine(is_S (uh H63) kLess).mono ?_
 rintro e w7⟨rfl,hb⟩
 have H68:=ai ((uh H63).below hb)
 have K69:=ai ((uh K64).below hb)
 have z70:=hb.size
 try simp[World.setCell]at z70
 have B71:=ai ((uh B65).below hb)
 have B72:=ai ((uh B66).below hb)
 have R73:=ai (NR.bel (uh R67) hb)
 clear H63 K64 B65 B66 R67 hb
 obtain⟨c74,f75,y76⟩:=uh B71
 obtain⟨c77,f78,y79⟩:=uh B72
 go_wp2_with fail
 clear c74 f75 y76 c77 f78 y79
 refine(qcp (uh H68) h7).mono ?_
 rintro e w8⟨rfl,hb,hS⟩
 have H84:=ai hS
 have K85:=ai ((uh K69).trans hb)
 have z86:=hb.size
 try simp[World.setCell]at z86
 have B87:=ai ((uh B71).ke hb (by omega))
 have B88:=ai ((uh B72).ke hb (by omega))
 have R89:=ai (NR.ke (uh R73) hb (fun b hb=>by omega))
 clear H68 K69 B71 B72 R73 hb hS
 obtain⟨c90,f91,y92⟩:=uh B87
 obtain⟨c93,f94,y95⟩:=uh B88
 go_wp2_with fail
 clear c90 f91 y92 c93 f94 y95
 refine(uh HS' _ _ (uh H84) (by intro j hj;cases hj;have:=uh hf';omega)).mono ?_
 rintro e w9⟨z,rfl,hb,hS,hN⟩
 have H100:=ai hS
 have K101:=ai ((uh K85).trans hb)
 have z102:=hb.size
 try simp[World.setCell]at z102
 have B103:=ai ((uh B87).ke hb (by omega))
 have B104:=ai ((uh B88).ke hb (by omega))
 have R105:=ai (NR.ke (uh R89) hb (fun b hb=>by omega))
 clear H84 K85 B87 B88 R89 hb hS
 obtain⟨c106,f107,y108⟩:=uh B103
 obtain⟨c109,f110,y111⟩:=uh B104
 have hNz:=ai (fun b k2 (hq:sum (k1+1)=.ok (b,k2))=>(hN _ b k2 rfl hq).rng w8.heap.size (fun b hb=>by simpa using hb))
 clear hN
 unfold NV.v
 go_wp2_with fail
 have H112:=ai ((uh H100).alloc (.cells (nvA z) 62))
 have K113:=ai ((uh K101).alloc (.cells (nvA z) 62))
 have B114:=ai ((uh B103).alloc (.cells (nvA z) 62))
 have B115:=ai ((uh B104).alloc (.cells (nvA z) 62))
 have B116:=ai (Bx.at w9 (nvA z) 62 (w9.heap.size) (by simp[World.setCell]))
 have R117:=ai ((NR.bel (uh R105) (bw (.cells (nvA z) 62))))
 have R118:=ai (fun b k2 hq=>(NR.bel (uh hNz b k2 hq) (bw (.cells (nvA z) 62))))
 clear H100 K101 B103 B104 R105 hNz
 have HX:∀W,(W=(w9.alloc (.cells (nvA z) 62)).drew\/W=((w9.alloc (.cells (nvA z) 62)).alloc (.cells (nvB x z) 62)).drew)->SS W rb g cap T (nx (.ok (k1+1)) sum)/\∀w10,Below W.heap.size W w10->SS w10 rb g cap T (nx (.ok (k1+1)) sum)/\Ke rb w w10/\Bx w10 (w.heap.size) #[.int .i64 0,.string ⟨#[]⟩,.int .i64 0,.slice none 0 0,.int .i64 0,.int .i64 0,.int .i64 0]/\Bx w10 (w6.heap.size) #[.int .i64 x.k,.string x.s,.int .i64 x.n,.slice x.la x.ll x.lc,.int .i64 x.f,.int .i64 x.t,.int .i64 x.a]/\Bx w10 (w9.heap.size) #[.int .i64 z.k,.string z.s,.int .i64 z.n,.slice z.la z.ll z.lc,.int .i64 z.f,.int .i64 z.t,.int .i64 z.a]/\(W=((w9.alloc (.cells (nvA z) 62)).alloc (.cells (nvB x z) 62)).drew->Bx w10 (w9.heap.size+1) (nvB x z))/\NR w10 (fun b=>w.heap.size<b/\b≠w6.heap.size/\b<w9.heap.size) a x/\∀b k2,sum (k1+1)=.ok (b,k2)->NR w10 (fun b=>w.heap.size<b/\b≠w6.heap.size/\b<w9.heap.size) b z:=by
  rintro W(rfl|rfl)
  .exact⟨(uh H112).drew,fun w10 hb=>⟨((uh H112).drew).below hb,((uh K113).drew).below hb,((uh B114).drew).below hb,((uh B115).drew).below hb,((uh B116).drew).below hb,fun e=>absurd (congrArg (fun w=>w.heap.size) e) (by simp),(((uh R117).move (br _) (fun _ _ _=>rfl) (fun b hb _=>by omega)).bel ((Below.refl _ _).drew)).bel hb,fun b k2 hq=>(((uh R118 b k2 hq).move (br _) (fun _ _ _=>rfl) (fun b hb _=>by omega)).bel ((Below.refl _ _).drew)).bel hb⟩⟩
  .exact⟨((uh H112).alloc (.cells (nvB x z) 62)).drew,fun w10 hb=>⟨(((uh H112).alloc (.cells (nvB x z) 62)).drew).below hb,(((uh K113).alloc (.cells (nvB x z) 62)).drew).below hb,(((uh B114).alloc (.cells (nvB x z) 62)).drew).below hb,(((uh B115).alloc (.cells (nvB x z) 62)).drew).below hb,(((uh B116).alloc (.cells (nvB x z) 62)).drew).below hb,fun _=>((Bx.at _ (nvB x z) 62 (w9.heap.size+1) (by simp)).drew).below hb,(((uh R117).move (br _) (fun _ _ _=>rfl) (fun b hb _=>by omega)).bel ((bw (.cells (nvB x z) 62)).drew)).bel hb,fun b k2 hq=>(((uh R118 b k2 hq).move (br _) (fun _ _ _=>rfl) (fun b hb _=>by omega)).bel ((bw (.cells (nvB x z) 62)).drew)).bel hb⟩⟩
 have HX1:=ai HX
 clear HX
 go_region_with(go_at_call 206;refine(qd1 (uh HX1 _ (by first|exact Or.inl rfl|exact Or.inr rfl)).1).mono ?_;rintro e w10⟨m,rfl,hb,hn⟩;obtain⟨S7,K7,b70,b71,b72,R7,Na7,Nb7⟩:=(uh HX1 _ (by first|exact Or.inl rfl|exact Or.inr rfl)).2 _ hb;have zz:=hb.size;have HB70:=ai b70;obtain⟨q0c,q0f,q0z⟩:=b70;have HB71:=ai b71;obtain⟨q1c,q1f,q1z⟩:=b71;have HB72:=ai b72;obtain⟨q2c,q2f,q2z⟩:=b72;have HS7:=ai S7;have HK7:=ai K7;have HNa:=ai Na7;have HNb:=ai Nb7;have Hn:=ai hn;first|(have hRw:=R7 rfl;have HRow:=ai hRw;clear hRw)|(have HNo:Hid (0=0):=rfl);clear S7 K7 Na7 Nb7 R7 hb hn)
 all_goals
  go_wp2_with fail
  have h6w:w.heap.size<w6.heap.size:=by omega
  have hne6:w.heap.size≠w6.heap.size:=Nat.ne_of_lt h6w
  first
  |(have hRw:=uh HRow
    have F:=(((Fr.refl (fun b=>b=w.heap.size\/b=w6.heap.size) w10).s7 (b:=w6.heap.size) (Or.inl (Or.inr rfl)) (.int .i64 7) (.string kLess) (.int .i64 0) (.slice (some ⟨w9.heap.size+1,0,none⟩) 2 2) (.int .i64 ((tk T k).frm:Int)) (.int .i64 (m:Int)) (.int .i64 ((tk T k).frm:Int))).s7 (b:=w.heap.size) (Or.inl (Or.inl rfl)) (.int .i64 7) (.string kLess) (.int .i64 0) (.slice (some ⟨w9.heap.size+1,0,none⟩) 2 2) (.int .i64 ((tk T k).frm:Int)) (.int .i64 (m:Int)) (.int .i64 ((tk T k).frm:Int)))
    have BF:=(((uh HB70).setO7 (b:=w6.heap.size) hne6 (.int .i64 7) (.string kLess) (.int .i64 0) (.slice (some ⟨w9.heap.size+1,0,none⟩) 2 2) (.int .i64 ((tk T k).frm:Int)) (.int .i64 (m:Int)) (.int .i64 ((tk T k).frm:Int))).set7 rfl (.int .i64 7) (.string kLess) (.int .i64 0) (.slice (some ⟨w9.heap.size+1,0,none⟩) 2 2) (.int .i64 ((tk T k).frm:Int)) (.int .i64 (m:Int)) (.int .i64 ((tk T k).frm:Int)))
    obtain⟨cF,fF,zF⟩:=BF
    have hRF:=(hRw.setO7 (b:=w6.heap.size) (by omega) (.int .i64 7) (.string kLess) (.int .i64 0) (.slice (some ⟨w9.heap.size+1,0,none⟩) 2 2) (.int .i64 ((tk T k).frm:Int)) (.int .i64 (m:Int)) (.int .i64 ((tk T k).frm:Int))).setO7 (b:=w.heap.size) (by omega) (.int .i64 7) (.string kLess) (.int .i64 0) (.slice (some ⟨w9.heap.size+1,0,none⟩) 2 2) (.int .i64 ((tk T k).frm:Int)) (.int .i64 (m:Int)) (.int .i64 ((tk T k).frm:Int))
    refine bodyPost_ret (v:=NV.v ⟨7,kLess,0,some ⟨w9.heap.size+1,0,none⟩,2,2,((tk T k).frm:Int),(m:Int),((tk T k).frm:Int)⟩) (by simp[results,Tryz.results120,go_sem,cF,NV.v];try rfl) rfl ⟨_,rfl,?_⟩
    have fin:=fun b q=>less_fin (b:=b) F (uh HK7) (uh HS7) hr hg h6w (fun b hb=>⟨by omega,hb.2.1⟩) hRF rfl (by omega) (tk T k).frm m (tk T k).frm (uh HNa) q
    refine⟨(fin0 F (uh HK7) (uh HS7) hr hg h6w).1,(fin0 F (uh HK7) (uh HS7) hr hg h6w).2,fun b k' hq=>?_⟩
    rw[<-uh Hn k' (qas hq)]
    exact(fin b (uh HNb b k' hq)).2.2)
  |(have hNo:=HNo
    have F:=(((Fr.refl (fun b=>b=w.heap.size\/b=w6.heap.size) w10).s7 (b:=w6.heap.size) (Or.inl (Or.inr rfl)) (.int .i64 7) (.string kLess) (.int .i64 0) (.slice (some ⟨w10.heap.size,0,none⟩) 2 2) (.int .i64 ((tk T k).frm:Int)) (.int .i64 (m:Int)) (.int .i64 ((tk T k).frm:Int))).s7 (b:=w.heap.size) (Or.inl (Or.inl rfl)) (.int .i64 7) (.string kLess) (.int .i64 0) (.slice (some ⟨w10.heap.size,0,none⟩) 2 2) (.int .i64 ((tk T k).frm:Int)) (.int .i64 (m:Int)) (.int .i64 ((tk T k).frm:Int))).trans (Fr.of (bw (.cells (nvB x z) 62)))
    have BF:=(((uh HB70).setO7 (b:=w6.heap.size) hne6 (.int .i64 7) (.string kLess) (.int .i64 0) (.slice (some ⟨w10.heap.size,0,none⟩) 2 2) (.int .i64 ((tk T k).frm:Int)) (.int .i64 (m:Int)) (.int .i64 ((tk T k).frm:Int))).set7 rfl (.int .i64 7) (.string kLess) (.int .i64 0) (.slice (some ⟨w10.heap.size,0,none⟩) 2 2) (.int .i64 ((tk T k).frm:Int)) (.int .i64 (m:Int)) (.int .i64 ((tk T k).frm:Int))).alloc (.cells (nvB x z) 62)
    obtain⟨cF,fF,zF⟩:=BF
    have hRF:=Bx.at ((((((((((((((w10.setCell ⟨w6.heap.size,0,none⟩ (.int .i64 7)).setCell ⟨w6.heap.size,1,none⟩ (.string kLess)).setCell ⟨w6.heap.size,2,none⟩ (.int .i64 0)).setCell ⟨w6.heap.size,3,none⟩ (.slice (some ⟨w10.heap.size,0,none⟩) 2 2)).setCell ⟨w6.heap.size,4,none⟩ (.int .i64 ((tk T k).frm:Int))).setCell ⟨w6.heap.size,5,none⟩ (.int .i64 (m:Int))).setCell ⟨w6.heap.size,6,none⟩ (.int .i64 ((tk T k).frm:Int))).setCell ⟨w.heap.size,0,none⟩ (.int .i64 7)).setCell ⟨w.heap.size,1,none⟩ (.string kLess)).setCell ⟨w.heap.size,2,none⟩ (.int .i64 0)).setCell ⟨w.heap.size,3,none⟩ (.slice (some ⟨w10.heap.size,0,none⟩) 2 2)).setCell ⟨w.heap.size,4,none⟩ (.int .i64 ((tk T k).frm:Int))).setCell ⟨w.heap.size,5,none⟩ (.int .i64 (m:Int))).setCell ⟨w.heap.size,6,none⟩ (.int .i64 ((tk T k).frm:Int))) (nvB x z) 62 (w10.heap.size) (by simp[World.setCell])
    refine bodyPost_ret (v:=NV.v ⟨7,kLess,0,some ⟨w10.heap.size,0,none⟩,2,2,((tk T k).frm:Int),(m:Int),((tk T k).frm:Int)⟩) (by simp[results,Tryz.results120,go_sem,cF,NV.v];try rfl) rfl ⟨_,rfl,?_⟩
    have fin:=fun b q=>less_fin (b:=b) F (uh HK7) (uh HS7) hr hg h6w (fun b hb=>⟨by omega,hb.2.1⟩) hRF rfl (by omega) (tk T k).frm m (tk T k).frm (uh HNa) q
    refine⟨(fin0 F (uh HK7) (uh HS7) hr hg h6w).1,(fin0 F (uh HK7) (uh HS7) hr hg h6w).2,fun b k' hq=>?_⟩
    rw[<-uh Hn k' (qas hq)]
    exact(fin b (uh HNb b k' hq)).2.2)
end
end
end Go.Proofs.YtoceemjbcgmojaaGreatDoor

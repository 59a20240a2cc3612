import Derived.Test.YtoceemjbcgmojaaGreatDoorQXn
set_option linter.all false
set_option maxRecDepth 100000
set_option maxHeartbeats 2000000
namespace Go.Proofs.YtoceemjbcgmojaaGreatDoor
section
open Go Go.RowKit Go.ChangeMaps
section
variable {w:World} {N rb sb:Nat} {m:MV} {s:BA} {k n:Nat}
theorem name_in{k k':Nat}{t:Pu.Tok}(h:qa7 (Pu.toks s 0) 1 k=.ok (t,k'))(hk:k<(Pu.toks s 0).length):LowN t.text/\t.to=t.frm+t.text.size:=by
 unfold qa7 at h
 split at h
 .rename_i hq
  cases h
  have:=tk_in s k hk
  exact⟨this.v1 (by simpa using hq),this.sp⟩
 .cases h
theorem function_X(hs:s.size<=1000)(IH:qfr s n)(h:SX w N rb sb m s k)(hn:(Pu.toks s 0).length<=k+1+n):
 Calls Tryz.prog 258 #[rp rb] w (RuleX PE N rb sb m s (funM (Pu.toks s 0) (qaq (Pu.toks s 0) n) k) w):=by
 have hf1:=qe6
 have hf2:=spn175
 have hnot:∀(x:Bool)(w:World),(Op.unary .not (.bool x)).run Tryz.prog w=.ok (.bool (!x)) w:=fun _ _=>rfl
 have hz:=h.z
 have S1:=ai h
 have K2:=ai (Ke.refl rb w)
 have E3:Hid (funM (Pu.toks s 0) (qaq (Pu.toks s 0) n) k=bnd (qag (Pu.toks s 0) kFun) (fun _=>bnd (qa7 (Pu.toks s 0) 1) (fun t=>bnd (qag (Pu.toks s 0) kArrow) (fun _=>bnd (qaq (Pu.toks s 0) n) (fun e=>fun k'=>.ok (Nd.mk 9 t.text 0 [e] (tk (Pu.toks s 0) k).frm (qan (Pu.toks s 0) k') t.frm,k'))))) k):=ai rfl
 clear h
 go_enter Tryz.func258,Tryz.ntmps258
 go_wp2_with fail
 refine(qcg (uh S1) hs kFun (by decide)).mono ?_
 intro e w1 hp
 cases hA:fin (Pu.toks s 0) (qag (Pu.toks s 0) kFun k)with
 |error f'=>
  obtain⟨rfl,hb⟩:=hp.bad hA
  exact⟨rfl,RuleX.stop (uh E3) hA (fun a=>qaf (qfj _ _ (by decide)) fun _=>qaf (qap _ _) fun _=>qaf (qa1 _) fun _=>qao _) ((uh K2).trans hb)⟩
 |ok r'=>
 obtain⟨_uw1,k1⟩:=r'
 obtain⟨vw1,rfl,hb,hS,hR⟩:=hp.ok hA
 have S4:=ai hS
 have K5:=ai ((uh K2).trans hb)
 have E6:=ai ((uh E3).trans (qae hA))
 have qw1:=(qal hA).1
 have zw1:=hb.size
 try simp at zw1
 cases hR
 clear hp hb hS hA S1 K2 E3
 have ew1:=qah _ _ _ _ qw1
 go_wp2_with fail
 have lw2:=(uh S4).lt
 refine(name_X (uh S4) hs 1 kLow (Or.inl ⟨rfl,rfl⟩)).mono ?_
 intro e w2 hp
 cases hA:fin (Pu.toks s 0) (qa7 (Pu.toks s 0) 1 k1)with
 |error f'=>
  obtain⟨rfl,hb⟩:=hp.bad hA
  exact⟨rfl,RuleX.stop (uh E6) hA (fun a=>qaf (qap _ _) fun _=>qaf (qa1 _) fun _=>qao _) ((uh K5).trans hb)⟩
 |ok r'=>
 obtain⟨t,k2⟩:=r'
 obtain⟨vw2,rfl,hb,hS,hR⟩:=hp.ok hA
 have S7:=ai hS
 have K8:=ai ((uh K5).trans hb)
 have E9:=ai ((uh E6).trans (qae hA))
 have qw2:=(qal hA).1
 have zw2:=hb.size
 try simp at zw2
 cases hR
 clear hp hb hS hA S4 K5 E6
 have ew2:=qbk _ _ _ _ qw2
 have Ht:=ai (name_in qw2 lw2)
 go_wp2_with fail
 have S10:=ai ((uh S7).bel (bw (.cells #[.int .i64 (t.frm:Int),.int .i64 (t.to:Int),.string t.text] 214)))
 have K11:=ai ((uh K8).below' (bw (.cells #[.int .i64 (t.frm:Int),.int .i64 (t.to:Int),.string t.text] 214)))
 clear S7 K8
 have B12:=ai (Bx.at w2 #[.int .i64 (t.frm:Int),.int .i64 (t.to:Int),.string t.text] 214 (w2.heap.size) (by simp))
 refine(qcg (uh S10) hs kArrow (by decide)).mono ?_
 intro e w3 hp
 cases hA:fin (Pu.toks s 0) (qag (Pu.toks s 0) kArrow k2)with
 |error f'=>
  obtain⟨rfl,hb⟩:=hp.bad hA
  exact⟨rfl,RuleX.stop (uh E9) hA (fun a=>qaf (qa1 _) fun _=>qao _) ((uh K11).trans hb)⟩
 |ok r'=>
 obtain⟨_uw3,k3⟩:=r'
 obtain⟨vw3,rfl,hb,hS,hR⟩:=hp.ok hA
 have S13:=ai hS
 have K14:=ai ((uh K11).trans hb)
 have E15:=ai ((uh E9).trans (qae hA))
 have qw3:=(qal hA).1
 have zw3:=hb.size
 try simp at zw3
 have B16:=ai ((uh B12).ke' hb (by omega))
 clear B12
 cases hR
 clear hp hb hS hA S10 K11 E9
 have ew3:=qah _ _ _ _ qw3
 go_wp2_with fail
 refine(IH _ _ _ _ _ _ (uh S13) (by omega)).mono ?_
 intro e w4 hp
 cases hA:fin (Pu.toks s 0) (qaq (Pu.toks s 0) n k3)with
 |error f'=>
  obtain⟨rfl,hb⟩:=hp.bad hA
  exact⟨rfl,RuleX.stop (uh E15) hA (fun a=>qao _) ((uh K14).trans hb)⟩
 |ok r'=>
 obtain⟨a,k4⟩:=r'
 obtain⟨v4,rfl,hb,hS,hR⟩:=hp.ok hA
 have S17:=ai hS
 have K18:=ai ((uh K14).trans hb)
 have E19:=ai ((uh E15).trans (qae hA))
 have qw4:=(qal hA).1
 have zw4:=hb.size
 try simp at zw4
 have B20:=ai ((uh B16).ke' hb (by omega))
 clear B16
 have V21:=ai hR
 obtain⟨tv4,xv4,rfl⟩:=hR.iface
 clear hp hb hS hA S13 K14 E15 hR
 have ew4:=qci n _ _ _ qw4
 go_wp2_with fail
 obtain⟨c22,f23,z24⟩:=uh B20
 go_wp2_with fail
 go_region_with(go_at_call 214;refine(qcr ((uh S17).bel (Below.refl _ _).drew) _).mono ?_;rintro e w5⟨rfl,hb⟩;have S25:=ai (((uh S17).bel (Below.refl _ _).drew).bel hb);have K26:=ai (((uh K18).below' (Below.refl _ _).drew).below' hb);have V27:=ai (((uh V21).bel (Below.refl _ _).drew).bel hb);have B28:=ai ((uh B20).drew'.below hb);obtain⟨c29,fc29,zc29⟩:=uh B28;clear hb)
 all_goals(
  go_wp2_with fail
  go_ret
  exact RuleX.done (uh E19) (uh K26) (uh S25) (.fn _ _ _ _ _ _ _ _ (uh Ht).1 (uh Ht).2 ((uh V27).wide fun b p=>by have p':w3.heap.size<=b:=p;show w.heap.size<=b;omega)))
theorem choice_X(hs:s.size<=1000)(IH:qfr s n)(h:SX w N rb sb m s k)(hn:(Pu.toks s 0).length<=k+1+n):
 Calls Tryz.prog 260 #[rp rb] w (RuleX PE N rb sb m s (qdr (Pu.toks s 0) (qaq (Pu.toks s 0) n) k) w):=by
 have hf1:=qe6
 have hf2:=spn175
 have hnot:∀(x:Bool)(w:World),(Op.unary .not (.bool x)).run Tryz.prog w=.ok (.bool (!x)) w:=fun _ _=>rfl
 have hz:=h.z
 have S1:=ai h
 have K2:=ai (Ke.refl rb w)
 have E3:Hid (qdr (Pu.toks s 0) (qaq (Pu.toks s 0) n) k=bnd (qag (Pu.toks s 0) kIf) (fun _=>bnd (qaq (Pu.toks s 0) n) (fun a=>bnd (qag (Pu.toks s 0) qdo) (fun _=>bnd (qaq (Pu.toks s 0) n) (fun b=>bnd (qag (Pu.toks s 0) qer) (fun _=>bnd (qaq (Pu.toks s 0) n) (fun c=>fun k'=>.ok (Nd.mk 12 kNo 0 [a,b,c] (tk (Pu.toks s 0) k).frm (qan (Pu.toks s 0) k') (tk (Pu.toks s 0) k).frm,k'))))))) k):=ai rfl
 clear h
 go_enter Tryz.func260,Tryz.ntmps260
 go_wp2_with fail
 refine(qcg (uh S1) hs kIf (by decide)).mono ?_
 intro e w1 hp
 cases hA:fin (Pu.toks s 0) (qag (Pu.toks s 0) kIf k)with
 |error f'=>
  obtain⟨rfl,hb⟩:=hp.bad hA
  exact⟨rfl,RuleX.stop (uh E3) hA (fun a=>qaf (qa1 _) fun _=>qaf (qap _ _) fun _=>qaf (qa1 _) fun _=>qaf (qap _ _) fun _=>qaf (qa1 _) fun _=>qao _) ((uh K2).trans hb)⟩
 |ok r'=>
 obtain⟨_uw1,k1⟩:=r'
 obtain⟨vw1,rfl,hb,hS,hR⟩:=hp.ok hA
 have S4:=ai hS
 have K5:=ai ((uh K2).trans hb)
 have E6:=ai ((uh E3).trans (qae hA))
 have qw1:=(qal hA).1
 have zw1:=hb.size
 try simp at zw1
 cases hR
 clear hp hb hS hA S1 K2 E3
 have ew1:=qah _ _ _ _ qw1
 go_wp2_with fail
 refine(IH _ _ _ _ _ _ (uh S4) (by omega)).mono ?_
 intro e w2 hp
 cases hA:fin (Pu.toks s 0) (qaq (Pu.toks s 0) n k1)with
 |error f'=>
  obtain⟨rfl,hb⟩:=hp.bad hA
  exact⟨rfl,RuleX.stop (uh E6) hA (fun a=>qaf (qap _ _) fun _=>qaf (qa1 _) fun _=>qaf (qap _ _) fun _=>qaf (qa1 _) fun _=>qao _) ((uh K5).trans hb)⟩
 |ok r'=>
 obtain⟨a,k2⟩:=r'
 obtain⟨v2,rfl,hb,hS,hR⟩:=hp.ok hA
 have S7:=ai hS
 have K8:=ai ((uh K5).trans hb)
 have E9:=ai ((uh E6).trans (qae hA))
 have qw2:=(qal hA).1
 have zw2:=hb.size
 try simp at zw2
 have V10:=ai hR
 obtain⟨tv2,xv2,rfl⟩:=hR.iface
 clear hp hb hS hA S4 K5 E6 hR
 have ew2:=qci n _ _ _ qw2
 go_wp2_with fail
 refine(qcg (uh S7) hs qdo (by decide)).mono ?_
 intro e w3 hp
 cases hA:fin (Pu.toks s 0) (qag (Pu.toks s 0) qdo k2)with
 |error f'=>
  obtain⟨rfl,hb⟩:=hp.bad hA
  exact⟨rfl,RuleX.stop (uh E9) hA (fun a=>qaf (qa1 _) fun _=>qaf (qap _ _) fun _=>qaf (qa1 _) fun _=>qao _) ((uh K8).trans hb)⟩
 |ok r'=>
 obtain⟨_uw3,k3⟩:=r'
 obtain⟨vw3,rfl,hb,hS,hR⟩:=hp.ok hA
 have S11:=ai hS
 have K12:=ai ((uh K8).trans hb)
 have E13:=ai ((uh E9).trans (qae hA))
 have qw3:=(qal hA).1
 have zw3:=hb.size
 try simp at zw3
 have V14:=ai ((uh V10).ke hb (fun b p=>by show b≠rb;have p':w1.heap.size<=b:=p;omega))
 clear V10
 cases hR
 clear hp hb hS hA S7 K8 E9
 have ew3:=qah _ _ _ _ qw3
 go_wp2_with fail
 refine(IH _ _ _ _ _ _ (uh S11) (by omega)).mono ?_
 intro e w4 hp
 cases hA:fin (Pu.toks s 0) (qaq (Pu.toks s 0) n k3)with
 |error f'=>
  obtain⟨rfl,hb⟩:=hp.bad hA
  exact⟨rfl,RuleX.stop (uh E13) hA (fun a=>qaf (qap _ _) fun _=>qaf (qa1 _) fun _=>qao _) ((uh K12).trans hb)⟩
 |ok r'=>
 obtain⟨b,k4⟩:=r'
 obtain⟨v4,rfl,hb,hS,hR⟩:=hp.ok hA
 have S15:=ai hS
 have K16:=ai ((uh K12).trans hb)
 have E17:=ai ((uh E13).trans (qae hA))
 have qw4:=(qal hA).1
 have zw4:=hb.size
 try simp at zw4
 have V18:=ai ((uh V14).ke hb (fun b p=>by show b≠rb;have p':w1.heap.size<=b:=p;omega))
 clear V14
 have V19:=ai hR
 obtain⟨tv4,xv4,rfl⟩:=hR.iface
 clear hp hb hS hA S11 K12 E13 hR
 have ew4:=qci n _ _ _ qw4
 go_wp2_with fail
 refine(qcg (uh S15) hs qer (by decide)).mono ?_
 intro e w5 hp
 cases hA:fin (Pu.toks s 0) (qag (Pu.toks s 0) qer k4)with
 |error f'=>
  obtain⟨rfl,hb⟩:=hp.bad hA
  exact⟨rfl,RuleX.stop (uh E17) hA (fun a=>qaf (qa1 _) fun _=>qao _) ((uh K16).trans hb)⟩
 |ok r'=>
 obtain⟨_uw5,k5⟩:=r'
 obtain⟨vw5,rfl,hb,hS,hR⟩:=hp.ok hA
 have S20:=ai hS
 have K21:=ai ((uh K16).trans hb)
 have E22:=ai ((uh E17).trans (qae hA))
 have qw5:=(qal hA).1
 have zw5:=hb.size
 try simp at zw5
 have V23:=ai ((uh V18).ke hb (fun b p=>by show b≠rb;have p':w1.heap.size<=b:=p;omega))
 clear V18
 have V24:=ai ((uh V19).ke hb (fun b p=>by show b≠rb;have p':w3.heap.size<=b:=p;omega))
 clear V19
 cases hR
 clear hp hb hS hA S15 K16 E17
 have ew5:=qah _ _ _ _ qw5
 go_wp2_with fail
 refine(IH _ _ _ _ _ _ (uh S20) (by omega)).mono ?_
 intro e w6 hp
 cases hA:fin (Pu.toks s 0) (qaq (Pu.toks s 0) n k5)with
 |error f'=>
  obtain⟨rfl,hb⟩:=hp.bad hA
  exact⟨rfl,RuleX.stop (uh E22) hA (fun a=>qao _) ((uh K21).trans hb)⟩
 |ok r'=>
 obtain⟨c,k6⟩:=r'
 obtain⟨v6,rfl,hb,hS,hR⟩:=hp.ok hA
 have S25:=ai hS
 have K26:=ai ((uh K21).trans hb)
 have E27:=ai ((uh E22).trans (qae hA))
 have qw6:=(qal hA).1
 have zw6:=hb.size
 try simp at zw6
 have V28:=ai ((uh V23).ke hb (fun b p=>by show b≠rb;have p':w1.heap.size<=b:=p;omega))
 clear V23
 have V29:=ai ((uh V24).ke hb (fun b p=>by show b≠rb;have p':w3.heap.size<=b:=p;omega))
 clear V24
 have V30:=ai hR
 obtain⟨tv6,xv6,rfl⟩:=hR.iface
 clear hp hb hS hA S20 K21 E22 hR
 have ew6:=qci n _ _ _ qw6
 go_wp2_with fail
 refine(qcr (uh S25) _).mono ?_
 rintro e w7⟨rfl,hb⟩
 have S31:=ai ((uh S25).bel hb)
 have K32:=ai ((uh K26).below' hb)
 have zw7:=hb.size
 try simp at zw7
 have V33:=ai ((uh V28).bel hb)
 clear V28
 have V34:=ai ((uh V29).bel hb)
 clear V29
 have V35:=ai ((uh V30).bel hb)
 clear V30
 clear hb S25 K26
 go_wp2_with fail
 go_ret
 exact RuleX.done (uh E27) (uh K32) (uh S31) (.ite _ _ _ _ _ _ _ _ _ _ _ ((uh V33).wide fun b p=>by have p':w1.heap.size<=b:=p;show w.heap.size<=b;omega) ((uh V34).wide fun b p=>by have p':w3.heap.size<=b:=p;show w.heap.size<=b;omega) ((uh V35).wide fun b p=>by have p':w5.heap.size<=b:=p;show w.heap.size<=b;omega))
end
end
section
open Go Go.RowKit Go.ChangeMaps
def bindM(T:List Pu.Tok)(e:M Nd):M (Nat×Pu.Tok×Nd):=fun k=>
 if isT (tk T k) kRec=true then bnd (qa7 T 1) (fun t=>bnd (qag T kEq) fun _=>bnd (funM T e) fun e k'=>.ok ((11,t,e),k')) (k+1)
 else bnd (qa7 T 1) (fun t=>bnd (qag T kEq) fun _=>bnd e fun e k'=>.ok ((10,t,e),k')) k
theorem bound_bind(T:List Pu.Tok)(e:M Nd):qbg T e=bnd (qag T kLet) fun _=>bindM T e:=rfl
theorem bindM_rec{T:List Pu.Tok}{e:M Nd}{k:Nat}(h:isT (tk T k) kRec=true):bindM T e k=bnd passM (fun _=>bnd (qa7 T 1) fun t=>bnd (qag T kEq) fun _=>bnd (funM T e) fun e k'=>.ok ((11,t,e),k')) k:=by unfold bindM;rw[if_pos h];rfl
theorem bindM_no{T:List Pu.Tok}{e:M Nd}{k:Nat}(h:isT (tk T k) kRec=false):bindM T e k=bnd (qa7 T 1) (fun t=>bnd (qag T kEq) fun _=>bnd e fun e k'=>.ok ((10,t,e),k')) k:=by unfold bindM;rw[h];rfl
theorem stall_bind{T:List Pu.Tok}(e:M Nd):qbm T (bindM T e):=fun k h=>by
 rw[bindM_no (qd9 h _)]
 exact qax (qfj T 1 (by decide) k h) fun _ q g=>by
  unfold bnd
  rw[show qag T kEq q=.error (flOf (tk T q)) by unfold qag;rw[qd9 g];rfl]
  rfl
def BindR(w:World)(P:Nat->Prop)(b:Nat×Pu.Tok×Nd)(v:Value):Prop:=
 ∃ve,v=.agg #[.bool (b.1==11),.int .i64 (b.2.1.frm:Int),.int .i64 (b.2.1.to:Int),.string b.2.1.text,ve]/\PE w P b.2.2 ve/\(b.1=10\/b.1=11)/\LowN b.2.1.text/\b.2.1.to=b.2.1.frm+b.2.1.text.size
theorem Bx.set5{w:World}{b:Nat}{C:Array Value}(h:Bx w b C)(hC:C.size=5)(v0 v1 v2 v3 v4:Value):Bx (((((w.setCell ⟨b,0,none⟩ v0).setCell ⟨b,1,none⟩ v1).setCell ⟨b,2,none⟩ v2).setCell ⟨b,3,none⟩ v3).setCell ⟨b,4,none⟩ v4) b #[v0,v1,v2,v3,v4]:=by
 obtain⟨a0,a1,a2,a3,a4,rfl⟩:∃a0 a1 a2 a3 a4,C=#[a0,a1,a2,a3,a4]:=by
  obtain⟨l⟩:=C
  match l,hC with
  |[a,b,c,d,e],_=>exact⟨a,b,c,d,e,rfl⟩
 exact((((h.setS' 0 v0 #[v0,a1,a2,a3,a4] rfl (by simp)).setS' 1 v1 #[v0,v1,a2,a3,a4] rfl (by simp)).setS' 2 v2 #[v0,v1,v2,a3,a4] rfl (by simp)).setS' 3 v3 #[v0,v1,v2,v3,a4] rfl (by simp)).setS' 4 v4 #[v0,v1,v2,v3,v4] rfl (by simp)
section
theorem PE.setC{w:World}{P:Nat->Prop}{nd:Nd}{v:Value}(h:PE w P nd v){b:Nat}(hb:∀c,P c->c≠b)(j:Nat)(u:Value):PE (w.setCell ⟨b,j,none⟩ u) P nd v:=h.move (by simp[World.setCell]) (fun c p _=>Below.heap_setCell _ _ _ _ (hb c p)) (fun _ p _=>p)
theorem PP.setC{w:World}{P:Nat->Prop}{nd:Nd}{v:Value}(h:PP w P nd v){b:Nat}(hb:∀c,P c->c≠b)(j:Nat)(u:Value):PP (w.setCell ⟨b,j,none⟩ u) P nd v:=h.move (by simp[World.setCell]) (fun c p _=>Below.heap_setCell _ _ _ _ (hb c p)) (fun _ p _=>p)
variable {w:World} {N rb sb:Nat} {m:MV} {s:BA} {k n:Nat}
theorem binding_X(hs:s.size<=1000)(IH:qfr s n)(h:SX w N rb sb m s k)(hn:(Pu.toks s 0).length<=k+n):
 Calls Tryz.prog 339 #[rp rb] w (RuleX BindR N rb sb m s (bindM (Pu.toks s 0) (qaq (Pu.toks s 0) n) k) w):=by
 have hf1:=qe6
 have hf2:=spn175
 have hnot:∀(x:Bool)(w:World),(Op.unary .not (.bool x)).run Tryz.prog w=.ok (.bool (!x)) w:=fun _ _=>rfl
 have hmf:∀(fn:Fn)(first cap:Array Value)(w:World),(Instr.makeFunc fn first cap).run Tryz.prog w=.ok (.func fn first cap) w:=fun _ _ _ _=>rfl
 have hcE:∀args w,(callFunc 340 args).run Tryz.prog w=.ok (.enter 340 args) w:=fun _ _=>by kernel_rfl
 have hcF:∀args w,(callFunc 258 args).run Tryz.prog w=.ok (.enter 258 args) w:=fun _ _=>by kernel_rfl
 have hNw:=h.ev.hN
 by_cases hc:isT (tk (Pu.toks s 0) k) kRec=true
 .have HE0:=bindM_rec (e:=qaq (Pu.toks s 0) n) hc
  have hz:=h.z
  have S1:=ai h
  have K2:=ai (Ke.refl rb w)
  have E3:=ai HE0
  clear h HE0
  go_enter Tryz.func339,Tryz.ntmps339
  go_wp2_with fail
  have S4:=ai ((uh S1).bel (bw (.cells #[.bool false,.int .i64 0,.int .i64 0,.string ⟨#[]⟩,.nilIface] 218)))
  have K5:=ai ((uh K2).below' (bw (.cells #[.bool false,.int .i64 0,.int .i64 0,.string ⟨#[]⟩,.nilIface] 218)))
  clear S1 K2
  have B6:=ai (Bx.at w #[.bool false,.int .i64 0,.int .i64 0,.string ⟨#[]⟩,.nilIface] 218 (w.heap.size) (by simp))
  refine(took_Y (uh S4) hs kRec (by decide) hc).mono ?_
  intro e w1 hp
  cases hA:fin (Pu.toks s 0) (passM k)with
  |error f'=>
   obtain⟨rfl,hb⟩:=hp.bad hA
   exact⟨rfl,RuleX.stop (uh E3) hA (fun a=>qaf (qfj _ _ (by decide)) fun _=>qaf (qap _ _) fun _=>qaf (stall_fun _) fun _=>qao _) ((uh K5).trans hb)⟩
  |ok r'=>
  obtain⟨_u1,k1⟩:=r'
  obtain⟨v1,rfl,hb,hS,hR⟩:=hp.ok hA
  have S7:=ai hS
  have K8:=ai ((uh K5).trans hb)
  have E9:=ai ((uh E3).trans (qae hA))
  have qw1:=(qal hA).1
  have zw1:=hb.size
  try simp at zw1
  have B10:=ai ((uh B6).ke' hb (by omega))
  clear B6
  cases hR
  clear hp hb hS hA S4 K5 E3
  have ew1:k1=k+1:=by unfold passM at qw1;cases qw1;rfl
  go_wp2_with fail
  have lw2:=(uh S7).lt
  refine(name_X (uh S7) hs 1 kLow (Or.inl ⟨rfl,rfl⟩)).mono ?_
  intro e w2 hp
  cases hA:fin (Pu.toks s 0) (qa7 (Pu.toks s 0) 1 k1)with
  |error f'=>
   obtain⟨rfl,hb⟩:=hp.bad hA
   exact⟨rfl,RuleX.stop (uh E9) hA (fun a=>qaf (qap _ _) fun _=>qaf (stall_fun _) fun _=>qao _) ((uh K8).trans hb)⟩
  |ok r'=>
  obtain⟨t,k2⟩:=r'
  obtain⟨vw2,rfl,hb,hS,hR⟩:=hp.ok hA
  have S11:=ai hS
  have K12:=ai ((uh K8).trans hb)
  have E13:=ai ((uh E9).trans (qae hA))
  have qw2:=(qal hA).1
  have zw2:=hb.size
  try simp at zw2
  have B14:=ai ((uh B10).ke' hb (by omega))
  clear B10
  cases hR
  clear hp hb hS hA S7 K8 E9
  have ew2:=qbk _ _ _ _ qw2
  have Ht:=ai (name_in qw2 lw2)
  go_wp2_with fail
  have S15:=ai ((uh S11).bel (bw (.cells #[.int .i64 (t.frm:Int),.int .i64 (t.to:Int),.string t.text] 214)))
  have K16:=ai ((uh K12).below' (bw (.cells #[.int .i64 (t.frm:Int),.int .i64 (t.to:Int),.string t.text] 214)))
  clear S11 K12
  have B17:=ai ((uh B14).below (bw (.cells #[.int .i64 (t.frm:Int),.int .i64 (t.to:Int),.string t.text] 214)))
  clear B14
  have B18:=ai (Bx.at w2 #[.int .i64 (t.frm:Int),.int .i64 (t.to:Int),.string t.text] 214 (w2.heap.size) (by simp))
  refine(qcg (uh S15) hs kEq (by decide)).mono ?_
  intro e w3 hp
  cases hA:fin (Pu.toks s 0) (qag (Pu.toks s 0) kEq k2)with
  |error f'=>
   obtain⟨rfl,hb⟩:=hp.bad hA
   exact⟨rfl,RuleX.stop (uh E13) hA (fun a=>qaf (stall_fun _) fun _=>qao _) ((uh K16).trans hb)⟩
  |ok r'=>
  obtain⟨_uw3,k3⟩:=r'
  obtain⟨vw3,rfl,hb,hS,hR⟩:=hp.ok hA
  have S19:=ai hS
  have K20:=ai ((uh K16).trans hb)
  have E21:=ai ((uh E13).trans (qae hA))
  have qw3:=(qal hA).1
  have zw3:=hb.size
  try simp at zw3
  have B22:=ai ((uh B17).ke' hb (by omega))
  clear B17
  have B23:=ai ((uh B18).ke' hb (by omega))
  clear B18
  cases hR
  clear hp hb hS hA S15 K16 E13
  have ew3:=qah _ _ _ _ qw3
  go_wp2_with fail
  obtain⟨c24,f25,z26⟩:=uh B23
  obtain⟨c27,f28,z29⟩:=uh B22
  cases hA:fin (Pu.toks s 0) (funM (Pu.toks s 0) (qaq (Pu.toks s 0) n) k3)with
  |error f'=>
   go_region_dies
   all_goals(refine(function_X hs IH ((uh S19).bel (Below.refl _ _).drew) (by omega)).mono ?_;intro e w5 hp;obtain⟨rfl,hb⟩:=hp.bad hA;exact⟨rfl,RuleX.stop (uh E21) hA (fun a=>qao _) (((uh K20).below' (Below.refl _ _).drew).trans hb)⟩)
  |ok rr=>
  obtain⟨a,k4⟩:=rr
  go_region_with(go_at_call 258;refine(function_X hs IH ((uh S19).bel (Below.refl _ _).drew) (by omega)).mono ?_;intro e w5 hp;obtain⟨v,rfl,hb,hS,hR⟩:=hp.ok hA;have S5:=ai hS;have K5:=ai (((uh K20).below' (Below.refl _ _).drew).trans hb);have V5:=ai hR;obtain⟨tv,xv,rfl⟩:=hR.iface;have z5:=hb.size;have BN:=ai ((uh B23).drew'.ke' hb (by omega));have BR:=ai ((uh B22).drew'.ke' hb (by omega));obtain⟨cn,fn,zn⟩:=uh BN;obtain⟨co,fo,zo⟩:=uh BR;clear hp hb hS hR)
  all_goals(
   go_wp2_with fail
   obtain⟨cF,fF,zF⟩:=(uh BR).set5 rfl (.bool true) (.int .i64 (t.frm:Int)) (.int .i64 (t.to:Int)) (.string t.text) (.iface tv (.agg xv))
   refine bodyPost_ret (v:=.agg #[.bool true,.int .i64 (t.frm:Int),.int .i64 (t.to:Int),.string t.text,.iface tv (.agg xv)]) (by simp[results,Tryz.results339,go_sem,cF]) rfl ?_
   exact RuleX.done ((uh E21).trans (qae hA)) ((((((uh K5).setNew (b:=w.heap.size) (br _) 0 (.bool true)).setNew (b:=w.heap.size) (br _) 1 (.int .i64 (t.frm:Int))).setNew (b:=w.heap.size) (br _) 2 (.int .i64 (t.to:Int))).setNew (b:=w.heap.size) (br _) 3 (.string t.text)).setNew (b:=w.heap.size) (br _) 4 (.iface tv (.agg xv))) ((((((uh S5).set (b:=w.heap.size) hNw 0 (.bool true)).set (b:=w.heap.size) hNw 1 (.int .i64 (t.frm:Int))).set (b:=w.heap.size) hNw 2 (.int .i64 (t.to:Int))).set (b:=w.heap.size) hNw 3 (.string t.text)).set (b:=w.heap.size) hNw 4 (.iface tv (.agg xv))) ⟨_,rfl,((((((uh V5).setC (b:=w.heap.size) (fun c p=>by have p':w3.heap.size<=c:=p;omega) 0 (.bool true)).setC (b:=w.heap.size) (fun c p=>by have p':w3.heap.size<=c:=p;omega) 1 (.int .i64 (t.frm:Int))).setC (b:=w.heap.size) (fun c p=>by have p':w3.heap.size<=c:=p;omega) 2 (.int .i64 (t.to:Int))).setC (b:=w.heap.size) (fun c p=>by have p':w3.heap.size<=c:=p;omega) 3 (.string t.text)).setC (b:=w.heap.size) (fun c p=>by have p':w3.heap.size<=c:=p;omega) 4 (.iface tv (.agg xv))).wide (fun b p=>by have p':w3.heap.size<=b:=p;show w.heap.size<=b;omega),Or.inr rfl,(uh Ht).1,(uh Ht).2⟩)
 .have hc':isT (tk (Pu.toks s 0) k) kRec=false:=by simpa using hc
  have HE0:=bindM_no (e:=qaq (Pu.toks s 0) n) hc'
  have hz:=h.z
  have S1:=ai h
  have K2:=ai (Ke.refl rb w)
  have E3:=ai HE0
  clear h HE0
  go_enter Tryz.func339,Tryz.ntmps339
  go_wp2_with fail
  have S4:=ai ((uh S1).bel (bw (.cells #[.bool false,.int .i64 0,.int .i64 0,.string ⟨#[]⟩,.nilIface] 218)))
  have K5:=ai ((uh K2).below' (bw (.cells #[.bool false,.int .i64 0,.int .i64 0,.string ⟨#[]⟩,.nilIface] 218)))
  clear S1 K2
  have B6:=ai (Bx.at w #[.bool false,.int .i64 0,.int .i64 0,.string ⟨#[]⟩,.nilIface] 218 (w.heap.size) (by simp))
  refine(took_N (uh S4) kRec (by decide) hc').mono ?_
  rintro e w'⟨rfl,rfl⟩
  go_wp2_with fail
  have z0:(w.alloc (.cells #[.bool false,.int .i64 0,.int .i64 0,.string ⟨#[]⟩,.nilIface] 218)).heap.size=w.heap.size+1:=by simp
  skip
  have lw2:=(uh S4).lt
  refine(name_X (uh S4) hs 1 kLow (Or.inl ⟨rfl,rfl⟩)).mono ?_
  intro e w2 hp
  cases hA:fin (Pu.toks s 0) (qa7 (Pu.toks s 0) 1 k)with
  |error f'=>
   obtain⟨rfl,hb⟩:=hp.bad hA
   exact⟨rfl,RuleX.stop (uh E3) hA (fun a=>qaf (qap _ _) fun _=>qaf (qa1 _) fun _=>qao _) ((uh K5).trans hb)⟩
  |ok r'=>
  obtain⟨t,k2⟩:=r'
  obtain⟨vw2,rfl,hb,hS,hR⟩:=hp.ok hA
  have S7:=ai hS
  have K8:=ai ((uh K5).trans hb)
  have E9:=ai ((uh E3).trans (qae hA))
  have qw2:=(qal hA).1
  have zw2:=hb.size
  try simp at zw2
  have B10:=ai ((uh B6).ke' hb (by omega))
  clear B6
  cases hR
  clear hp hb hS hA S4 K5 E3
  have ew2:=qbk _ _ _ _ qw2
  have Ht:=ai (name_in qw2 lw2)
  go_wp2_with fail
  have S11:=ai ((uh S7).bel (bw (.cells #[.int .i64 (t.frm:Int),.int .i64 (t.to:Int),.string t.text] 214)))
  have K12:=ai ((uh K8).below' (bw (.cells #[.int .i64 (t.frm:Int),.int .i64 (t.to:Int),.string t.text] 214)))
  clear S7 K8
  have B13:=ai ((uh B10).below (bw (.cells #[.int .i64 (t.frm:Int),.int .i64 (t.to:Int),.string t.text] 214)))
  clear B10
  have B14:=ai (Bx.at w2 #[.int .i64 (t.frm:Int),.int .i64 (t.to:Int),.string t.text] 214 (w2.heap.size) (by simp))
  refine(qcg (uh S11) hs kEq (by decide)).mono ?_
  intro e w3 hp
  cases hA:fin (Pu.toks s 0) (qag (Pu.toks s 0) kEq k2)with
  |error f'=>
   obtain⟨rfl,hb⟩:=hp.bad hA
   exact⟨rfl,RuleX.stop (uh E9) hA (fun a=>qaf (qa1 _) fun _=>qao _) ((uh K12).trans hb)⟩
  |ok r'=>
  obtain⟨_uw3,k3⟩:=r'
  obtain⟨vw3,rfl,hb,hS,hR⟩:=hp.ok hA
  have S15:=ai hS
  have K16:=ai ((uh K12).trans hb)
  have E17:=ai ((uh E9).trans (qae hA))
  have qw3:=(qal hA).1
  have zw3:=hb.size
  try simp at zw3
  have B18:=ai ((uh B13).ke' hb (by omega))
  clear B13
  have B19:=ai ((uh B14).ke' hb (by omega))
  clear B14
  cases hR
  clear hp hb hS hA S11 K12 E9
  have ew3:=qah _ _ _ _ qw3
  go_wp2_with fail
  obtain⟨c20,f21,z22⟩:=uh B19
  obtain⟨c23,f24,z25⟩:=uh B18
  cases hA:fin (Pu.toks s 0) (qaq (Pu.toks s 0) n k3)with
  |error f'=>
   go_region_dies
   all_goals(refine(IH _ _ _ _ _ _ ((uh S15).bel (Below.refl _ _).drew) (by omega)).mono ?_;intro e w5 hp;obtain⟨rfl,hb⟩:=hp.bad hA;exact⟨rfl,RuleX.stop (uh E17) hA (fun a=>qao _) (((uh K16).below' (Below.refl _ _).drew).trans hb)⟩)
  |ok rr=>
  obtain⟨a,k4⟩:=rr
  go_region_with(go_at_call 340;refine(IH _ _ _ _ _ _ ((uh S15).bel (Below.refl _ _).drew) (by omega)).mono ?_;intro e w5 hp;obtain⟨v,rfl,hb,hS,hR⟩:=hp.ok hA;have S5:=ai hS;have K5:=ai (((uh K16).below' (Below.refl _ _).drew).trans hb);have V5:=ai hR;obtain⟨tv,xv,rfl⟩:=hR.iface;have z5:=hb.size;have BN:=ai ((uh B19).drew'.ke' hb (by omega));have BR:=ai ((uh B18).drew'.ke' hb (by omega));obtain⟨cn,fn,zn⟩:=uh BN;obtain⟨co,fo,zo⟩:=uh BR;clear hp hb hS hR)
  all_goals(
   go_wp2_with fail
   obtain⟨cF,fF,zF⟩:=(uh BR).set5 rfl (.bool false) (.int .i64 (t.frm:Int)) (.int .i64 (t.to:Int)) (.string t.text) (.iface tv (.agg xv))
   refine bodyPost_ret (v:=.agg #[.bool false,.int .i64 (t.frm:Int),.int .i64 (t.to:Int),.string t.text,.iface tv (.agg xv)]) (by simp[results,Tryz.results339,go_sem,cF]) rfl ?_
   exact RuleX.done ((uh E17).trans (qae hA)) ((((((uh K5).setNew (b:=w.heap.size) (br _) 0 (.bool false)).setNew (b:=w.heap.size) (br _) 1 (.int .i64 (t.frm:Int))).setNew (b:=w.heap.size) (br _) 2 (.int .i64 (t.to:Int))).setNew (b:=w.heap.size) (br _) 3 (.string t.text)).setNew (b:=w.heap.size) (br _) 4 (.iface tv (.agg xv))) ((((((uh S5).set (b:=w.heap.size) hNw 0 (.bool false)).set (b:=w.heap.size) hNw 1 (.int .i64 (t.frm:Int))).set (b:=w.heap.size) hNw 2 (.int .i64 (t.to:Int))).set (b:=w.heap.size) hNw 3 (.string t.text)).set (b:=w.heap.size) hNw 4 (.iface tv (.agg xv))) ⟨_,rfl,((((((uh V5).setC (b:=w.heap.size) (fun c p=>by have p':w3.heap.size<=c:=p;omega) 0 (.bool false)).setC (b:=w.heap.size) (fun c p=>by have p':w3.heap.size<=c:=p;omega) 1 (.int .i64 (t.frm:Int))).setC (b:=w.heap.size) (fun c p=>by have p':w3.heap.size<=c:=p;omega) 2 (.int .i64 (t.to:Int))).setC (b:=w.heap.size) (fun c p=>by have p':w3.heap.size<=c:=p;omega) 3 (.string t.text)).setC (b:=w.heap.size) (fun c p=>by have p':w3.heap.size<=c:=p;omega) 4 (.iface tv (.agg xv))).wide (fun b p=>by have p':w3.heap.size<=b:=p;show w.heap.size<=b;omega),Or.inl rfl,(uh Ht).1,(uh Ht).2⟩)
end
end
section
open Go Go.RowKit Go.ChangeMaps
theorem bnd_assoc{α β γ:Type}(m:M α)(f:α->M β)(g:β->M γ):bnd (bnd m f) g=bnd m fun a=>bnd (f a) g:=by
 funext k
 unfold bnd
 cases m k<;>rfl
def armM(T:List Pu.Tok)(pat expr:M Nd):M (Nd×Nd):=bnd pat fun p=>bnd (qag T kArrow) fun _=>bnd expr fun e k=>.ok ((p,e),k)
def ArmR(w:World)(P:Nat->Prop)(a:Nd×Nd)(v:Value):Prop:=∃(u1 u2:Int)(vp ve:Value),v=.agg #[.int .i64 u1,.int .i64 u2,vp,ve]/\PP w P a.1 vp/\PE w P a.2 ve
section
theorem Bx.set4'{w:World}{b:Nat}{C:Array Value}(h:Bx w b C)(hC:C.size=4)(v0 v1 v2 v3:Value):Bx ((((w.setCell ⟨b,0,none⟩ v0).setCell ⟨b,1,none⟩ v1).setCell ⟨b,2,none⟩ v2).setCell ⟨b,3,none⟩ v3) b #[v0,v1,v2,v3]:=by
 obtain⟨a0,a1,a2,a3,rfl⟩:∃a0 a1 a2 a3,C=#[a0,a1,a2,a3]:=by
  obtain⟨l⟩:=C
  match l,hC with
  |[a,b,c,d],_=>exact⟨a,b,c,d,rfl⟩
 exact(((h.setS' 0 v0 #[v0,a1,a2,a3] rfl (by simp)).setS' 1 v1 #[v0,v1,a2,a3] rfl (by simp)).setS' 2 v2 #[v0,v1,v2,a3] rfl (by simp)).setS' 3 v3 #[v0,v1,v2,v3] rfl (by simp)
variable {w:World} {N rb sb:Nat} {m:MV} {s:BA} {k n:Nat}
theorem bind_lts{T:List Pu.Tok}{e:M Nd}(hm:Lts e):Lts (bindM T e):=fun k a k' h=>by
 unfold bindM at h
 split at h
 .obtain⟨_,k2,h3,h4⟩:=qad h
  obtain⟨_,k3,h5,h6⟩:=qad h4
  obtain⟨_,k4,h7,h8⟩:=qad h6
  cases h8
  have:=qbk _ _ _ _ h3
  have:=qah _ _ _ _ h5
  have:=fun_lts hm _ _ _ h7
  omega
 .obtain⟨_,k2,h3,h4⟩:=qad h
  obtain⟨_,k3,h5,h6⟩:=qad h4
  obtain⟨_,k4,h7,h8⟩:=qad h6
  cases h8
  have:=qbk _ _ _ _ h3
  have:=qah _ _ _ _ h5
  have:=hm _ _ _ h7
  omega
theorem letIn_X(hs:s.size<=1000)(IH:qfr s n)(h:SX w N rb sb m s k)(hn:(Pu.toks s 0).length<=k+1+n):
 Calls Tryz.prog 259 #[rp rb] w (RuleX PE N rb sb m s (letM (Pu.toks s 0) (qaq (Pu.toks s 0) n) k) w):=by
 have hf1:=qe6
 have hf2:=spn175
 have hnot:∀(x:Bool)(w:World),(Op.unary .not (.bool x)).run Tryz.prog w=.ok (.bool (!x)) w:=fun _ _=>rfl
 have HE0:letM (Pu.toks s 0) (qaq (Pu.toks s 0) n) k=bnd (qag (Pu.toks s 0) kLet) (fun _=>bnd (bindM (Pu.toks s 0) (qaq (Pu.toks s 0) n)) (fun b=>bnd (qag (Pu.toks s 0) kIn) (fun _=>bnd (qaq (Pu.toks s 0) n) (fun f=>fun k'=>.ok (Nd.mk b.1 b.2.1.text 0 [b.2.2,f] (tk (Pu.toks s 0) k).frm (qan (Pu.toks s 0) k') b.2.1.frm,k'))))) k:=by unfold letM;rw[bound_bind,bnd_assoc]
 have hz:=h.z
 have S1:=ai h
 have K2:=ai (Ke.refl rb w)
 have E3:=ai HE0
 clear h HE0
 go_enter Tryz.func259,Tryz.ntmps259
 go_wp2_with fail
 refine(qcg (uh S1) hs kLet (by decide)).mono ?_
 intro e w1 hp
 cases hA:fin (Pu.toks s 0) (qag (Pu.toks s 0) kLet k)with
 |error f'=>
  obtain⟨rfl,hb⟩:=hp.bad hA
  exact⟨rfl,RuleX.stop (uh E3) hA (fun a=>qaf (stall_bind _) fun _=>qaf (qap _ _) fun _=>qaf (qa1 _) fun _=>qao _) ((uh K2).trans hb)⟩
 |ok r'=>
 obtain⟨_uw1,k1⟩:=r'
 obtain⟨vw1,rfl,hb,hS,hR⟩:=hp.ok hA
 have S4:=ai hS
 have K5:=ai ((uh K2).trans hb)
 have E6:=ai ((uh E3).trans (qae hA))
 have qw1:=(qal hA).1
 have zw1:=hb.size
 try simp at zw1
 cases hR
 clear hp hb hS hA S1 K2 E3
 have ew1:=qah _ _ _ _ qw1
 go_wp2_with fail
 refine(binding_X hs IH (uh S4) (by omega)).mono ?_
 intro e w2 hp
 cases hA:fin (Pu.toks s 0) (bindM (Pu.toks s 0) (qaq (Pu.toks s 0) n) k1)with
 |error f'=>
  obtain⟨rfl,hb⟩:=hp.bad hA
  exact⟨rfl,RuleX.stop (uh E6) hA (fun a=>qaf (qap _ _) fun _=>qaf (qa1 _) fun _=>qao _) ((uh K5).trans hb)⟩
 |ok r'=>
 obtain⟨b,k2⟩:=r'
 obtain⟨v2,rfl,hb,hS,hR⟩:=hp.ok hA
 have S7:=ai hS
 have K8:=ai ((uh K5).trans hb)
 have E9:=ai ((uh E6).trans (qae hA))
 have qw2:=(qal hA).1
 have zw2:=hb.size
 try simp at zw2
 obtain⟨ve,rfl,hV,hc1,hl1,hs1⟩:=hR
 have VB:=ai hV
 obtain⟨te,xe,rfl⟩:=hV.iface
 have HC1:=ai hc1
 have HL1:=ai (And.intro hl1 hs1)
 clear hV hc1 hl1 hs1
 clear hp hb hS hA S4 K5 E6
 have ew2:k1<k2:=bind_lts (qci n) _ _ _ qw2
 go_wp2_with fail
 have S10:=ai ((uh S7).bel (bw (.cells #[.bool (b.1==11),.int .i64 (b.2.1.frm:Int),.int .i64 (b.2.1.to:Int),.string b.2.1.text,.iface te (.agg xe)] 218)))
 have K11:=ai ((uh K8).below' (bw (.cells #[.bool (b.1==11),.int .i64 (b.2.1.frm:Int),.int .i64 (b.2.1.to:Int),.string b.2.1.text,.iface te (.agg xe)] 218)))
 clear S7 K8
 have B12:=ai (Bx.at w2 #[.bool (b.1==11),.int .i64 (b.2.1.frm:Int),.int .i64 (b.2.1.to:Int),.string b.2.1.text,.iface te (.agg xe)] 218 (w2.heap.size) (by simp))
 have V13:=ai ((uh VB).bel (bw (.cells #[.bool (b.1==11),.int .i64 (b.2.1.frm:Int),.int .i64 (b.2.1.to:Int),.string b.2.1.text,.iface te (.agg xe)] 218)))
 clear VB
 refine(qcg (uh S10) hs kIn (by decide)).mono ?_
 intro e w3 hp
 cases hA:fin (Pu.toks s 0) (qag (Pu.toks s 0) kIn k2)with
 |error f'=>
  obtain⟨rfl,hb⟩:=hp.bad hA
  exact⟨rfl,RuleX.stop (uh E9) hA (fun a=>qaf (qa1 _) fun _=>qao _) ((uh K11).trans hb)⟩
 |ok r'=>
 obtain⟨_uw3,k3⟩:=r'
 obtain⟨vw3,rfl,hb,hS,hR⟩:=hp.ok hA
 have S14:=ai hS
 have K15:=ai ((uh K11).trans hb)
 have E16:=ai ((uh E9).trans (qae hA))
 have qw3:=(qal hA).1
 have zw3:=hb.size
 try simp at zw3
 have B17:=ai ((uh B12).ke' hb (by omega))
 clear B12
 have V18:=ai ((uh V13).ke hb (fun b p=>by show b≠rb;have p':w1.heap.size<=b:=p;omega))
 clear V13
 cases hR
 clear hp hb hS hA S10 K11 E9
 have ew3:=qah _ _ _ _ qw3
 go_wp2_with fail
 refine(IH _ _ _ _ _ _ (uh S14) (by omega)).mono ?_
 intro e w4 hp
 cases hA:fin (Pu.toks s 0) (qaq (Pu.toks s 0) n k3)with
 |error f'=>
  obtain⟨rfl,hb⟩:=hp.bad hA
  exact⟨rfl,RuleX.stop (uh E16) hA (fun a=>qao _) ((uh K15).trans hb)⟩
 |ok r'=>
 obtain⟨c,k4⟩:=r'
 obtain⟨v4,rfl,hb,hS,hR⟩:=hp.ok hA
 have S19:=ai hS
 have K20:=ai ((uh K15).trans hb)
 have E21:=ai ((uh E16).trans (qae hA))
 have qw4:=(qal hA).1
 have zw4:=hb.size
 try simp at zw4
 have B22:=ai ((uh B17).ke' hb (by omega))
 clear B17
 have V23:=ai ((uh V18).ke hb (fun b p=>by show b≠rb;have p':w1.heap.size<=b:=p;omega))
 clear V18
 have V24:=ai hR
 obtain⟨tv4,xv4,rfl⟩:=hR.iface
 clear hp hb hS hA S14 K15 E16 hR
 have ew4:=qci n _ _ _ qw4
 go_wp2_with fail
 obtain⟨c25,f26,z27⟩:=uh B22
 go_wp2_with fail
 go_region_with(go_at_call 214;refine(qcr ((uh S19).bel (Below.refl _ _).drew) _).mono ?_;rintro e w5⟨rfl,hb⟩;have S28:=ai (((uh S19).bel (Below.refl _ _).drew).bel hb);have K29:=ai (((uh K20).below' (Below.refl _ _).drew).below' hb);have V30:=ai (((uh V23).bel (Below.refl _ _).drew).bel hb);have V31:=ai (((uh V24).bel (Below.refl _ _).drew).bel hb);have B32:=ai ((uh B22).drew'.below hb);obtain⟨c33,fc33,zc33⟩:=uh B32;clear hb)
 all_goals(
  go_wp2_with fail
  go_ret
  exact RuleX.done (uh E21) (uh K29) (uh S28) (.lt _ _ _ _ _ _ _ _ _ _ _ (uh HC1) (uh HL1).1 (uh HL1).2 ((uh V30).wide fun b p=>by have p':w1.heap.size<=b:=p;show w.heap.size<=b;omega) ((uh V31).wide fun b p=>by have p':w3.heap.size<=b:=p;show w.heap.size<=b;omega)))
theorem arm_X(hs:s.size<=1000)(IHP:PatC s n)(IH:qfr s n)(h:SX w N rb sb m s k)(hn:(Pu.toks s 0).length<=k+n):
 Calls Tryz.prog 342 #[rp rb] w (RuleX ArmR N rb sb m s (armM (Pu.toks s 0) (patM (Pu.toks s 0) n) (qaq (Pu.toks s 0) n) k) w):=by
 have hf1:=qe6
 have hf2:=spn175
 have hnot:∀(x:Bool)(w:World),(Op.unary .not (.bool x)).run Tryz.prog w=.ok (.bool (!x)) w:=fun _ _=>rfl
 have hNw:=h.ev.hN
 obtain⟨c0,f0,z0⟩:=h.bx
 have hz:=h.z
 have S1:=ai h
 have K2:=ai (Ke.refl rb w)
 have E3:Hid (armM (Pu.toks s 0) (patM (Pu.toks s 0) n) (qaq (Pu.toks s 0) n) k=bnd (patM (Pu.toks s 0) n) (fun p=>bnd (qag (Pu.toks s 0) kArrow) (fun _=>bnd (qaq (Pu.toks s 0) n) (fun e=>fun k=>.ok ((p,e),k)))) k):=ai rfl
 clear h
 go_enter Tryz.func342,Tryz.ntmps342
 go_wp2_with fail
 clear c0 f0 z0
 have S4:=ai ((uh S1).bel (bw (.cells #[.int .i64 0,.int .i64 0,.nilIface,.nilIface] 334)))
 have K5:=ai ((uh K2).below' (bw (.cells #[.int .i64 0,.int .i64 0,.nilIface,.nilIface] 334)))
 clear S1 K2
 have B6:=ai (Bx.at w #[.int .i64 0,.int .i64 0,.nilIface,.nilIface] 334 (w.heap.size) (by simp))
 refine(IHP _ _ _ _ _ _ (uh S4) (by omega)).mono ?_
 intro e w1 hp
 cases hA:fin (Pu.toks s 0) (patM (Pu.toks s 0) n k)with
 |error f'=>
  obtain⟨rfl,hb⟩:=hp.bad hA
  exact⟨rfl,RuleX.stop (uh E3) hA (fun a=>qaf (qap _ _) fun _=>qaf (qa1 _) fun _=>qao _) ((uh K5).trans hb)⟩
 |ok r'=>
 obtain⟨a,k1⟩:=r'
 obtain⟨v1,rfl,hb,hS,hR⟩:=hp.ok hA
 have S7:=ai hS
 have K8:=ai ((uh K5).trans hb)
 have E9:=ai ((uh E3).trans (qae hA))
 have qw1:=(qal hA).1
 have zw1:=hb.size
 try simp at zw1
 have B10:=ai ((uh B6).ke' hb (by omega))
 clear B6
 have V11:=ai (hR.wide (Q:=fun b=>w.heap.size+1<=b) fun b p=>by simpa using p)
 obtain⟨tv1,xv1,rfl⟩:=hR.iface
 clear hp hb hS hA S4 K5 E3 hR
 have ew1:=qdk n _ _ _ qw1
 go_wp2_with fail
 refine(qcg (uh S7) hs kArrow (by decide)).mono ?_
 intro e w2 hp
 cases hA:fin (Pu.toks s 0) (qag (Pu.toks s 0) kArrow k1)with
 |error f'=>
  obtain⟨rfl,hb⟩:=hp.bad hA
  exact⟨rfl,RuleX.stop (uh E9) hA (fun a=>qaf (qa1 _) fun _=>qao _) ((uh K8).trans hb)⟩
 |ok r'=>
 obtain⟨_uw2,k2⟩:=r'
 obtain⟨vw2,rfl,hb,hS,hR⟩:=hp.ok hA
 have S12:=ai hS
 have K13:=ai ((uh K8).trans hb)
 have E14:=ai ((uh E9).trans (qae hA))
 have qw2:=(qal hA).1
 have zw2:=hb.size
 try simp at zw2
 have B15:=ai ((uh B10).ke' hb (by omega))
 clear B10
 have V16:=ai ((uh V11).ke hb (fun b p=>by show b≠rb;have p':w.heap.size+1<=b:=p;omega))
 clear V11
 cases hR
 clear hp hb hS hA S7 K8 E9
 have ew2:=qah _ _ _ _ qw2
 go_wp2_with fail
 refine(IH _ _ _ _ _ _ (uh S12) (by omega)).mono ?_
 intro e w3 hp
 cases hA:fin (Pu.toks s 0) (qaq (Pu.toks s 0) n k2)with
 |error f'=>
  obtain⟨rfl,hb⟩:=hp.bad hA
  exact⟨rfl,RuleX.stop (uh E14) hA (fun a=>qao _) ((uh K13).trans hb)⟩
 |ok r'=>
 obtain⟨b,k3⟩:=r'
 obtain⟨v3,rfl,hb,hS,hR⟩:=hp.ok hA
 have S17:=ai hS
 have K18:=ai ((uh K13).trans hb)
 have E19:=ai ((uh E14).trans (qae hA))
 have qw3:=(qal hA).1
 have zw3:=hb.size
 try simp at zw3
 have B20:=ai ((uh B15).ke' hb (by omega))
 clear B15
 have V21:=ai ((uh V16).ke hb (fun b p=>by show b≠rb;have p':w.heap.size+1<=b:=p;omega))
 clear V16
 have V22:=ai hR
 obtain⟨tv3,xv3,rfl⟩:=hR.iface
 clear hp hb hS hA S12 K13 E14 hR
 have ew3:=qci n _ _ _ qw3
 go_wp2_with fail
 refine(qcr (uh S17) _).mono ?_
 rintro e w4⟨rfl,hb⟩
 have S23:=ai ((uh S17).bel hb)
 have K24:=ai ((uh K18).below' hb)
 have zw4:=hb.size
 try simp at zw4
 have B25:=ai ((uh B20).below hb)
 clear B20
 have V26:=ai ((uh V21).bel hb)
 clear V21
 have V27:=ai ((uh V22).bel hb)
 clear V22
 clear hb S17 K18
 obtain⟨c28,f29,z30⟩:=uh B25
 go_wp2_with fail
 obtain⟨cF,fF,zF⟩:=(uh B25).set4' rfl (.int .i64 ((tk (Pu.toks s 0) k).frm:Int)) (.int .i64 ((qan (Pu.toks s 0) k3:Nat):Int)) (.iface tv1 (.agg xv1)) (.iface tv3 (.agg xv3))
 refine bodyPost_ret (v:=.agg #[.int .i64 ((tk (Pu.toks s 0) k).frm:Int),.int .i64 ((qan (Pu.toks s 0) k3:Nat):Int),.iface tv1 (.agg xv1),.iface tv3 (.agg xv3)]) (by simp[results,Tryz.results342,go_sem,cF]) rfl ?_
 exact RuleX.done (uh E19) (((((uh K24).setNew (b:=w.heap.size) (br _) 0 (.int .i64 ((tk (Pu.toks s 0) k).frm:Int))).setNew (b:=w.heap.size) (br _) 1 (.int .i64 ((qan (Pu.toks s 0) k3:Nat):Int))).setNew (b:=w.heap.size) (br _) 2 (.iface tv1 (.agg xv1))).setNew (b:=w.heap.size) (br _) 3 (.iface tv3 (.agg xv3))) (((((uh S23).set (b:=w.heap.size) hNw 0 (.int .i64 ((tk (Pu.toks s 0) k).frm:Int))).set (b:=w.heap.size) hNw 1 (.int .i64 ((qan (Pu.toks s 0) k3:Nat):Int))).set (b:=w.heap.size) hNw 2 (.iface tv1 (.agg xv1))).set (b:=w.heap.size) hNw 3 (.iface tv3 (.agg xv3))) ⟨_,_,_,_,rfl,(((((uh V26).setC (b:=w.heap.size) (fun c p=>by have p':w.heap.size+1<=c:=p;omega) 0 (.int .i64 ((tk (Pu.toks s 0) k).frm:Int))).setC (b:=w.heap.size) (fun c p=>by have p':w.heap.size+1<=c:=p;omega) 1 (.int .i64 ((qan (Pu.toks s 0) k3:Nat):Int))).setC (b:=w.heap.size) (fun c p=>by have p':w.heap.size+1<=c:=p;omega) 2 (.iface tv1 (.agg xv1))).setC (b:=w.heap.size) (fun c p=>by have p':w.heap.size+1<=c:=p;omega) 3 (.iface tv3 (.agg xv3))).wide (fun b p=>by have p':w.heap.size+1<=b:=p;show w.heap.size<=b;omega),(((((uh V27).setC (b:=w.heap.size) (fun c p=>by have p':w2.heap.size<=c:=p;omega) 0 (.int .i64 ((tk (Pu.toks s 0) k).frm:Int))).setC (b:=w.heap.size) (fun c p=>by have p':w2.heap.size<=c:=p;omega) 1 (.int .i64 ((qan (Pu.toks s 0) k3:Nat):Int))).setC (b:=w.heap.size) (fun c p=>by have p':w2.heap.size<=c:=p;omega) 2 (.iface tv1 (.agg xv1))).setC (b:=w.heap.size) (fun c p=>by have p':w2.heap.size<=c:=p;omega) 3 (.iface tv3 (.agg xv3))).wide (fun b p=>by have p':w2.heap.size<=b:=p;show w.heap.size<=b;omega)⟩
end
end
section
open Go Go.RowKit Go.ChangeMaps
theorem armInfo:(Tryz.prog.info? 334).map (fun i=>(i.zero,i.size,i.bytes))=some (some (.agg #[.int .i64 0,.int .i64 0,.nilIface,.nilIface]),4,48):=by kernel_rfl
theorem armsUnder:Tryz.prog.underlying 223=some (.slice 334):=by kernel_rfl
def qed(T:List Pu.Tok)(pat expr:M Nd)(f:Nat)(l:List Nd):M (List Nd):=fun k=>if isT (tk T k) kBar=true then qcz T pat expr f l (k+1)else .ok (l,k)
theorem arms_go(T:List Pu.Tok)(pat expr:M Nd)(f:Nat)(l:List Nd)(k:Nat):qcz T pat expr (f+1) l k=bnd (armM T pat expr) (fun a=>qed T pat expr f (l++[a.1,a.2])) k:=by
 unfold armM
 rw[bnd_assoc]
 show bnd pat _ k=_
 congr 1
 funext p
 rw[bnd_assoc]
 congr 1
 funext _
 rw[bnd_assoc]
 rfl
theorem stall_arm{T:List Pu.Tok}{pat expr:M Nd}(hp:qbm T pat)(he:qbm T expr):qbm T (armM T pat expr):=qaf hp fun _=>qaf (qap _ _) fun _=>qaf he fun _=>qao _
theorem qdw(T:List Pu.Tok)(pat expr:M Nd)(f:Nat)(l:List Nd):qbm T (qed T pat expr f l):=fun k h=>by unfold qed;rw[qd9 h];exact qa0 _ h
theorem arm_lts{T:List Pu.Tok}{pat expr:M Nd}(hp:Mono pat)(he:Lts expr):Lts (armM T pat expr):=fun k a k' h=>by
 unfold armM at h
 obtain⟨_,k1,h1,h2⟩:=qad h
 obtain⟨_,k2,h3,h4⟩:=qad h2
 obtain⟨_,k3,h5,h6⟩:=qad h4
 cases h6
 have:=hp _ _ _ h1
 have:=qah _ _ _ _ h3
 have:=he _ _ _ h5
 omega
theorem armN_app(A:List (Nd×Nd))(p:Nd×Nd):armN (A++[p])=armN A++[p.1,p.2]:=by
 induction A with
 |nil=>rfl|cons q l ih=>show q.1::q.2::armN (l++[p])=q.1::q.2::(armN l++_);rw[ih]
def QArm:EQ (Nd×Nd):=fun w P a c=>(∃u1 u2:Int,c 0=.int .i64 u1/\c 1=.int .i64 u2)/\PP w P a.1 (c 2)/\PE w P a.2 (c 3)
theorem qem:Moves QArm:=fun _ _ _ _ _ _ h h1 h2 h3=>⟨h.1,h.2.1.move h1 h2 h3,h.2.2.move h1 h2 h3⟩
def ArmsR(x:Nd)(w:World)(P:Nat->Prop)(l:List Nd)(v:Value):Prop:=∃A,A≠[]/\l=x::armN A/\RowV QArm 4 w P A v
def ArmsRel(N rb sb:Nat)(m:MV)(s:BA)(n k:Nat)(x:Nd)(w:World)(r:Except Fl (List Nd×Nat))(gk:Nat)(v:Value)(wr:World):Prop:=
 ∃(kr:Nat)(A:List (Nd×Nd))(f:Nat)(va:Option Addr)(vc:Nat),v=.slice va A.length vc/\A≠[]/\SX wr N rb sb m s kr/\Ke rb w wr/\Hid (gk=(Pu.toks s 0).length-kr)/\k<kr/\A.length<=kr/\RowO QArm 334 4 wr w.heap.size va vc A/\Hid (r=qed (Pu.toks s 0) (patM (Pu.toks s 0) n) (qaq (Pu.toks s 0) n) f (x::armN A) kr)/\(Pu.toks s 0).length<=kr+f
section
variable {w:World} {N rb sb:Nat} {m:MV} {s:BA} {k n:Nat}
theorem barredArm_X(hs:s.size<=1000)(hT:(Pu.toks s 0).length<=1001)(IHP:PatC s n)(IH:qfr s n)(h:SX w N rb sb m s k)(hn:(Pu.toks s 0).length<=k+n)(x:Nd):
 Calls Tryz.prog 341 #[rp rb,mth 342 rb] w (RuleX (ArmsR x) N rb sb m s (qcz (Pu.toks s 0) (patM (Pu.toks s 0) n) (qaq (Pu.toks s 0) n) (Pu.toks s 0).length [x] k) w):=by
 obtain⟨i0,hi0,hz0,hz1,hz2⟩:=info_parts armInfo
 have hcA:∀args w,(callFunc 342 args).run Tryz.prog w=.ok (.enter 342 args) w:=fun _ _=>by kernel_rfl
 have hzr:=h.z
 have hNw:=h.ev.hN
 have hk:=h.lt
 obtain⟨r,hr⟩:∃r,r=qcz (Pu.toks s 0) (patM (Pu.toks s 0) n) (qaq (Pu.toks s 0) n) (Pu.toks s 0).length [x] k:=⟨_,rfl⟩
 rw[<-hr]
 obtain⟨L,hL⟩:∃L,(Pu.toks s 0).length=L+1:=⟨(Pu.toks s 0).length-1,by omega⟩
 have HE:Hid (r=bnd (armM (Pu.toks s 0) (patM (Pu.toks s 0) n) (qaq (Pu.toks s 0) n)) (fun a=>qed (Pu.toks s 0) (patM (Pu.toks s 0) n) (qaq (Pu.toks s 0) n) L ([x]++[a.1,a.2])) k):=ai (by rw[hr,hL];exact arms_go _ _ _ _ _ _)
 have HL:=ai hL
 have HC:=arm_X hs IHP IH h hn
 clear hr hL h
 go_enter Tryz.func341,Tryz.ntmps341
 go_wp2_with fail
 refine HC.mono ?_
 intro e w1 hp
 cases hA:fin (Pu.toks s 0) ((armM (Pu.toks s 0) (patM (Pu.toks s 0) n) (qaq (Pu.toks s 0) n)) k)with
 |error f'=>
  obtain⟨rfl,hb⟩:=hp.bad hA
  exact⟨rfl,RuleX.stop (uh HE) hA (fun a=>qdw _ _ _ _ _) hb⟩
 |ok rr=>
 obtain⟨a,k1⟩:=rr
 obtain⟨v1,rfl,K1,S1,u1,u2,vp,ve,rfl,P1,E1⟩:=hp.ok hA
 obtain⟨tp,xp,rfl⟩:=P1.iface
 obtain⟨te,xe,rfl⟩:=E1.iface
 have hlt:=arm_lts (qdk (T:=(Pu.toks s 0)) n) (qci n) _ _ _ (qal hA).1
 have HE1:=ai ((uh HE).trans (qae hA))
 have hbw:Below w1.heap.size w1 (w1.alloc (.cells #[.int .i64 u1,.int .i64 u2,.iface tp (.agg xp),.iface te (.agg xe)] 334)):=bw _
 have HS1:=ai (S1.bel hbw)
 have HK1:=ai (K1.below' hbw)
 have HR1:Hid (RowO QArm 334 4 (w1.alloc (.cells #[.int .i64 u1,.int .i64 u2,.iface tp (.agg xp),.iface te (.agg xe)] 334)) w.heap.size (some ⟨w1.heap.size,0,none⟩) 1 [a]):=ai (RowO.one (lo:=w.heap.size) (c:=fun j=>([.int .i64 u1,.int .i64 u2,.iface tp (.agg xp),.iface te (.agg xe)]:List Value).getD j .nilIface) qem ⟨⟨u1,u2,rfl,rfl⟩,P1,E1⟩ (br _) K1.size (by decide) _ rfl rfl)
 clear hp hA HE HC P1 E1 S1 K1
 go_wp2_with fail
 go_loopg[5] ((Pu.toks s 0).length-k1) (fun gk v wr=>ArmsRel N rb sb m s n k x w r gk v wr)
 case atStart=>exact⟨k1,[a],L,some ⟨w1.heap.size,0,none⟩,1,rfl,by simp,uh HS1,uh HK1,ai rfl,hlt,by simp;omega,uh HR1,HE1,by have:=uh HL;omega⟩
 case round=>
  clear HS1 HK1 HR1 HE1 HL hbw
  obtain⟨kr,A,f,va,vc,rfl,hA0,R,K,hgk,hle,hAl,RW,hE,hfu⟩:=hrel
  have hkr:=R.lt
  by_cases hb:isT (tk (Pu.toks s 0) kr) kBar=true
  .obtain⟨f,rfl⟩:∃f',f=f'+1:=⟨f-1,by omega⟩
   have hE2:Hid (r=bnd passM (fun _=>bnd (armM (Pu.toks s 0) (patM (Pu.toks s 0) n) (qaq (Pu.toks s 0) n)) fun a=>qed (Pu.toks s 0) (patM (Pu.toks s 0) n) (qaq (Pu.toks s 0) n) f (x::armN A++[a.1,a.2])) kr):=ai ((uh hE).trans (by unfold qed;rw[if_pos hb,arms_go];rfl))
   have zw:=K.size
   have hrw:=RW.block
   clear hE
   go_wp2_with fail
   refine(took_Y R hs kBar (by decide) hb).mono ?_
   intro e w2 hp
   by_cases h6:(tk (Pu.toks s 0) (kr+1)).kind=6
   .obtain⟨rfl,hb'⟩:=hp.bad (qa0 _ h6)
    exact⟨rfl,RuleX.stop (uh hE2) (qa0 _ h6) (fun _=>qaf (stall_arm (stall_pat _) (qa1 _)) fun a=>qdw _ _ _ _ _) (K.trans hb')⟩
   obtain⟨v2,rfl,hb2,S2,hR⟩:=hp.ok (fin_ok' _ h6)
   cases hR
   have hE3:Hid (r=bnd (armM (Pu.toks s 0) (patM (Pu.toks s 0) n) (qaq (Pu.toks s 0) n)) (fun a=>qed (Pu.toks s 0) (patM (Pu.toks s 0) n) (qaq (Pu.toks s 0) n) f (x::armN A++[a.1,a.2])) (kr+1)):=hE2
   have HC:=arm_X hs IHP IH S2 (by omega)
   have K2:=K.trans hb2
   have RW2:=RW.ke qem hb2 hzr
   have z2:=hb2.size
   clear hp R RW hE2 hb2
   go_wp2_with fail
   refine HC.mono ?_
   intro e w1 hp
   cases hA:fin (Pu.toks s 0) ((armM (Pu.toks s 0) (patM (Pu.toks s 0) n) (qaq (Pu.toks s 0) n)) (kr+1))with
   |error f'=>
    obtain⟨rfl,hb'⟩:=hp.bad hA
    exact⟨rfl,RuleX.stop (uh hE3) hA (fun a=>qdw _ _ _ _ _) (K2.trans hb')⟩
   |ok rr=>
   obtain⟨a,k2⟩:=rr
   obtain⟨v1,rfl,hb1,S1,u1,u2,vp,ve,rfl,P1,E1⟩:=hp.ok hA
   obtain⟨tp,xp,rfl⟩:=P1.iface
   obtain⟨te,xe,rfl⟩:=E1.iface
   have hlt:=arm_lts (qdk (T:=(Pu.toks s 0)) n) (qci n) _ _ _ (qal hA).1
   have HE3:=ai ((uh hE3).trans (qae hA))
   have z1:=hb1.size
   have RW1:=RW2.ke qem hb1 hzr
   have hob:=RW1.block
   obtain⟨cs,hown,hPP⟩:=RW1
   have HO:=ai hown
   have HPP:=ai hPP
   have HP1:Hid (QArm w1 (fun b=>w2.heap.size<=b) a (fun j=>([.int .i64 u1,.int .i64 u2,.iface tp (.agg xp),.iface te (.agg xe)]:List Value).getD j .nilIface)):=ai ⟨⟨u1,u2,rfl,rfl⟩,P1,E1⟩
   have HS1:=ai S1
   have HK1:=ai (K2.trans hb1)
   clear hp hA HC hE3 hown hPP P1 E1 S1 hb1 RW2 K K2 S2
   go_wp2_with(at_builtin;go_must(refine wpList_append_own_at _ rfl (.tmp 11) (.tmp 14) 223 rfl w.heap.size 334 i0 _ 4 48 armsUnder hi0 hz0 hz1 hz2 rfl (by decide) (.slice va A.length vc) A.length _ rfl ((uh HO).alloc _) ⟨w1.heap.size,0,none⟩ 1 1 [.int .i64 u1,.int .i64 u2,.iface tp (.agg xp),.iface te (.agg xe)] rfl rfl (qbw _ _ _ _ (by simp)) (by intro u hu;simp at hu;rcases hu with rfl|rfl|rfl|rfl<;>rfl) (by unfold maxLen;omega) (by omega) (by simp;omega) ?_;intro v3 w3 hown3 hg3 hnil3 hloc3;have Hown3:=ai hown3;have Hg3:=ai hg3;have Hloc3:=ai hloc3;clear hown3 hg3 hnil3 hloc3))
   obtain⟨q3,c3,rfl⟩:=qb6 (uh Hown3) (by omega)
   go_roundg((Pu.toks s 0).length-k2)
   case measure=>rw[uh hgk];omega
   case rel=>
    have hlen:(A++[a]).length=A.length+1:=by simp
    have hbw:Below w1.heap.size w1 (w1.alloc (.cells #[.int .i64 u1,.int .i64 u2,.iface tp (.agg xp),.iface te (.agg xe)] 334)):=bw _
    refine⟨k2,A++[a],f,some ⟨q3,0,none⟩,c3,by rw[hlen],by simp,((uh HS1).bel hbw).grown (uh Hg3) (fun j e=>by have:=hob j e;omega),?_,ai rfl,by omega,by rw[hlen];omega,?_,?_,by omega⟩
    .exact Ke.grown (uh Hg3) ((uh HK1).below' hbw) (fun j e=>(hob j e).1)
    .exact RowO.push (w1:=w1) (lo:=w2.heap.size) (c:=fun j=>([.int .i64 u1,.int .i64 u2,.iface tp (.agg xp),.iface te (.agg xe)]:List Value).getD j .nilIface) qem (uh HPP) (uh HP1) (by omega) (fun b e=>by have:=(hrw b e).2;omega) hbw (uh Hown3) (uh Hg3) (uh Hloc3)
    .rw[armN_app];exact HE3
  .have hb':isT (tk (Pu.toks s 0) kr) kBar=false:=by simpa using hb
   have hE2:Hid (r=.ok (x::armN A,kr)):=ai ((uh hE).trans (by unfold qed;rw[if_neg hb]))
   go_wp2_with fail
   refine(took_N R kBar (by decide) hb').mono ?_
   rintro e w'⟨rfl,rfl⟩
   go_wp2_with fail
   go_ret
   exact RuleX.done (uh hE2) K R ⟨A,hA0,rfl,RW.v qem⟩
end
end
section
open Go Go.RowKit Go.ChangeMaps
section
variable {w:World} {N rb sb:Nat} {m:MV} {s:BA} {k n:Nat}
theorem RowV.move{α:Type}{Q:EQ α}{sz:Nat}{w w':World}{P P':Nat->Prop}{L:List α}{v:Value}(h:RowV Q sz w P L v)(hQ:Moves Q)(hs:w.heap.size<=w'.heap.size)(hb:∀b,P b->b<w.heap.size->w'.heap[b]? =w.heap[b]?)(hq:∀b,P b->b<w.heap.size->P' b):RowV Q sz w' P' L v:=by
 obtain⟨va,vc,cs,hv,hrow,hr⟩:=h
 refine⟨va,vc,cs,hv,?_,fun i hi=>hQ _ _ _ _ _ _ (hr i hi) hs hb hq⟩
 rcases hrow with h0|⟨g,h1,h2,h3,h4⟩
 .exact Or.inl h0
 .refine Or.inr ⟨g,h1,hq g h2 h3,Nat.lt_of_lt_of_le h3 hs,fun i hi j hj=>?_⟩
  rw[World.cell?_of_block (a:=⟨g,i*sz+j,none⟩) (w:=w) (hb g h2 h3)]
  exact h4 i hi j hj
theorem RowV.mt{lo:Nat}{w w0:World}{A:List (Nd×Nd)}{va:Option Addr}{vc:Nat}(h:RowV QArm 4 w (fun b=>lo<=b) A (.slice va A.length vc))(h0:A≠[])(hlo:w0.heap.size<=lo){x:Nd}{vx:Value}(hx:PE w (fun b=>w0.heap.size<=b) x vx)(f t a:Nat):
 PE w (fun b=>w0.heap.size<=b) (.mk 13 kNo 0 (x::armN A) f t a) (.iface 225 (.agg #[.int .i64 (f:Int),.int .i64 (t:Int),vx,.slice va A.length vc])):=by
 obtain⟨va',vc',cs,hv,hrow,hr⟩:=h
 cases hv
 rcases hrow with h1|⟨g,rfl,h2,h3,h4⟩
 .exact absurd h1 h0
 have wd:∀b,lo<=b->w0.heap.size<=b:=fun b p=>Nat.le_trans hlo p
 refine .mt _ _ x A f t a vx g vc (fun i=>cs i 2) (fun i=>cs i 3) h0 (wd g h2) h3 (fun i hi=>?_) hx (fun i hi=>(hr i hi).2.1.wide wd) (fun i hi=>(hr i hi).2.2.wide wd)
 obtain⟨u1,u2,e1,e2⟩:=(hr i hi).1
 exact⟨⟨u1,u2,by rw[<-e1];exact h4 i hi 0 (by decide),by rw[<-e2];exact h4 i hi 1 (by decide)⟩,h4 i hi 2 (by decide),h4 i hi 3 (by decide)⟩
theorem stall_arms{T:List Pu.Tok}{n:Nat}(hT:0<T.length)(x:Nd):qbm T (qcz T (patM T n) (qaq T n) T.length [x]):=by
 obtain⟨L,hL⟩:∃L,T.length=L+1:=⟨T.length-1,by omega⟩
 rw[hL]
 intro k h
 rw[arms_go]
 exact qax (stall_arm (stall_pat _) (qa1 _) k h) fun _=>qdw _ _ _ _ _
theorem match_X(hs:s.size<=1000)(hT:(Pu.toks s 0).length<=1001)(IHP:PatC s n)(IH:qfr s n)(h:SX w N rb sb m s k)(hn:(Pu.toks s 0).length<=k+1+n):
 Calls Tryz.prog 261 #[rp rb] w (RuleX PE N rb sb m s (qel (Pu.toks s 0) (patM (Pu.toks s 0) n) (qaq (Pu.toks s 0) n) k) w):=by
 have hf1:=qe6
 have hf2:=spn175
 have hnot:∀(x:Bool)(w:World),(Op.unary .not (.bool x)).run Tryz.prog w=.ok (.bool (!x)) w:=fun _ _=>rfl
 have hmf:∀(fn:Fn)(first cap:Array Value)(w:World),(Instr.makeFunc fn first cap).run Tryz.prog w=.ok (.func fn first cap) w:=fun _ _ _ _=>rfl
 have hT0:0<(Pu.toks s 0).length:=by have:=h.lt;omega
 have hz:=h.z
 have S1:=ai h
 have K2:=ai (Ke.refl rb w)
 have E3:Hid (qel (Pu.toks s 0) (patM (Pu.toks s 0) n) (qaq (Pu.toks s 0) n) k=bnd (qag (Pu.toks s 0) qbc) (fun _=>bnd (qaq (Pu.toks s 0) n) (fun x=>bnd (qag (Pu.toks s 0) kWith) (fun _=>bnd (qcz (Pu.toks s 0) (patM (Pu.toks s 0) n) (qaq (Pu.toks s 0) n) (Pu.toks s 0).length [x]) (fun l=>bnd (qag (Pu.toks s 0) kEnd) (fun _=>fun k'=>.ok (Nd.mk 13 kNo 0 l (tk (Pu.toks s 0) k).frm (qan (Pu.toks s 0) k') (tk (Pu.toks s 0) k).frm,k')))))) k):=ai rfl
 clear h
 go_enter Tryz.func261,Tryz.ntmps261
 go_wp2_with fail
 refine(qcg (uh S1) hs qbc (by decide)).mono ?_
 intro e w1 hp
 cases hA:fin (Pu.toks s 0) (qag (Pu.toks s 0) qbc k)with
 |error f'=>
  obtain⟨rfl,hb⟩:=hp.bad hA
  exact⟨rfl,RuleX.stop (uh E3) hA (fun a=>qaf (qa1 _) fun _=>qaf (qap _ _) fun _=>qaf (stall_arms hT0 _) fun _=>qaf (qap _ _) fun _=>qao _) ((uh K2).trans hb)⟩
 |ok r'=>
 obtain⟨_uw1,k1⟩:=r'
 obtain⟨vw1,rfl,hb,hS,hR⟩:=hp.ok hA
 have S4:=ai hS
 have K5:=ai ((uh K2).trans hb)
 have E6:=ai ((uh E3).trans (qae hA))
 have qw1:=(qal hA).1
 have zw1:=hb.size
 try simp at zw1
 cases hR
 clear hp hb hS hA S1 K2 E3
 have ew1:=qah _ _ _ _ qw1
 go_wp2_with fail
 refine(IH _ _ _ _ _ _ (uh S4) (by omega)).mono ?_
 intro e w2 hp
 cases hA:fin (Pu.toks s 0) (qaq (Pu.toks s 0) n k1)with
 |error f'=>
  obtain⟨rfl,hb⟩:=hp.bad hA
  exact⟨rfl,RuleX.stop (uh E6) hA (fun a=>qaf (qap _ _) fun _=>qaf (stall_arms hT0 _) fun _=>qaf (qap _ _) fun _=>qao _) ((uh K5).trans hb)⟩
 |ok r'=>
 obtain⟨x,k2⟩:=r'
 obtain⟨v2,rfl,hb,hS,hR⟩:=hp.ok hA
 have S7:=ai hS
 have K8:=ai ((uh K5).trans hb)
 have E9:=ai ((uh E6).trans (qae hA))
 have qw2:=(qal hA).1
 have zw2:=hb.size
 try simp at zw2
 have V10:=ai hR
 obtain⟨tv2,xv2,rfl⟩:=hR.iface
 clear hp hb hS hA S4 K5 E6 hR
 have ew2:=qci n _ _ _ qw2
 go_wp2_with fail
 refine(qcg (uh S7) hs kWith (by decide)).mono ?_
 intro e w3 hp
 cases hA:fin (Pu.toks s 0) (qag (Pu.toks s 0) kWith k2)with
 |error f'=>
  obtain⟨rfl,hb⟩:=hp.bad hA
  exact⟨rfl,RuleX.stop (uh E9) hA (fun a=>qaf (stall_arms hT0 _) fun _=>qaf (qap _ _) fun _=>qao _) ((uh K8).trans hb)⟩
 |ok r'=>
 obtain⟨_uw3,k3⟩:=r'
 obtain⟨vw3,rfl,hb,hS,hR⟩:=hp.ok hA
 have S11:=ai hS
 have K12:=ai ((uh K8).trans hb)
 have E13:=ai ((uh E9).trans (qae hA))
 have qw3:=(qal hA).1
 have zw3:=hb.size
 try simp at zw3
 have V14:=ai ((uh V10).ke hb (fun b p=>by show b≠rb;have p':w1.heap.size<=b:=p;omega))
 clear V10
 cases hR
 clear hp hb hS hA S7 K8 E9
 have ew3:=qah _ _ _ _ qw3
 go_wp2_with fail
 refine(barredArm_X hs hT IHP IH (uh S11) (by omega) x).mono ?_
 intro e w4 hp
 cases hA:fin (Pu.toks s 0) (qcz (Pu.toks s 0) (patM (Pu.toks s 0) n) (qaq (Pu.toks s 0) n) (Pu.toks s 0).length [x] k3)with
 |error f'=>
  obtain⟨rfl,hb⟩:=hp.bad hA
  exact⟨rfl,RuleX.stop (uh E13) hA (fun a=>qaf (qap _ _) fun _=>qao _) ((uh K12).trans hb)⟩
 |ok r'=>
 obtain⟨l,k4⟩:=r'
 obtain⟨v4,rfl,hb,hS,hR⟩:=hp.ok hA
 have S15:=ai hS
 have K16:=ai ((uh K12).trans hb)
 have E17:=ai ((uh E13).trans (qae hA))
 have qw4:=(qal hA).1
 have zw4:=hb.size
 try simp at zw4
 have V18:=ai ((uh V14).ke hb (fun b p=>by show b≠rb;have p':w1.heap.size<=b:=p;omega))
 clear V14
 obtain⟨A,hA0,rfl,hRV⟩:=hR
 have RV:=ai hRV
 obtain⟨va,vc,cs,rfl,hrow,_⟩:=hRV
 have HA0:=ai hA0
 clear hA0 hrow
 clear hp hb hS hA S11 K12 E13
 have ew4:=arms_mono (qdk (T:=(Pu.toks s 0)) n) (qci n) _ _ _ _ _ qw4
 go_wp2_with fail
 refine(qcg (uh S15) hs kEnd (by decide)).mono ?_
 intro e w5 hp
 cases hA:fin (Pu.toks s 0) (qag (Pu.toks s 0) kEnd k4)with
 |error f'=>
  obtain⟨rfl,hb⟩:=hp.bad hA
  exact⟨rfl,RuleX.stop (uh E17) hA (fun a=>qao _) ((uh K16).trans hb)⟩
 |ok r'=>
 obtain⟨_u5,k5⟩:=r'
 obtain⟨v5,rfl,hb,hS,hR⟩:=hp.ok hA
 have S19:=ai hS
 have K20:=ai ((uh K16).trans hb)
 have E21:=ai ((uh E17).trans (qae hA))
 have qw5:=(qal hA).1
 have zw5:=hb.size
 try simp at zw5
 have V22:=ai ((uh V18).ke hb (fun b p=>by show b≠rb;have p':w1.heap.size<=b:=p;omega))
 clear V18
 have RV5:=ai ((uh RV).move qem hb.size (fun b p z=>hb.block b z (by have p':w3.heap.size<=b:=p;omega)) (fun _ p _=>p))
 cases hR
 clear hp hb hS hA S15 K16 E17
 go_wp2_with fail
 refine(qcr (uh S19) _).mono ?_
 rintro e w6⟨rfl,hb⟩
 have S23:=ai ((uh S19).bel hb)
 have K24:=ai ((uh K20).below' hb)
 have zw6:=hb.size
 try simp at zw6
 have V25:=ai ((uh V22).bel hb)
 clear V22
 have RV6:=ai ((uh RV5).move qem hb.size (fun b _ z=>hb.block b z) (fun _ p _=>p))
 clear hb S19 K20
 go_wp2_with fail
 go_ret
 exact RuleX.done (uh E21) (uh K24) (uh S23) ((uh RV6).mt (uh HA0) (by have:=zw4;have:=zw3;have:=zw2;have:=zw1;omega) ((uh V25).wide fun b p=>by have p':w1.heap.size<=b:=p;show w.heap.size<=b;omega) _ _ _)
theorem SX.word(h:SX w N rb sb m s k):∃b,m.b=.map (some b)/\MS Value.string w b (wordL rb):=by
 obtain⟨b',e,_,_,hM⟩:=h.ev.mp.wd
 exact⟨b',e,hM⟩
theorem got_word{t:Pu.Tok}(ho:qd5 t)(h6:t.kind≠6)(n0:isT t kFun=false)(n1:isT t kLet=false)(n2:isT t kIf=false)(n3:isT t qbc=false):got (qaj t) (wordL rb)=none:=by
 rcases ho.kd with h'|h'|h'|h'|h'|h'|h'
 .rw[qc7 h'];rfl
 .rw[qc0 h'];rfl
 .rw[qc1 h'];rfl
 .rw[qc8 h'];rfl
 .rw[qdi h']
  refine got_no fun p hp=>?_
  simp only[wordL,List.mem_cons,List.not_mem_nil,or_false]at hp
  rcases hp with rfl|rfl|rfl|rfl
  .exact qd0 h' n0
  .exact qd0 h' n1
  .exact qd0 h' n2
  .exact qd0 h' n3
 .exact absurd h' h6
 .rw[qc9 h'];rfl
theorem expr_step(hs:s.size<=1000)(hT:(Pu.toks s 0).length<=1001)(IH:qfr s n):qfr s (n+1):=by
 intro w N rb sb m k h hn
 have hnot:∀(x:Bool)(w:World),(Op.unary .not (.bool x)).run Tryz.prog w=.ok (.bool (!x)) w:=fun _ _=>rfl
 have ho:=qdb s k h.lt
 have h6:=h.ok
 obtain⟨b,hmb,hM⟩:=h.word
 have hl:=fun q=>qc4 (hM.same (w':=w.drewN q) rfl) Tryz.underlying240 (zeroFnE _) (qaj (tk (Pu.toks s 0) k))
 have hl0:=qc4 hM Tryz.underlying240 (zeroFnE _) (qaj (tk (Pu.toks s 0) k))
 obtain⟨c,ff,z⟩:=h.bx
 have HU:qaq (Pu.toks s 0) (n+1) k=if isT (tk (Pu.toks s 0) k) kFun=true then funM (Pu.toks s 0) (qaq (Pu.toks s 0) n) k else if isT (tk (Pu.toks s 0) k) kIf=true then qdr (Pu.toks s 0) (qaq (Pu.toks s 0) n) k else if isT (tk (Pu.toks s 0) k) qbc=true then qel (Pu.toks s 0) (patM (Pu.toks s 0) n) (qaq (Pu.toks s 0) n) k else if isT (tk (Pu.toks s 0) k) kLet=true then letM (Pu.toks s 0) (qaq (Pu.toks s 0) n) k else qe8 (Pu.toks s 0) (sumM (Pu.toks s 0) (qby (Pu.toks s 0) (qbh (Pu.toks s 0) (smE s n)))) k:=rfl
 by_cases hb:isT (tk (Pu.toks s 0) k) kFun=true
 .have HE:Hid (qaq (Pu.toks s 0) (n+1) k=funM (Pu.toks s 0) (qaq (Pu.toks s 0) n) k):=ai (by rw[HU,if_pos hb])
  have hg:got (qaj (tk (Pu.toks s 0) k)) (wordL rb)=some (mth 258 rb):=by rw[qco hb];rfl
  have hcf:∀args w,(callFunc 258 args).run Tryz.prog w=.ok (.enter 258 args) w:=fun _ _=>by kernel_rfl
  simp only[hg,qc2]at hl hl0
  clear HU
  go_enter Tryz.func340,Tryz.ntmps340
  go_wp2_with fail
  go_quiet(fail)
  go_wp2_with fail
  refine(function_X hs IH (h.bel (qak _ nq)) (by omega)).mono ?_
  intro e w1 hp
  cases hA:fin (Pu.toks s 0) (funM (Pu.toks s 0) (qaq (Pu.toks s 0) n) k)with
  |error f'=>
   obtain⟨rfl,hb'⟩:=hp.bad hA
   exact⟨rfl,RuleX.fail ((Ke.of (qak _ nq)).trans hb') (by rw[uh HE];exact hA)⟩
  |ok r=>
  obtain⟨a,k2⟩:=r
  obtain⟨v,rfl,hb',S1,hR⟩:=hp.ok hA
  have HR:=ai hR
  obtain⟨tv,xv,rfl⟩:=hR.iface
  have HE1:=ai ((uh HE).trans (qal hA).1)
  have HS1:=ai S1
  have HK1:=ai ((Ke.of (qak w nq)).trans hb')
  clear hp hA hb' S1 hR
  go_wp2_with fail
  go_ret
  exact RuleX.done (uh HE1) (uh HK1) (uh HS1) (uh HR)
 have n0:=hb
 clear hb
 by_cases hb:isT (tk (Pu.toks s 0) k) kIf=true
 .have HE:Hid (qaq (Pu.toks s 0) (n+1) k=qdr (Pu.toks s 0) (qaq (Pu.toks s 0) n) k):=ai (by rw[HU,if_neg n0,if_pos hb])
  have hg:got (qaj (tk (Pu.toks s 0) k)) (wordL rb)=some (mth 260 rb):=by rw[qco hb];rfl
  have hcf:∀args w,(callFunc 260 args).run Tryz.prog w=.ok (.enter 260 args) w:=fun _ _=>by kernel_rfl
  simp only[hg,qc2]at hl hl0
  clear HU
  go_enter Tryz.func340,Tryz.ntmps340
  go_wp2_with fail
  go_quiet(fail)
  go_wp2_with fail
  refine(choice_X hs IH (h.bel (qak _ nq)) (by omega)).mono ?_
  intro e w1 hp
  cases hA:fin (Pu.toks s 0) (qdr (Pu.toks s 0) (qaq (Pu.toks s 0) n) k)with
  |error f'=>
   obtain⟨rfl,hb'⟩:=hp.bad hA
   exact⟨rfl,RuleX.fail ((Ke.of (qak _ nq)).trans hb') (by rw[uh HE];exact hA)⟩
  |ok r=>
  obtain⟨a,k2⟩:=r
  obtain⟨v,rfl,hb',S1,hR⟩:=hp.ok hA
  have HR:=ai hR
  obtain⟨tv,xv,rfl⟩:=hR.iface
  have HE1:=ai ((uh HE).trans (qal hA).1)
  have HS1:=ai S1
  have HK1:=ai ((Ke.of (qak w nq)).trans hb')
  clear hp hA hb' S1 hR
  go_wp2_with fail
  go_ret
  exact RuleX.done (uh HE1) (uh HK1) (uh HS1) (uh HR)
 have n1:=hb
 clear hb
 by_cases hb:isT (tk (Pu.toks s 0) k) qbc=true
 .have HE:Hid (qaq (Pu.toks s 0) (n+1) k=qel (Pu.toks s 0) (patM (Pu.toks s 0) n) (qaq (Pu.toks s 0) n) k):=ai (by rw[HU,if_neg n0,if_neg n1,if_pos hb])
  have hg:got (qaj (tk (Pu.toks s 0) k)) (wordL rb)=some (mth 261 rb):=by rw[qco hb];rfl
  have hcf:∀args w,(callFunc 261 args).run Tryz.prog w=.ok (.enter 261 args) w:=fun _ _=>by kernel_rfl
  simp only[hg,qc2]at hl hl0
  clear HU
  go_enter Tryz.func340,Tryz.ntmps340
  go_wp2_with fail
  go_quiet(fail)
  go_wp2_with fail
  refine(match_X hs hT (pattern_X hs hT n) IH (h.bel (qak _ nq)) (by omega)).mono ?_
  intro e w1 hp
  cases hA:fin (Pu.toks s 0) (qel (Pu.toks s 0) (patM (Pu.toks s 0) n) (qaq (Pu.toks s 0) n) k)with
  |error f'=>
   obtain⟨rfl,hb'⟩:=hp.bad hA
   exact⟨rfl,RuleX.fail ((Ke.of (qak _ nq)).trans hb') (by rw[uh HE];exact hA)⟩
  |ok r=>
  obtain⟨a,k2⟩:=r
  obtain⟨v,rfl,hb',S1,hR⟩:=hp.ok hA
  have HR:=ai hR
  obtain⟨tv,xv,rfl⟩:=hR.iface
  have HE1:=ai ((uh HE).trans (qal hA).1)
  have HS1:=ai S1
  have HK1:=ai ((Ke.of (qak w nq)).trans hb')
  clear hp hA hb' S1 hR
  go_wp2_with fail
  go_ret
  exact RuleX.done (uh HE1) (uh HK1) (uh HS1) (uh HR)
 have n2:=hb
 clear hb
 by_cases hb:isT (tk (Pu.toks s 0) k) kLet=true
 .have HE:Hid (qaq (Pu.toks s 0) (n+1) k=letM (Pu.toks s 0) (qaq (Pu.toks s 0) n) k):=ai (by rw[HU,if_neg n0,if_neg n1,if_neg n2,if_pos hb])
  have hg:got (qaj (tk (Pu.toks s 0) k)) (wordL rb)=some (mth 259 rb):=by rw[qco hb];rfl
  have hcf:∀args w,(callFunc 259 args).run Tryz.prog w=.ok (.enter 259 args) w:=fun _ _=>by kernel_rfl
  simp only[hg,qc2]at hl hl0
  clear HU
  go_enter Tryz.func340,Tryz.ntmps340
  go_wp2_with fail
  go_quiet(fail)
  go_wp2_with fail
  refine(letIn_X hs IH (h.bel (qak _ nq)) (by omega)).mono ?_
  intro e w1 hp
  cases hA:fin (Pu.toks s 0) (letM (Pu.toks s 0) (qaq (Pu.toks s 0) n) k)with
  |error f'=>
   obtain⟨rfl,hb'⟩:=hp.bad hA
   exact⟨rfl,RuleX.fail ((Ke.of (qak _ nq)).trans hb') (by rw[uh HE];exact hA)⟩
  |ok r=>
  obtain⟨a,k2⟩:=r
  obtain⟨v,rfl,hb',S1,hR⟩:=hp.ok hA
  have HR:=ai hR
  obtain⟨tv,xv,rfl⟩:=hR.iface
  have HE1:=ai ((uh HE).trans (qal hA).1)
  have HS1:=ai S1
  have HK1:=ai ((Ke.of (qak w nq)).trans hb')
  clear hp hA hb' S1 hR
  go_wp2_with fail
  go_ret
  exact RuleX.done (uh HE1) (uh HK1) (uh HS1) (uh HR)
 have n3:=hb
 clear hb
 have HE:Hid (qaq (Pu.toks s 0) (n+1) k=qe8 (Pu.toks s 0) (sumM (Pu.toks s 0) (qby (Pu.toks s 0) (qbh (Pu.toks s 0) (smE s n)))) k):=ai (by rw[HU,if_neg n0,if_neg n1,if_neg n2,if_neg n3])
 have hg:=got_word (rb:=rb) ho h6 (by simpa using n0) (by simpa using n3) (by simpa using n1) (by simpa using n2)
 simp only[hg,qc2]at hl hl0
 clear HU
 go_enter Tryz.func340,Tryz.ntmps340
 go_wp2_with fail
 go_quiet(fail)
 go_wp2_with fail
 refine(comparison_X hs hT IH (h.bel (qak _ nq)) (by omega)).mono ?_
 intro e w1 hp
 cases hA:fin (Pu.toks s 0) (qe8 (Pu.toks s 0) (sumM (Pu.toks s 0) (qby (Pu.toks s 0) (qbh (Pu.toks s 0) (smE s n)))) k)with
 |error f'=>
  obtain⟨rfl,hb'⟩:=hp.bad hA
  exact⟨rfl,RuleX.fail ((Ke.of (qak _ nq)).trans hb') (by rw[uh HE];exact hA)⟩
 |ok r=>
 obtain⟨a,k2⟩:=r
 obtain⟨v,rfl,hb',S1,hR⟩:=hp.ok hA
 have HR:=ai hR
 obtain⟨tv,xv,rfl⟩:=hR.iface
 have HE1:=ai ((uh HE).trans (qal hA).1)
 have HS1:=ai S1
 have HK1:=ai ((Ke.of (qak w nq)).trans hb')
 clear hp hA hb' S1 hR
 go_wp2_with fail
 go_ret
 exact RuleX.done (uh HE1) (uh HK1) (uh HS1) (uh HR)
theorem expr_X(hs:s.size<=1000)(hT:(Pu.toks s 0).length<=1001):∀n,qfr s n
 |0=>fun w N rb sb m k h hn=>by have:=h.lt;omega|n+1=>expr_step hs hT (expr_X hs hT n)
end
end
section
open Go Go.RowKit Go.ChangeMaps
theorem makers_go(T:List Pu.Tok)(mk:M Nd)(f:Nat)(l:List Nd)(k:Nat):qbj T mk (f+1) l k=bnd mk (fun x=>qe0 T mk (qbj T mk f) (l++[x])) k:=rfl
theorem qe2(T:List Pu.Tok)(mk:M Nd)(go:List Nd->M (List Nd))(l:List Nd):qbm T (qe0 T mk go l):=fun k h=>by unfold qe0;rw[qd9 h];exact qa0 _ h
theorem stall_maker(T:List Pu.Tok)(sm:M Nd):qbm T (qbi T sm):=qaf (qfj T 2 (by decide)) fun _ k h=>stall_headF' _ _ _ _ k h
theorem maker_lts{T:List Pu.Tok}{sm:M Nd}(hm:∀k a k',sm k=.ok (a,k')->k<k'):Lts (qbi T sm):=fun k a k' h=>by
 unfold qbi at h
 obtain⟨_,k1,h1,h2⟩:=qad h
 have:=qbk _ _ _ _ h1
 have:=headF_mono hm 1 _ _ _ _ _ h2
 omega
def QMaker:EQ Nd:=fun w P nd c=>∃(s:BA)(n:Nat)(L:List Nd)(f t a y:Nat)(v:Value),nd=.mk 2 s n L f t a/\c 0=.int .i64 (f:Int)/\c 1=.int .i64 (t:Int)/\c 2=.int .i64 (a:Int)/\c 3=.int .i64 (y:Int)/\c 4=.string s/\c 5=v/\UpN s/\y=a+s.size/\RowV (Q1 PT) 1 w P L v
theorem qca:Moves QMaker:=fun _ _ _ _ _ _ h h1 h2 h3=>by
 obtain⟨s,n,L,f,t,a,y,v,e0,e1,e2,e3,e4,e5,e6,e7,e8,e9⟩:=h
 exact⟨s,n,L,f,t,a,y,v,e0,e1,e2,e3,e4,e5,e6,e7,e8,e9.move qdj h1 h2 h3⟩
def MakerR(w:World)(P:Nat->Prop)(nd:Nd)(v:Value):Prop:=∃c:Nat->Value,v=.agg #[c 0,c 1,c 2,c 3,c 4,c 5]/\QMaker w P nd c
def ManyT(nm:BA)(w:World)(P:Nat->Prop)(a:Nd)(v:Value):Prop:=∃L fr to at_,a=.mk 2 nm 0 L fr to at_/\RowV (Q1 PT) 1 w P L v
theorem Rows.v{w:World}{base:Nat}{va:Option Addr}{vc:Nat}{L:List Nd}(h:Rows w base va vc L):RowV (Q1 PT) 1 w (fun b=>base<=b) L (.slice va L.length vc):=by
 obtain⟨vs,hl,ho,hP⟩:=h
 have hx:∀i(h:i<L.length),vs.getD i .nilIface=vs[i]'(by omega):=fun i h=>by rw[List.getD_eq_getElem?_getD,List.getElem?_eq_getElem (by omega)];rfl
 refine⟨va,vc,fun i _=>vs.getD i .nilIface,rfl,?_,fun i hi=>by show PT w _ _ (vs.getD i .nilIface);rw[hx i hi];exact(hP i hi (by omega)).wide fun b p=>p.1⟩
 obtain⟨h1,h2⟩:=ho
 rcases h2 with⟨_,hz⟩|⟨q,cap,cur,hv,hg,hh,_,_,_,ht⟩
 .exact Or.inl (List.eq_nil_of_length_eq_zero hz)
 .injection hv with e1 e2 e3
  subst e1
  refine Or.inr ⟨q,rfl,hg,(Array.getElem?_eq_some_iff.1 hh).1,fun i hi j hj=>?_⟩
  have:j=0:=by omega
  subst this
  show _=some (vs.getD i .nilIface)
  rw[hx i hi,<-List.getElem?_eq_getElem (by omega),<-ht]
  simp only[World.cell?,hh,Nat.mul_one,Nat.add_zero]
  rw[List.getElem?_take_of_lt (by omega)]
  simp
section
variable {w:World} {N rb sb:Nat} {m:MV} {s:BA} {k n:Nat}
theorem manyType_X(hs:s.size<=1000)(hT:(Pu.toks s 0).length<=1001)(h:SX w N rb sb m s k)(hn:(Pu.toks s 0).length<=k+1+n)(nm:BA)(fr to at_:Nat):
 Calls Tryz.prog 310 #[rp rb,.map (some sb)] w (RuleX (ManyT nm) N rb sb m s (qbv (Pu.toks s 0) (smM s n) 1 (Pu.toks s 0).length (.mk 2 nm 0 [] fr to at_) k) w):=by
 refine(many_C hs hT (arrow_C hs hT n) h.rd h.lt h.ok hn nm fr to at_).mono fun e w' hp=>?_
 obtain⟨h1,h2⟩:=hp
 refine⟨h1,?_⟩
 cases hr:fin (Pu.toks s 0) (qbv (Pu.toks s 0) (smM s n) 1 (Pu.toks s 0).length (.mk 2 nm 0 [] fr to at_) k)with
 |error f=>rw[hr]at h2;exact h2|ok p=>
  obtain⟨a,j⟩:=p
  rw[hr]at h2
  obtain⟨va,vc,L,f1,t1,a1,e0,e1,e2,e3,e4⟩:=h2
  exact⟨_,e1,SX.of e2 (h.ev.ke h1) e3 (qal hr).2,L,f1,t1,a1,e0,e4.v⟩
theorem name2_in{k k':Nat}{t:Pu.Tok}(h:qa7 (Pu.toks s 0) 2 k=.ok (t,k'))(hk:k<(Pu.toks s 0).length):UpN t.text/\t.to=t.frm+t.text.size:=by
 unfold qa7 at h
 split at h
 .rename_i hq
  cases h
  exact⟨(qdb s k hk).v2 (by simpa using hq),(tk_in s k hk).sp⟩
 .cases h
theorem Bx.set6'{w:World}{b:Nat}{C:Array Value}(h:Bx w b C)(hC:C.size=6)(v0 v1 v2 v3 v4 v5:Value):Bx ((((((w.setCell ⟨b,0,none⟩ v0).setCell ⟨b,1,none⟩ v1).setCell ⟨b,2,none⟩ v2).setCell ⟨b,3,none⟩ v3).setCell ⟨b,4,none⟩ v4).setCell ⟨b,5,none⟩ v5) b #[v0,v1,v2,v3,v4,v5]:=by
 obtain⟨a0,a1,a2,a3,a4,a5,rfl⟩:∃a0 a1 a2 a3 a4 a5,C=#[a0,a1,a2,a3,a4,a5]:=by
  obtain⟨l⟩:=C
  match l,hC with
  |[a,b,c,d,e,f],_=>exact⟨a,b,c,d,e,f,rfl⟩
 exact(((((h.setS' 0 v0 #[v0,a1,a2,a3,a4,a5] rfl (by simp)).setS' 1 v1 #[v0,v1,a2,a3,a4,a5] rfl (by simp)).setS' 2 v2 #[v0,v1,v2,a3,a4,a5] rfl (by simp)).setS' 3 v3 #[v0,v1,v2,v3,a4,a5] rfl (by simp)).setS' 4 v4 #[v0,v1,v2,v3,v4,a5] rfl (by simp)).setS' 5 v5 #[v0,v1,v2,v3,v4,v5] rfl (by simp)
theorem RowV.setC{α:Type}{Q:EQ α}{sz:Nat}{P:Nat->Prop}{L:List α}{v:Value}(h:RowV Q sz w P L v)(hQ:Moves Q){b:Nat}(hb:∀c,P c->c≠b)(j:Nat)(u:Value):RowV Q sz (w.setCell ⟨b,j,none⟩ u) P L v:=h.move hQ (by simp[World.setCell]) (fun c p _=>Below.heap_setCell _ _ _ _ (hb c p)) (fun _ p _=>p)
theorem maker_X(hs:s.size<=1000)(hT:(Pu.toks s 0).length<=1001)(h:SX w N rb sb m s k)(hn:(Pu.toks s 0).length<=k+1+n):Calls Tryz.prog 338 #[rp rb] w (RuleX MakerR N rb sb m s (qbi (Pu.toks s 0) (smM s n) k) w):=by
 have hz:=h.z
 have hNw:=h.ev.hN
 have hlt0:=h.lt
 have b0:Below w.heap.size w (w.alloc (.cells #[.int .i64 0,.int .i64 0,.int .i64 0,.int .i64 0,.string ⟨#[]⟩,.slice none 0 0] 372)):=bw _
 have B0:=ai (Bx.new w #[.int .i64 0,.int .i64 0,.int .i64 0,.int .i64 0,.string ⟨#[]⟩,.slice none 0 0] 372)
 have HC:=name_X (h.bel b0) hs 2 kUp (Or.inr ⟨rfl,rfl⟩)
 clear h
 go_enter Tryz.func338,Tryz.ntmps338
 go_wp2_with fail
 refine HC.mono ?_
 intro e w1 hp
 cases hA:fin (Pu.toks s 0) (qa7 (Pu.toks s 0) 2 k)with
 |error f=>
  obtain⟨rfl,hb⟩:=hp.bad hA
  exact⟨rfl,RuleX.stop rfl hA (fun _ k h=>stall_headF' _ _ _ _ k h) ((Ke.of b0).trans hb)⟩
 |ok r=>
 obtain⟨t,k1⟩:=r
 obtain⟨v,rfl,hb,hS,hR⟩:=hp.ok hA
 cases hR
 have hk1:=qbk _ _ _ _ (qal hA).1
 have Ht:=ai (name2_in (qal hA).1 hlt0)
 have HE1:Hid (qbi (Pu.toks s 0) (smM s n) k=qbv (Pu.toks s 0) (smM s n) 1 (Pu.toks s 0).length (.mk 2 t.text 0 [] t.frm (qan (Pu.toks s 0) k1) t.frm) k1):=ai (qae hA)
 have hb1:Below w1.heap.size w1 (w1.alloc (.cells #[.int .i64 (t.frm:Int),.int .i64 (t.to:Int),.string t.text] 214)):=bw _
 have B1:=ai (((uh B0).ke' hb (by omega)).below hb1)
 have N1:=ai (Bx.new w1 #[.int .i64 (t.frm:Int),.int .i64 (t.to:Int),.string t.text] 214)
 have K1:=ai (((Ke.of b0).trans hb).below' hb1)
 have S1:=ai (hS.bel hb1)
 have z1:=hb.size
 simp at z1
 obtain⟨c1,f1,y1⟩:=(uh S1).bx
 clear hp hb hS HC hb1 B0
 go_wp2_with fail
 refine(manyType_X (n:=n) hs hT (uh S1) (by omega) t.text t.frm (qan (Pu.toks s 0) k1) t.frm).mono ?_
 intro e w3 hp
 clear c1 f1 y1
 cases hA2:fin (Pu.toks s 0) (qbv (Pu.toks s 0) (smM s n) 1 (Pu.toks s 0).length (.mk 2 t.text 0 [] t.frm (qan (Pu.toks s 0) k1) t.frm) k1)with
 |error f'=>
  obtain⟨rfl,hb'⟩:=hp.bad hA2
  exact⟨rfl,RuleX.fail ((uh K1).trans hb') (by rw[uh HE1];exact hA2)⟩
 |ok rr=>
 obtain⟨a,k2⟩:=rr
 obtain⟨v,rfl,hb3,S3,L,fr,to,at_,rfl,RV⟩:=hp.ok hA2
 obtain⟨L',hL'⟩:=headF_form _ _ _ _ _ (qal hA2).1
 injection hL' with _ _ _ e3 e4 e5 e6
 subst e3 e4 e5 e6
 have HE3:=ai ((uh HE1).trans (qal hA2).1)
 have B3:=ai ((uh B1).ke' hb3 (by omega))
 have N3:=ai ((uh N1).ke' hb3 (by omega))
 have S3':=ai S3
 have K3:=ai ((uh K1).trans hb3)
 have R3:Hid (RowV (Q1 PT) 1 w3 (fun b=>w.heap.size+1<=b) L v):=ai (RV.move qdj (br _) (fun _ _ _=>rfl) (fun b p _=>by simp at p⊢;omega))
 obtain⟨va,vc,cs,rfl,_,_⟩:=RV
 have z3:=hb3.size
 simp at z3
 clear hp hA hA2 S3 hb3 HE1 S1 K1 B1 N1
 obtain⟨c3,f3,y3⟩:=uh B3
 obtain⟨d3,g3,x3⟩:=uh N3
 go_wp2_with fail
 go_region_with(go_at_call 214;refine(qcr ((uh S3').bel (Below.refl _ _).drew) _).mono ?_;rintro e w4⟨rfl,hb4⟩;have S4:=ai (((uh S3').bel (Below.refl _ _).drew).bel hb4);have K4:=ai (((uh K3).below' (Below.refl _ _).drew).below' hb4);have B4:=ai ((uh B3).drew'.below hb4);have N4:=ai ((uh N3).drew'.below hb4);have R4:=ai (((uh R3).move qdj (br _) (fun _ _ _=>rfl) (fun _ p _=>p)).move qdj hb4.size (fun b _ z=>hb4.block b z) (fun _ p _=>p));obtain⟨c4,f4,y4⟩:=uh B4;obtain⟨d4,g4,x4⟩:=uh N4;clear hb4)
 all_goals(
  go_wp2_with fail
  obtain⟨cF,fF,zF⟩:=(uh B4).set6' rfl (.int .i64 (t.frm:Int)) (.int .i64 ((qan (Pu.toks s 0) k2:Nat):Int)) (.int .i64 (t.frm:Int)) (.int .i64 (t.to:Int)) (.string t.text) (.slice va L.length vc)
  refine bodyPost_ret (v:=.agg #[.int .i64 (t.frm:Int),.int .i64 ((qan (Pu.toks s 0) k2:Nat):Int),.int .i64 (t.frm:Int),.int .i64 (t.to:Int),.string t.text,.slice va L.length vc]) (by simp[results,Tryz.results338,go_sem,cF]) rfl ?_
  exact RuleX.done (uh HE3) (((((((uh K4).setNew (b:=w.heap.size) (br _) 0 (.int .i64 (t.frm:Int))).setNew (b:=w.heap.size) (br _) 1 (.int .i64 ((qan (Pu.toks s 0) k2:Nat):Int))).setNew (b:=w.heap.size) (br _) 2 (.int .i64 (t.frm:Int))).setNew (b:=w.heap.size) (br _) 3 (.int .i64 (t.to:Int))).setNew (b:=w.heap.size) (br _) 4 (.string t.text)).setNew (b:=w.heap.size) (br _) 5 (.slice va L.length vc)) (((((((uh S4).set (b:=w.heap.size) hNw 0 (.int .i64 (t.frm:Int))).set (b:=w.heap.size) hNw 1 (.int .i64 ((qan (Pu.toks s 0) k2:Nat):Int))).set (b:=w.heap.size) hNw 2 (.int .i64 (t.frm:Int))).set (b:=w.heap.size) hNw 3 (.int .i64 (t.to:Int))).set (b:=w.heap.size) hNw 4 (.string t.text)).set (b:=w.heap.size) hNw 5 (.slice va L.length vc)) ⟨fun j=>([.int .i64 (t.frm:Int),.int .i64 ((qan (Pu.toks s 0) k2:Nat):Int),.int .i64 (t.frm:Int),.int .i64 (t.to:Int),.string t.text,.slice va L.length vc]:List Value).getD j .nilIface,rfl,t.text,0,L,t.frm,qan (Pu.toks s 0) k2,t.frm,t.to,_,rfl,rfl,rfl,rfl,rfl,rfl,rfl,(uh Ht).1,(uh Ht).2,(((((((uh R4).setC qdj (b:=w.heap.size) (fun c p=>by have p':w.heap.size+1<=c:=p;omega) 0 (.int .i64 (t.frm:Int))).setC qdj (b:=w.heap.size) (fun c p=>by have p':w.heap.size+1<=c:=p;omega) 1 (.int .i64 ((qan (Pu.toks s 0) k2:Nat):Int))).setC qdj (b:=w.heap.size) (fun c p=>by have p':w.heap.size+1<=c:=p;omega) 2 (.int .i64 (t.frm:Int))).setC qdj (b:=w.heap.size) (fun c p=>by have p':w.heap.size+1<=c:=p;omega) 3 (.int .i64 (t.to:Int))).setC qdj (b:=w.heap.size) (fun c p=>by have p':w.heap.size+1<=c:=p;omega) 4 (.string t.text)).setC qdj (b:=w.heap.size) (fun c p=>by have p':w.heap.size+1<=c:=p;omega) 5 (.slice va L.length vc)).move qdj (br _) (fun _ _ _=>rfl) (fun b p _=>by have p':w.heap.size+1<=b:=p;show w.heap.size<=b;omega)⟩)
end
end
section
open Go Go.RowKit Go.ChangeMaps
theorem makerInfo:(Tryz.prog.info? 372).map (fun i=>(i.zero,i.size,i.bytes))=some (some (.agg #[.int .i64 0,.int .i64 0,.int .i64 0,.int .i64 0,.string ⟨#[]⟩,.slice none 0 0]),6,72):=by kernel_rfl
theorem makersUnder:Tryz.prog.underlying 248=some (.slice 372):=by kernel_rfl
theorem MakerR.open{w:World}{P:Nat->Prop}{nd:Nd}{v:Value}(h:MakerR w P nd v):∃(s:BA)(n:Nat)(L:List Nd)(f t a y:Nat)(va:Option Addr)(vc:Nat),nd=.mk 2 s n L f t a/\v=.agg #[.int .i64 (f:Int),.int .i64 (t:Int),.int .i64 (a:Int),.int .i64 (y:Int),.string s,.slice va L.length vc]/\UpN s/\y=a+s.size/\RowV (Q1 PT) 1 w P L (.slice va L.length vc):=by
 obtain⟨c,rfl,s,n,L,f,t,a,y,v,e0,e1,e2,e3,e4,e5,e6,e7,e8,e9⟩:=h
 have e9':=e9
 obtain⟨va,vc,cs,rfl,_,_⟩:=e9
 exact⟨s,n,L,f,t,a,y,va,vc,e0,by rw[e1,e2,e3,e4,e5,e6],e7,e8,e9'⟩
def MakersR(w:World)(P:Nat->Prop)(l:List Nd)(v:Value):Prop:=l≠[]/\RowV QMaker 6 w P l v
def MakersRel(N rb sb:Nat)(m:MV)(s:BA)(n k:Nat)(w:World)(r:Except Fl (List Nd×Nat))(gk:Nat)(v:Value)(wr:World):Prop:=
 ∃(kr:Nat)(A:List Nd)(f:Nat)(va:Option Addr)(vc:Nat),v=.slice va A.length vc/\A≠[]/\SX wr N rb sb m s kr/\Ke rb w wr/\Hid (gk=(Pu.toks s 0).length-kr)/\k<kr/\A.length<=kr/\RowO QMaker 372 6 wr w.heap.size va vc A/\Hid (r=qe0 (Pu.toks s 0) (qbi (Pu.toks s 0) (smM s n)) (qbj (Pu.toks s 0) (qbi (Pu.toks s 0) (smM s n)) f) A kr)/\(Pu.toks s 0).length<=kr+f
section
variable {w:World} {N rb sb:Nat} {m:MV} {s:BA} {k n:Nat}
theorem barredMaker_X(hs:s.size<=1000)(hT:(Pu.toks s 0).length<=1001)(h:SX w N rb sb m s k)(hn:(Pu.toks s 0).length<=k+1+n):
 Calls Tryz.prog 337 #[rp rb,mth 338 rb] w (RuleX MakersR N rb sb m s (qbj (Pu.toks s 0) (qbi (Pu.toks s 0) (smM s n)) (Pu.toks s 0).length [] k) w):=by
 obtain⟨i0,hi0,hz0,hz1,hz2⟩:=info_parts makerInfo
 have hcA:∀args w,(callFunc 338 args).run Tryz.prog w=.ok (.enter 338 args) w:=fun _ _=>by kernel_rfl
 have hzr:=h.z
 have hNw:=h.ev.hN
 have hk:=h.lt
 obtain⟨r,hr⟩:∃r,r=qbj (Pu.toks s 0) (qbi (Pu.toks s 0) (smM s n)) (Pu.toks s 0).length [] k:=⟨_,rfl⟩
 rw[<-hr]
 obtain⟨L,hL⟩:∃L,(Pu.toks s 0).length=L+1:=⟨(Pu.toks s 0).length-1,by omega⟩
 have HE:Hid (r=bnd (qbi (Pu.toks s 0) (smM s n)) (fun a=>qe0 (Pu.toks s 0) (qbi (Pu.toks s 0) (smM s n)) (qbj (Pu.toks s 0) (qbi (Pu.toks s 0) (smM s n)) L) ([]++[a])) k):=ai (by rw[hr,hL];exact makers_go _ _ _ _ _)
 have HL:=ai hL
 have HC:=maker_X (n:=n) hs hT h hn
 clear hr hL h
 go_enter Tryz.func337,Tryz.ntmps337
 go_wp2_with fail
 refine HC.mono ?_
 intro e w1 hp
 cases hA:fin (Pu.toks s 0) ((qbi (Pu.toks s 0) (smM s n)) k)with
 |error f'=>
  obtain⟨rfl,hb⟩:=hp.bad hA
  exact⟨rfl,RuleX.stop (uh HE) hA (fun a=>qe2 _ _ _ _) hb⟩
 |ok rr=>
 obtain⟨a,k1⟩:=rr
 obtain⟨v1,rfl,K1,S1,hMR⟩:=hp.ok hA
 obtain⟨s',n',L',f',t',a',y',va',vc',rfl,rfl,hu',hy',hRV'⟩:=hMR.open
 have hlt:=maker_lts (T:=(Pu.toks s 0)) (qaw (qa2 n) (qa2 n) 1) _ _ _ (qal hA).1
 have HE1:=ai ((uh HE).trans (qae hA))
 have hbw:Below w1.heap.size w1 (w1.alloc (.cells #[.int .i64 (f':Int),.int .i64 (t':Int),.int .i64 (a':Int),.int .i64 (y':Int),.string s',.slice va' L'.length vc'] 372)):=bw _
 have HS1:=ai (S1.bel hbw)
 have HK1:=ai (K1.below' hbw)
 have HR1:Hid (RowO QMaker 372 6 (w1.alloc (.cells #[.int .i64 (f':Int),.int .i64 (t':Int),.int .i64 (a':Int),.int .i64 (y':Int),.string s',.slice va' L'.length vc'] 372)) w.heap.size (some ⟨w1.heap.size,0,none⟩) 1 [.mk 2 s' n' L' f' t' a']):=ai (RowO.one (lo:=w.heap.size) (c:=fun j=>([.int .i64 (f':Int),.int .i64 (t':Int),.int .i64 (a':Int),.int .i64 (y':Int),.string s',.slice va' L'.length vc']:List Value).getD j .nilIface) qca ⟨s',n',L',f',t',a',y',_,rfl,rfl,rfl,rfl,rfl,rfl,rfl,hu',hy',hRV'⟩ (br _) K1.size (by decide) _ rfl rfl)
 clear hp hA HE HC hMR hRV' hy' hu' S1 K1
 go_wp2_with fail
 go_loopg[5] ((Pu.toks s 0).length-k1) (fun gk v wr=>MakersRel N rb sb m s n k w r gk v wr)
 case atStart=>exact⟨k1,[.mk 2 s' n' L' f' t' a'],L,some ⟨w1.heap.size,0,none⟩,1,rfl,by simp,uh HS1,uh HK1,ai rfl,hlt,by simp;omega,uh HR1,HE1,by have:=uh HL;omega⟩
 case round=>
  clear HS1 HK1 HR1 HE1 HL hbw
  obtain⟨kr,A,f,va,vc,rfl,hA0,R,K,hgk,hle,hAl,RW,hE,hfu⟩:=hrel
  have hkr:=R.lt
  by_cases hb:isT (tk (Pu.toks s 0) kr) kBar=true
  .obtain⟨f,rfl⟩:∃f',f=f'+1:=⟨f-1,by omega⟩
   have hE2:Hid (r=bnd passM (fun _=>bnd (qbi (Pu.toks s 0) (smM s n)) fun a=>qe0 (Pu.toks s 0) (qbi (Pu.toks s 0) (smM s n)) (qbj (Pu.toks s 0) (qbi (Pu.toks s 0) (smM s n)) f) (A++[a])) kr):=ai ((uh hE).trans (by unfold qe0;rw[if_pos hb,makers_go];rfl))
   have zw:=K.size
   have hrw:=RW.block
   clear hE
   go_wp2_with fail
   refine(took_Y R hs kBar (by decide) hb).mono ?_
   intro e w2 hp
   by_cases h6:(tk (Pu.toks s 0) (kr+1)).kind=6
   .obtain⟨rfl,hb'⟩:=hp.bad (qa0 _ h6)
    exact⟨rfl,RuleX.stop (uh hE2) (qa0 _ h6) (fun _=>qaf (stall_maker _ _) fun a=>qe2 _ _ _ _) (K.trans hb')⟩
   obtain⟨v2,rfl,hb2,S2,hR⟩:=hp.ok (fin_ok' _ h6)
   cases hR
   have hE3:Hid (r=bnd (qbi (Pu.toks s 0) (smM s n)) (fun a=>qe0 (Pu.toks s 0) (qbi (Pu.toks s 0) (smM s n)) (qbj (Pu.toks s 0) (qbi (Pu.toks s 0) (smM s n)) f) (A++[a])) (kr+1)):=hE2
   have HC:=maker_X (n:=n) hs hT S2 (by omega)
   have K2:=K.trans hb2
   have RW2:=RW.ke qca hb2 hzr
   have z2:=hb2.size
   clear hp R RW hE2 hb2
   go_wp2_with fail
   refine HC.mono ?_
   intro e w1 hp
   cases hA:fin (Pu.toks s 0) ((qbi (Pu.toks s 0) (smM s n)) (kr+1))with
   |error f'=>
    obtain⟨rfl,hb'⟩:=hp.bad hA
    exact⟨rfl,RuleX.stop (uh hE3) hA (fun a=>qe2 _ _ _ _) (K2.trans hb')⟩
   |ok rr=>
   obtain⟨a,k2⟩:=rr
   obtain⟨v1,rfl,hb1,S1,hMR⟩:=hp.ok hA
   obtain⟨s',n',L',f',t',a',y',va',vc',rfl,rfl,hu',hy',hRV'⟩:=hMR.open
   have hlt:=maker_lts (T:=(Pu.toks s 0)) (qaw (qa2 n) (qa2 n) 1) _ _ _ (qal hA).1
   have HE3:=ai ((uh hE3).trans (qae hA))
   have z1:=hb1.size
   have RW1:=RW2.ke qca hb1 hzr
   have hob:=RW1.block
   obtain⟨cs,hown,hPP⟩:=RW1
   have HO:=ai hown
   have HPP:=ai hPP
   have HP1:Hid (QMaker w1 (fun b=>w2.heap.size<=b) (.mk 2 s' n' L' f' t' a') (fun j=>([.int .i64 (f':Int),.int .i64 (t':Int),.int .i64 (a':Int),.int .i64 (y':Int),.string s',.slice va' L'.length vc']:List Value).getD j .nilIface)):=ai ⟨s',n',L',f',t',a',y',_,rfl,rfl,rfl,rfl,rfl,rfl,rfl,hu',hy',hRV'⟩
   have HS1:=ai S1
   have HK1:=ai (K2.trans hb1)
   clear hp hA HC hE3 hown hPP hMR hRV' hy' hu' S1 hb1 RW2 K K2 S2
   go_wp2_with(at_builtin;go_must(refine wpList_append_own_at _ rfl (.tmp 11) (.tmp 14) 248 rfl w.heap.size 372 i0 _ 6 72 makersUnder hi0 hz0 hz1 hz2 rfl (by decide) (.slice va A.length vc) A.length _ rfl ((uh HO).alloc _) ⟨w1.heap.size,0,none⟩ 1 1 [.int .i64 (f':Int),.int .i64 (t':Int),.int .i64 (a':Int),.int .i64 (y':Int),.string s',.slice va' L'.length vc'] rfl rfl (qbw _ _ _ _ (by simp)) (by intro u hu;simp at hu;rcases hu with rfl|rfl|rfl|rfl|rfl|rfl<;>rfl) (by unfold maxLen;omega) (by omega) (by simp;omega) ?_;intro v3 w3 hown3 hg3 hnil3 hloc3;have Hown3:=ai hown3;have Hg3:=ai hg3;have Hloc3:=ai hloc3;clear hown3 hg3 hnil3 hloc3))
   obtain⟨q3,c3,rfl⟩:=qb6 (uh Hown3) (by omega)
   go_roundg((Pu.toks s 0).length-k2)
   case measure=>rw[uh hgk];omega
   case rel=>
    have hlen:(A++[Nd.mk 2 s' n' L' f' t' a']).length=A.length+1:=by simp
    have hbw:Below w1.heap.size w1 (w1.alloc (.cells #[.int .i64 (f':Int),.int .i64 (t':Int),.int .i64 (a':Int),.int .i64 (y':Int),.string s',.slice va' L'.length vc'] 372)):=bw _
    refine⟨k2,A++[.mk 2 s' n' L' f' t' a'],f,some ⟨q3,0,none⟩,c3,by rw[hlen],by simp,((uh HS1).bel hbw).grown (uh Hg3) (fun j e=>by have:=hob j e;omega),?_,ai rfl,by omega,by rw[hlen];omega,?_,?_,by omega⟩
    .exact Ke.grown (uh Hg3) ((uh HK1).below' hbw) (fun j e=>(hob j e).1)
    .exact RowO.push (w1:=w1) (lo:=w2.heap.size) (c:=fun j=>([.int .i64 (f':Int),.int .i64 (t':Int),.int .i64 (a':Int),.int .i64 (y':Int),.string s',.slice va' L'.length vc']:List Value).getD j .nilIface) qca (uh HPP) (uh HP1) (by omega) (fun b e=>by have:=(hrw b e).2;omega) hbw (uh Hown3) (uh Hg3) (uh Hloc3)
    .exact HE3
  .have hb':isT (tk (Pu.toks s 0) kr) kBar=false:=by simpa using hb
   have hE2:Hid (r=.ok (A,kr)):=ai ((uh hE).trans (by unfold qe0;rw[if_neg hb]))
   go_wp2_with fail
   refine(took_N R kBar (by decide) hb').mono ?_
   rintro e w'⟨rfl,rfl⟩
   go_wp2_with fail
   go_ret
   exact RuleX.done (uh hE2) K R ⟨hA0,RW.v qca⟩
end
end
section
open Go Go.RowKit Go.ChangeMaps
theorem stall_vars(T:List Pu.Tok):∀f l,qbm T (qdm T f l)
 |0,l=>fun k h=>qa0 _ h|f+1,l=>fun k h=>by unfold qdm;rw[if_neg (by omega)];exact qa0 _ h
theorem varsF_mono(T:List Pu.Tok):∀f l k a k',qdm T f l k=.ok (a,k')->k<=k'
 |0,l,k,a,k',h=>by cases h;omega|f+1,l,k,a,k',h=>by
  unfold qdm at h
  split at h
  .have:=varsF_mono T f _ _ _ _ h;omega
  .cases h;omega
theorem qe1{T:List Pu.Tok}(hT:0<T.length){sm:M Nd}:qbm T (qbj T (qbi T sm) T.length []):=by
 obtain⟨L,hL⟩:∃L,T.length=L+1:=⟨T.length-1,by omega⟩
 rw[hL]
 intro k h
 rw[makers_go]
 exact qax (stall_maker _ _ k h) fun _=>qe2 _ _ _ _
theorem makers_mono{T:List Pu.Tok}{mk:M Nd}(hm:Lts mk):∀f l k a k',qbj T mk f l k=.ok (a,k')->k<=k'
 |0,l,k,a,k',h=>by cases h;omega|f+1,l,k,a,k',h=>by
  rw[makers_go]at h
  obtain⟨_,k1,h1,h2⟩:=qad h
  have:=hm _ _ _ h1
  unfold qe0 at h2
  split at h2
  .have:=makers_mono hm f _ _ _ _ h2;omega
  .cases h2;omega
def QName:EQ Pu.Tok:=fun _ _ t c=>c 0=.int .i64 (t.frm:Int)/\c 1=.int .i64 (t.to:Int)/\c 2=.string (t.text.extract 1 t.text.size)/\(∃r,t.text.toList=39::r)/\t.to=t.frm+t.text.size
theorem qck:Moves QName:=fun _ _ _ _ _ _ h _ _ _=>h
theorem nameInfo:(Tryz.prog.info? 214).map (fun i=>(i.zero,i.size,i.bytes))=some (some (.agg #[.int .i64 0,.int .i64 0,.string ⟨#[]⟩]),3,32):=by kernel_rfl
theorem namesUnder:Tryz.prog.underlying 247=some (.slice 214):=by kernel_rfl
def PD(w:World)(P:Nat->Prop):Dc->Value->Prop
 |.ty t vs ms,v=>∃(f u:Int)(vv vm:Value),v=.iface 250 (.agg #[.int .i64 f,.int .i64 u,.int .i64 (t.frm:Int),.int .i64 (t.to:Int),.string t.text,vv,vm])/\UpN t.text/\t.to=t.frm+t.text.size/\RowV QName 3 w P vs vv/\ms≠[]/\RowV QMaker 6 w P ms vm|.lt r t b,v=>∃(f u:Int)(vb:Value),v=.iface 220 (.agg #[.int .i64 f,.int .i64 u,.bool r,.int .i64 (t.frm:Int),.int .i64 (t.to:Int),.string t.text,vb])/\LowN t.text/\t.to=t.frm+t.text.size/\PE w P b vb
theorem PD.move{w w':World}{P Q:Nat->Prop}{d:Dc}{v:Value}(h:PD w P d v)(hs:w.heap.size<=w'.heap.size)(hb:∀b,P b->b<w.heap.size->w'.heap[b]? =w.heap[b]?)(hq:∀b,P b->b<w.heap.size->Q b):PD w' Q d v:=by
 cases d with
 |ty t vs ms=>
  obtain⟨f,u,vv,vm,h1,h2,h3,h4,h5,h6⟩:=h
  exact⟨f,u,vv,vm,h1,h2,h3,h4.move qck hs hb hq,h5,h6.move qca hs hb hq⟩
 |lt r t b=>
  obtain⟨f,u,vb,h1,h2,h3,h4⟩:=h
  exact⟨f,u,vb,h1,h2,h3,h4.move hs hb hq⟩
theorem PD.iface{w:World}{P:Nat->Prop}{d:Dc}{v:Value}(h:PD w P d v):∃t x,v=.iface t (.agg x):=by
 cases d with
 |ty t vs ms=>obtain⟨f,u,vv,vm,h1,_⟩:=h;exact⟨_,_,h1⟩
 |lt r t b=>obtain⟨f,u,vb,h1,_⟩:=h;exact⟨_,_,h1⟩
def VarsRel(N rb sb:Nat)(m:MV)(s:BA)(k2 nb:Nat)(NC:Array Value)(w:World)(r:Except Fl (List Pu.Tok×Nat))(gk:Nat)(v:Value)(wr:World):Prop:=
 ∃(kr:Nat)(V:List Pu.Tok)(f:Nat)(va:Option Addr)(vc:Nat),v=.slice va V.length vc/\SX wr N rb sb m s kr/\Ke rb w wr/\Bx wr nb NC/\Hid (gk=(Pu.toks s 0).length-kr)/\k2<=kr/\V.length<=kr/\RowO QName 214 3 wr (nb+1) va vc V/\Hid (r=qdm (Pu.toks s 0) f V kr)/\(Pu.toks s 0).length<=kr+f
section
variable {w:World} {N rb sb:Nat} {m:MV} {s:BA} {k n:Nat}
theorem kind_var{t:Pu.Tok}(h:qd5 t)(hk:t.kind≠6):((qaj t).toList==[97,32,118,97,114,105,97,98,108,101])=(t.kind==3):=by
 obtain h'|h'|h'|h'|h'|h'|h':=h.kd
 .rw[qc7 h'];simp[h',ByteArray.toList_eq]
 .rw[qc0 h'];simp[h',ByteArray.toList_eq]
 .rw[qc1 h'];simp[h',ByteArray.toList_eq]
 .rw[qc8 h'];simp[h',ByteArray.toList_eq]
 .have:=qfg h hk (kd:=kVar) (by decide) h'
  rw[show kVar.toList=[97,32,118,97,114,105,97,98,108,101]from qab _]at this
  rw[this];simp[h']
 .exact absurd h' hk
 .rw[qc9 h'];simp[h',ByteArray.toList_eq]
theorem variableName_X(h:SX w N rb sb m s k)(hs:s.size<=1000)(h3:(tk (Pu.toks s 0) k).kind=3):Calls Tryz.prog 336 #[rp rb] w (RuleX (Is (.agg #[.int .i64 ((tk (Pu.toks s 0) k).frm:Int),.int .i64 ((tk (Pu.toks s 0) k).to:Int),.string ((tk (Pu.toks s 0) k).text.extract 1 (tk (Pu.toks s 0) k).text.size)])) N rb sb m s (.ok ((),k+1)) w):=
 (qfb h.rd hs (tk_to s k h.lt) h3 (qdb s k h.lt)).mono fun _ _ q=>q.x h (by omega) rfl
theorem letDecl_X(hs:s.size<=1000)(IH:qfr s n)(h:SX w N rb sb m s k)(hn:(Pu.toks s 0).length<=k+1+n):
 Calls Tryz.prog 257 #[rp rb] w (RuleX PD N rb sb m s (letDM (Pu.toks s 0) (qaq (Pu.toks s 0) n) k) w):=by
 have hf1:=qe6
 have hf2:=spn175
 have hnot:∀(x:Bool)(w:World),(Op.unary .not (.bool x)).run Tryz.prog w=.ok (.bool (!x)) w:=fun _ _=>rfl
 have HE0:letDM (Pu.toks s 0) (qaq (Pu.toks s 0) n) k=bnd (qag (Pu.toks s 0) kLet) (fun _=>bnd (bindM (Pu.toks s 0) (qaq (Pu.toks s 0) n)) (fun b=>bnd (qag (Pu.toks s 0) qeb) (fun _=>fun k=>.ok (Dc.lt (b.1==11) b.2.1 b.2.2,k)))) k:=by unfold letDM;rw[bound_bind,bnd_assoc]
 have hz:=h.z
 have S1:=ai h
 have K2:=ai (Ke.refl rb w)
 have E3:=ai HE0
 clear h HE0
 go_enter Tryz.func257,Tryz.ntmps257
 go_wp2_with fail
 refine(qcg (uh S1) hs kLet (by decide)).mono ?_
 intro e w1 hp
 cases hA:fin (Pu.toks s 0) (qag (Pu.toks s 0) kLet k)with
 |error f'=>
  obtain⟨rfl,hb⟩:=hp.bad hA
  exact⟨rfl,RuleX.stop (uh E3) hA (fun a=>qaf (stall_bind _) fun _=>qaf (qap _ _) fun _=>qao _) ((uh K2).trans hb)⟩
 |ok r'=>
 obtain⟨_uw1,k1⟩:=r'
 obtain⟨vw1,rfl,hb,hS,hR⟩:=hp.ok hA
 have S4:=ai hS
 have K5:=ai ((uh K2).trans hb)
 have E6:=ai ((uh E3).trans (qae hA))
 have qw1:=(qal hA).1
 have zw1:=hb.size
 try simp at zw1
 cases hR
 clear hp hb hS hA S1 K2 E3
 have ew1:=qah _ _ _ _ qw1
 go_wp2_with fail
 refine(binding_X hs IH (uh S4) (by omega)).mono ?_
 intro e w2 hp
 cases hA:fin (Pu.toks s 0) (bindM (Pu.toks s 0) (qaq (Pu.toks s 0) n) k1)with
 |error f'=>
  obtain⟨rfl,hb⟩:=hp.bad hA
  exact⟨rfl,RuleX.stop (uh E6) hA (fun a=>qaf (qap _ _) fun _=>qao _) ((uh K5).trans hb)⟩
 |ok r'=>
 obtain⟨b,k2⟩:=r'
 obtain⟨v2,rfl,hb,hS,hR⟩:=hp.ok hA
 have S7:=ai hS
 have K8:=ai ((uh K5).trans hb)
 have E9:=ai ((uh E6).trans (qae hA))
 have qw2:=(qal hA).1
 have zw2:=hb.size
 try simp at zw2
 obtain⟨ve,rfl,hV,hc1,hl1,hs1⟩:=hR
 have VB:=ai hV
 obtain⟨te,xe,rfl⟩:=hV.iface
 have HL1:=ai (And.intro hl1 hs1)
 clear hV hc1 hl1 hs1
 clear hp hb hS hA S4 K5 E6
 go_wp2_with fail
 have S10:=ai ((uh S7).bel (bw (.cells #[.bool (b.1==11),.int .i64 (b.2.1.frm:Int),.int .i64 (b.2.1.to:Int),.string b.2.1.text,.iface te (.agg xe)] 218)))
 have K11:=ai ((uh K8).below' (bw (.cells #[.bool (b.1==11),.int .i64 (b.2.1.frm:Int),.int .i64 (b.2.1.to:Int),.string b.2.1.text,.iface te (.agg xe)] 218)))
 clear S7 K8
 have B12:=ai (Bx.at w2 #[.bool (b.1==11),.int .i64 (b.2.1.frm:Int),.int .i64 (b.2.1.to:Int),.string b.2.1.text,.iface te (.agg xe)] 218 (w2.heap.size) (by simp))
 have V13:=ai ((uh VB).bel (bw (.cells #[.bool (b.1==11),.int .i64 (b.2.1.frm:Int),.int .i64 (b.2.1.to:Int),.string b.2.1.text,.iface te (.agg xe)] 218)))
 clear VB
 refine(qcg (uh S10) hs qeb (by decide)).mono ?_
 intro e w3 hp
 cases hA:fin (Pu.toks s 0) (qag (Pu.toks s 0) qeb k2)with
 |error f'=>
  obtain⟨rfl,hb⟩:=hp.bad hA
  exact⟨rfl,RuleX.stop (uh E9) hA (fun a=>qao _) ((uh K11).trans hb)⟩
 |ok r'=>
 obtain⟨_uw3,k3⟩:=r'
 obtain⟨vw3,rfl,hb,hS,hR⟩:=hp.ok hA
 have S14:=ai hS
 have K15:=ai ((uh K11).trans hb)
 have E16:=ai ((uh E9).trans (qae hA))
 have qw3:=(qal hA).1
 have zw3:=hb.size
 try simp at zw3
 have B17:=ai ((uh B12).ke' hb (by omega))
 clear B12
 have V18:=ai ((uh V13).ke hb (fun b p=>by show b≠rb;have p':w1.heap.size<=b:=p;omega))
 clear V13
 cases hR
 clear hp hb hS hA S10 K11 E9
 have ew3:=qah _ _ _ _ qw3
 go_wp2_with fail
 obtain⟨c19,f20,z21⟩:=uh B17
 go_wp2_with fail
 go_region_with(go_at_call 214;refine(qcr ((uh S14).bel (Below.refl _ _).drew) _).mono ?_;rintro e w5⟨rfl,hb⟩;have S22:=ai (((uh S14).bel (Below.refl _ _).drew).bel hb);have K23:=ai (((uh K15).below' (Below.refl _ _).drew).below' hb);have V24:=ai (((uh V18).bel (Below.refl _ _).drew).bel hb);have B25:=ai ((uh B17).drew'.below hb);obtain⟨c26,fc26,zc26⟩:=uh B25;clear hb)
 all_goals(
  go_wp2_with fail
  go_ret
  exact RuleX.done (uh E16) (uh K23) (uh S22) ⟨_,_,_,rfl,(uh HL1).1,(uh HL1).2,((uh V24).wide fun b p=>by have p':w1.heap.size<=b:=p;show w.heap.size<=b;omega)⟩)
theorem typeDecl_X(hs:s.size<=1000)(hT:(Pu.toks s 0).length<=1001)(h:SX w N rb sb m s k)(hn:(Pu.toks s 0).length<=k+1+n):
 Calls Tryz.prog 256 #[rp rb] w (RuleX PD N rb sb m s (typeM (Pu.toks s 0) (qbi (Pu.toks s 0) (smM s n)) k) w):=by
 obtain⟨i0,hi0,hz0,hz1,hz2⟩:=info_parts nameInfo
 have hmf:∀(fn:Fn)(first cap:Array Value)(w:World),(Instr.makeFunc fn first cap).run Tryz.prog w=.ok (.func fn first cap) w:=fun _ _ _ _=>rfl
 have hT0:0<(Pu.toks s 0).length:=by have:=h.lt;omega
 have hNw:=h.ev.hN
 have hf1:=qe6
 have hf2:=spn175
 have hnot:∀(x:Bool)(w:World),(Op.unary .not (.bool x)).run Tryz.prog w=.ok (.bool (!x)) w:=fun _ _=>rfl
 have hz:=h.z
 have S1:=ai h
 have K2:=ai (Ke.refl rb w)
 have E3:Hid (typeM (Pu.toks s 0) (qbi (Pu.toks s 0) (smM s n)) k=bnd (qag (Pu.toks s 0) qce) (fun _=>bnd (qa7 (Pu.toks s 0) 2) (fun t=>bnd (qdm (Pu.toks s 0) (Pu.toks s 0).length []) (fun vs=>bnd (qag (Pu.toks s 0) kEq) (fun _=>bnd (qbj (Pu.toks s 0) (qbi (Pu.toks s 0) (smM s n)) (Pu.toks s 0).length []) (fun ms=>bnd (qag (Pu.toks s 0) qeb) (fun _=>fun k=>.ok (Dc.ty t vs ms,k))))))) k):=ai rfl
 clear h
 go_enter Tryz.func256,Tryz.ntmps256
 go_wp2_with fail
 refine(qcg (uh S1) hs qce (by decide)).mono ?_
 intro e w1 hp
 cases hA:fin (Pu.toks s 0) (qag (Pu.toks s 0) qce k)with
 |error f'=>
  obtain⟨rfl,hb⟩:=hp.bad hA
  exact⟨rfl,RuleX.stop (uh E3) hA (fun a=>qaf (qfj _ _ (by decide)) fun _=>qaf (stall_vars _ _ _) fun _=>qaf (qap _ _) fun _=>qaf (qe1 hT0) fun _=>qaf (qap _ _) fun _=>qao _) ((uh K2).trans hb)⟩
 |ok r'=>
 obtain⟨_uw1,k1⟩:=r'
 obtain⟨vw1,rfl,hb,hS,hR⟩:=hp.ok hA
 have S4:=ai hS
 have K5:=ai ((uh K2).trans hb)
 have E6:=ai ((uh E3).trans (qae hA))
 have qw1:=(qal hA).1
 have zw1:=hb.size
 try simp at zw1
 cases hR
 clear hp hb hS hA S1 K2 E3
 have ew1:=qah _ _ _ _ qw1
 go_wp2_with fail
 have lw2:=(uh S4).lt
 refine(name_X (uh S4) hs 2 kUp (Or.inr ⟨rfl,rfl⟩)).mono ?_
 intro e w2 hp
 cases hA:fin (Pu.toks s 0) (qa7 (Pu.toks s 0) 2 k1)with
 |error f'=>
  obtain⟨rfl,hb⟩:=hp.bad hA
  exact⟨rfl,RuleX.stop (uh E6) hA (fun a=>qaf (stall_vars _ _ _) fun _=>qaf (qap _ _) fun _=>qaf (qe1 hT0) fun _=>qaf (qap _ _) fun _=>qao _) ((uh K5).trans hb)⟩
 |ok r'=>
 obtain⟨t,k2⟩:=r'
 obtain⟨vw2,rfl,hb,hS,hR⟩:=hp.ok hA
 have S7:=ai hS
 have K8:=ai ((uh K5).trans hb)
 have E9:=ai ((uh E6).trans (qae hA))
 have qw2:=(qal hA).1
 have zw2:=hb.size
 try simp at zw2
 cases hR
 clear hp hb hS hA S4 K5 E6
 have ew2:=qbk _ _ _ _ qw2
 have Ht:=ai (name2_in qw2 lw2)
 go_wp2_with fail
 have S10:=ai ((uh S7).bel (bw (.cells #[.int .i64 (t.frm:Int),.int .i64 (t.to:Int),.string t.text] 214)))
 have K11:=ai ((uh K8).below' (bw (.cells #[.int .i64 (t.frm:Int),.int .i64 (t.to:Int),.string t.text] 214)))
 clear S7 K8
 have B12:=ai (Bx.at w2 #[.int .i64 (t.frm:Int),.int .i64 (t.to:Int),.string t.text] 214 (w2.heap.size) (by simp))
 have hk2:=(uh S10).lt
 obtain⟨r,hr⟩:∃r,r=qdm (Pu.toks s 0) (Pu.toks s 0).length [] k2:=⟨_,rfl⟩
 have Hr:=ai hr
 clear hr
 go_loopg[5] ((Pu.toks s 0).length-k2) (fun gk v wr=>VarsRel N rb sb m s k2 w2.heap.size #[.int .i64 (t.frm:Int),.int .i64 (t.to:Int),.string t.text] w r gk v wr)
 case atStart=>exact⟨k2,[],(Pu.toks s 0).length,none,0,rfl,uh S10,uh K11,uh B12,ai rfl,br _,by simp,RowO.nil _ _ _ _ _,Hr,by omega⟩
 case round=>
  clear S10 K11 B12
  obtain⟨kr,V,f,va,vc,rfl,R,K,BN,hgk,hle,hVl,RW,hE,hfu⟩:=hrel
  have hkr:=R.lt
  have ho:=qdb s kr hkr
  have hin:=tk_in s kr hkr
  have hkv:=kind_var ho R.ok
  have zn:=BN.z
  obtain⟨c,ff,z⟩:=R.bx
  by_cases h3:(tk (Pu.toks s 0) kr).kind=3
  .have hkv':((qaj (tk (Pu.toks s 0) kr)).toList==[97,32,118,97,114,105,97,98,108,101])=true:=by rw[hkv];simp[h3]
   obtain⟨f,rfl⟩:∃f',f=f'+1:=⟨f-1,by omega⟩
   have hE2:Hid (r=qdm (Pu.toks s 0) f (V++[(tk (Pu.toks s 0) kr)]) (kr+1)):=ai ((uh hE).trans (by show(if(tk (Pu.toks s 0) kr).kind=3 then _ else _)=_;rw[if_pos h3]))
   have zw:=K.size
   have hrw:=RW.block
   have HC:=variableName_X R hs h3
   have Hin:=ai (And.intro (ho.v3 h3) hin.sp)
   clear hE hkv hin
   go_wp2_with fail
   refine HC.mono ?_
   intro e w1' hp
   by_cases h6:(tk (Pu.toks s 0) (kr+1)).kind=6
   .obtain⟨rfl,hb'⟩:=hp.bad (qa0 _ h6)
    refine⟨rfl,RuleX.fail (K.trans hb') ?_⟩
    rw[uh E9]
    refine qax ?_ (fun a=>qaf (qap _ _) fun _=>qaf (qe1 hT0) fun _=>qaf (qap _ _) fun _=>qao _)
    rw[<-uh Hr,uh hE2]
    exact stall_vars _ _ _ _ h6
   obtain⟨v1,rfl,hb1,S1,hR⟩:=hp.ok (fin_ok' _ h6)
   cases hR
   have z1:=hb1.size
   have RW1:=RW.ke qck hb1 (by omega)
   have hob:=RW1.block
   obtain⟨cs,hown,hPP⟩:=RW1
   have HO:=ai hown
   have HPP:=ai hPP
   have HP1:Hid (QName w1' (fun b=>wr.heap.size<=b) (tk (Pu.toks s 0) kr) (fun j=>([.int .i64 ((tk (Pu.toks s 0) kr).frm:Int),.int .i64 ((tk (Pu.toks s 0) kr).to:Int),.string ((tk (Pu.toks s 0) kr).text.extract 1 (tk (Pu.toks s 0) kr).text.size)]:List Value).getD j .nilIface)):=ai ⟨rfl,rfl,rfl,(uh Hin).1,(uh Hin).2⟩
   have HS1:=ai S1
   have HK1:=ai (K.trans hb1)
   have HBN:=ai (BN.ke' hb1 (by omega))
   clear hp HC hown hPP S1 hb1 R K BN RW c ff z hkv'
   go_wp2_with(at_builtin;go_must(refine wpList_append_own_at _ rfl (.tmp 19) (.tmp 22) 247 rfl (w2.heap.size+1) 214 i0 _ 3 32 namesUnder hi0 hz0 hz1 hz2 rfl (by decide) (.slice va V.length vc) V.length _ rfl ((uh HO).alloc _) ⟨w1'.heap.size,0,none⟩ 1 1 [.int .i64 ((tk (Pu.toks s 0) kr).frm:Int),.int .i64 ((tk (Pu.toks s 0) kr).to:Int),.string ((tk (Pu.toks s 0) kr).text.extract 1 (tk (Pu.toks s 0) kr).text.size)] rfl rfl (qbw _ _ _ _ (by simp)) (by intro u hu;simp at hu;rcases hu with rfl|rfl|rfl<;>rfl) (by unfold maxLen;omega) (by omega) (by simp;omega) ?_;intro v3 w3 hown3 hg3 hnil3 hloc3;have Hown3:=ai hown3;have Hg3:=ai hg3;have Hloc3:=ai hloc3;clear hown3 hg3 hnil3 hloc3))
   obtain⟨q3,c3,rfl⟩:=qb6 (uh Hown3) (by omega)
   go_roundg((Pu.toks s 0).length-(kr+1))
   case measure=>rw[uh hgk];omega
   case rel=>
    have hlen:(V++[(tk (Pu.toks s 0) kr)]).length=V.length+1:=by simp
    have hbw:Below w1'.heap.size w1' (w1'.alloc (.cells #[.int .i64 ((tk (Pu.toks s 0) kr).frm:Int),.int .i64 ((tk (Pu.toks s 0) kr).to:Int),.string ((tk (Pu.toks s 0) kr).text.extract 1 (tk (Pu.toks s 0) kr).text.size)] 214)):=bw _
    refine⟨kr+1,V++[(tk (Pu.toks s 0) kr)],f,some ⟨q3,0,none⟩,c3,by rw[hlen],((uh HS1).bel hbw).grown (uh Hg3) (fun j e=>by have:=hob j e;omega),?_,?_,ai rfl,by omega,by rw[hlen];omega,?_,hE2,by omega⟩
    .exact Ke.grown (uh Hg3) ((uh HK1).below' hbw) (fun j e=>by have:=(hob j e).1;omega)
    .exact Bx.grown (uh Hg3) ((uh HBN).below hbw) (fun j e=>by have:=(hob j e).1;omega)
    .exact RowO.push (w1:=w1') (lo:=wr.heap.size) (c:=fun j=>([.int .i64 ((tk (Pu.toks s 0) kr).frm:Int),.int .i64 ((tk (Pu.toks s 0) kr).to:Int),.string ((tk (Pu.toks s 0) kr).text.extract 1 (tk (Pu.toks s 0) kr).text.size)]:List Value).getD j .nilIface) qck (uh HPP) (uh HP1) (by omega) (fun b e=>(hrw b e).2) hbw (uh Hown3) (uh Hg3) (uh Hloc3)
  .have hkv':((qaj (tk (Pu.toks s 0) kr)).toList==[97,32,118,97,114,105,97,98,108,101])=false:=by rw[hkv];simp[h3]
   have EV:Hid (qdm (Pu.toks s 0) (Pu.toks s 0).length [] k2=.ok (V,kr)):=ai (by rw[<-uh Hr,uh hE];cases f with|zero=>rfl|succ f=>(show(if(tk (Pu.toks s 0) kr).kind=3 then _ else _)=_;rw[if_neg h3]))
   have EX0:=ai ((uh E9).trans (qcd (uh EV)))
   have SX0:=ai R
   have KX0:=ai K
   have BX0:=ai BN
   have RX0:=ai (RW.v qck)
   have zw:=K.size
   clear hE hkv hin RW R K BN
   go_wp2_with fail
   clear c ff z
   refine(qcg (uh SX0) hs kEq (by decide)).mono ?_
   intro e w3 hp
   cases hA:fin (Pu.toks s 0) (qag (Pu.toks s 0) kEq kr)with
   |error f'=>
    obtain⟨rfl,hb⟩:=hp.bad hA
    exact⟨rfl,RuleX.stop (uh EX0) hA (fun a=>qaf (qe1 hT0) fun _=>qaf (qap _ _) fun _=>qao _) ((uh KX0).trans hb)⟩
   |ok r'=>
   obtain⟨_uw3,k3⟩:=r'
   obtain⟨vw3,rfl,hb,hS,hR⟩:=hp.ok hA
   have S701:=ai hS
   have K702:=ai ((uh KX0).trans hb)
   have E703:=ai ((uh EX0).trans (qae hA))
   have qw3:=(qal hA).1
   have zw3:=hb.size
   try simp at zw3
   have B704:=ai ((uh BX0).ke' hb (by omega))
   clear BX0
   have RX1:=ai ((uh RX0).move qck hb.size (fun b p z=>hb.block b z (by have p':w2.heap.size+1<=b:=p;omega)) (fun _ p _=>p))
   cases hR
   clear hp hb hS hA SX0 KX0 EX0
   have ew3:=qah _ _ _ _ qw3
   go_wp2_with fail
   refine(barredMaker_X (n:=n) hs hT (uh S701) (by omega)).mono ?_
   intro e w4 hp
   cases hA:fin (Pu.toks s 0) (qbj (Pu.toks s 0) (qbi (Pu.toks s 0) (smM s n)) (Pu.toks s 0).length [] k3)with
   |error f'=>
    obtain⟨rfl,hb⟩:=hp.bad hA
    exact⟨rfl,RuleX.stop (uh E703) hA (fun a=>qaf (qap _ _) fun _=>qao _) ((uh K702).trans hb)⟩
   |ok r'=>
   obtain⟨ms,k4⟩:=r'
   obtain⟨v4,rfl,hb,hS,hR⟩:=hp.ok hA
   have S705:=ai hS
   have K706:=ai ((uh K702).trans hb)
   have E707:=ai ((uh E703).trans (qae hA))
   have qw4:=(qal hA).1
   have zw4:=hb.size
   try simp at zw4
   have B708:=ai ((uh B704).ke' hb (by omega))
   clear B704
   have RX2:=ai ((uh RX1).move qck hb.size (fun b p z=>hb.block b z (by have p':w2.heap.size+1<=b:=p;omega)) (fun _ p _=>p))
   obtain⟨hm0,hRV⟩:=hR
   have HM0:=ai hm0
   have MV0:=ai hRV
   obtain⟨va4,vc4,cs4,rfl,_,_⟩:=hRV
   clear hm0
   clear hp hb hS hA S701 K702 E703
   have ew4:=makers_mono (T:=(Pu.toks s 0)) (maker_lts (qaw (qa2 n) (qa2 n) 1)) _ _ _ _ _ qw4
   go_wp2_with fail
   refine(qcg (uh S705) hs qeb (by decide)).mono ?_
   intro e w5 hp
   cases hA:fin (Pu.toks s 0) (qag (Pu.toks s 0) qeb k4)with
   |error f'=>
    obtain⟨rfl,hb⟩:=hp.bad hA
    exact⟨rfl,RuleX.stop (uh E707) hA (fun a=>qao _) ((uh K706).trans hb)⟩
   |ok r'=>
   obtain⟨_uw5,k5⟩:=r'
   obtain⟨vw5,rfl,hb,hS,hR⟩:=hp.ok hA
   have S709:=ai hS
   have K710:=ai ((uh K706).trans hb)
   have E711:=ai ((uh E707).trans (qae hA))
   have qw5:=(qal hA).1
   have zw5:=hb.size
   try simp at zw5
   have B712:=ai ((uh B708).ke' hb (by omega))
   clear B708
   have RX3:=ai ((uh RX2).move qck hb.size (fun b p z=>hb.block b z (by have p':w2.heap.size+1<=b:=p;omega)) (fun _ p _=>p))
   have MV1:=ai ((uh MV0).move qca hb.size (fun b p z=>hb.block b z (by have p':w3.heap.size<=b:=p;omega)) (fun _ p _=>p))
   cases hR
   clear hp hb hS hA S705 K706 E707
   have ew5:=qah _ _ _ _ qw5
   go_wp2_with fail
   obtain⟨c713,f714,z715⟩:=uh B712
   go_region_with(go_at_call 214;refine(qcr ((uh S709).bel (Below.refl _ _).drew) _).mono ?_;rintro e w6⟨rfl,hb⟩;have S6:=ai (((uh S709).bel (Below.refl _ _).drew).bel hb);have K6:=ai (((uh K710).below' (Below.refl _ _).drew).below' hb);have N6:=ai ((uh B712).drew'.below hb);have RX6:=ai ((uh RX3).move qck hb.size (fun b _ z=>hb.block b z) (fun _ p _=>p));have MV6:=ai ((uh MV1).move qca hb.size (fun b _ z=>hb.block b z) (fun _ p _=>p));obtain⟨c6,f6,y6⟩:=uh N6;clear hb)
   all_goals(
    go_wp2_with fail
    go_ret
    exact RuleX.done (uh E711) (uh K6) (uh S6) ⟨_,_,_,_,rfl,(uh Ht).1,(uh Ht).2,(uh RX6).move qck (br _) (fun _ _ _=>rfl) (fun b p _=>by have p':w2.heap.size+1<=b:=p;show w.heap.size<=b;omega),uh HM0,(uh MV6).move qca (br _) (fun _ _ _=>rfl) (fun b p _=>by have p':w3.heap.size<=b:=p;show w.heap.size<=b;omega)⟩)
end
end
section
open Go Go.RowKit Go.ChangeMaps
theorem decls_go{T:List Pu.Tok}{d:M Dc}{f:Nat}{l:List Dc}{k:Nat}(h:isT (tk T k) qce=true\/isT (tk T k) kLet=true):qbr T d (f+1) l k=bnd d (fun x=>qbr T d f (l++[x])) k:=by
 show(if isT (tk T k) qce=true\/isT (tk T k) kLet=true then _ else _)=_
 rw[if_pos h]
theorem decls_end{T:List Pu.Tok}{d:M Dc}{f:Nat}{l:List Dc}{k:Nat}(h:isT (tk T k) qce=false)(h':isT (tk T k) kLet=false):qbr T d f l k=.ok (l,k):=by
 cases f with
 |zero=>rfl|succ f=>unfold qbr;rw[h,h'];rfl
theorem stall_decls(T:List Pu.Tok)(d:M Dc):∀f l,qbm T (qbr T d f l)
 |0,l=>fun k h=>qa0 _ h|f+1,l=>fun k h=>by unfold qbr;rw[qd9 h,qd9 h,if_neg (by simp)];exact qa0 _ h
theorem type_lts{T:List Pu.Tok}{mk:M Nd}(hm:Lts mk):Lts (typeM T mk):=fun k a k' h=>by
 unfold typeM at h
 obtain⟨_,k1,h1,h2⟩:=qad h
 obtain⟨_,k2,h3,h4⟩:=qad h2
 obtain⟨_,k3,h5,h6⟩:=qad h4
 obtain⟨_,k4,h7,h8⟩:=qad h6
 obtain⟨_,k5,h9,h10⟩:=qad h8
 obtain⟨_,k6,h11,h12⟩:=qad h10
 cases h12
 have:=qah _ _ _ _ h1
 have:=qbk _ _ _ _ h3
 have:=varsF_mono _ _ _ _ _ _ h5
 have:=qah _ _ _ _ h7
 have:=makers_mono hm _ _ _ _ _ h9
 have:=qah _ _ _ _ h11
 omega
theorem letD_lts{T:List Pu.Tok}{e:M Nd}(hm:Lts e):Lts (letDM T e):=fun k a k' h=>by
 unfold letDM at h
 obtain⟨_,k1,h1,h2⟩:=qad h
 obtain⟨_,k2,h3,h4⟩:=qad h2
 cases h4
 have:=bound_lts hm _ _ _ h1
 have:=qah _ _ _ _ h3
 omega
theorem decl_lts(T:List Pu.Tok)(n:Nat):Lts (qdz T n):=fun k a k' h=>by
 unfold qdz at h
 split at h
 .exact type_lts (maker_lts (qaw (qa2 n) (qa2 n) 1)) _ _ _ h
 .exact letD_lts (qci n) _ _ _ h
def QD:EQ Dc:=fun w P d c=>PD w P d (c 0)
theorem qb9:Moves QD:=fun _ _ _ _ _ _ h h1 h2 h3=>PD.move h h1 h2 h3
theorem declInfo:(Tryz.prog.info? 129).map (fun i=>(i.zero,i.size,i.bytes))=some (some .nilIface,1,16):=by kernel_rfl
theorem declsUnder:Tryz.prog.underlying 47=some (.slice 129):=by kernel_rfl
theorem zeroFnD(w:World):(zeroValue 364).run Tryz.prog w=.ok .nilFunc w:=by kernel_rfl
def DeclsR(w:World)(P:Nat->Prop)(l:List Dc)(v:Value):Prop:=RowV QD 1 w P l v
def DeclsRel(N rb sb:Nat)(m:MV)(s:BA)(n k:Nat)(w:World)(r:Except Fl (List Dc×Nat))(gk:Nat)(v:Value)(wr:World):Prop:=
 ∃(kr:Nat)(L:List Dc)(f:Nat)(va:Option Addr)(vc:Nat),
  v=.slice va L.length vc/\SX wr N rb sb m s kr/\Ke rb w wr/\Hid (gk=(Pu.toks s 0).length-kr)/\k<=kr/\L.length<=kr/\
  RowO QD 129 1 wr w.heap.size va vc L/\Hid (r=qbr (Pu.toks s 0) (qdz (Pu.toks s 0) n) f L kr)/\(Pu.toks s 0).length<=kr+f
section
variable {w:World} {N rb sb:Nat} {m:MV} {s:BA} {k n:Nat}
theorem SX.decl(h:SX w N rb sb m s k){b:Nat}(hb:m.a=.map (some b)):MS Value.string w b (declL rb):=by
 obtain⟨b',e,_,_,hM⟩:=h.ev.mp.d
 rw[hb]at e
 cases e
 exact hM
theorem SX.ma(h:SX w N rb sb m s k):∃b,m.a=.map (some b):=by
 obtain⟨b',e,_,_,hM⟩:=h.ev.mp.d
 exact⟨b',e⟩
theorem got_decl{t:Pu.Tok}(ho:qd5 t)(h6:t.kind≠6)(n0:isT t qce=false)(n1:isT t kLet=false):got (qaj t) (declL rb)=none:=by
 rcases ho.kd with h'|h'|h'|h'|h'|h'|h'
 .rw[qc7 h'];rfl
 .rw[qc0 h'];rfl
 .rw[qc1 h'];rfl
 .rw[qc8 h'];rfl
 .rw[qdi h']
  refine got_no fun p hp=>?_
  simp only[declL,List.mem_cons,List.not_mem_nil,or_false]at hp
  rcases hp with rfl|rfl
  .exact qd0 h' n0
  .exact qd0 h' n1
 .exact absurd h' h6
 .rw[qc9 h'];rfl
theorem manyDecl_X(hs:s.size<=1000)(hT:(Pu.toks s 0).length<=1001)(h:SX w N rb sb m s k)(hn:(Pu.toks s 0).length<=k+1+n){b:Nat}(hmd:m.a=.map (some b)):
 Calls Tryz.prog 109 #[rp rb,.map (some b)] w (RuleX DeclsR N rb sb m s (qbr (Pu.toks s 0) (qdz (Pu.toks s 0) n) (Pu.toks s 0).length [] k) w):=by
 obtain⟨i0,hi0,hz0,hz1,hz2⟩:=info_parts declInfo
 have hnot:∀(x:Bool)(w:World),(Op.unary .not (.bool x)).run Tryz.prog w=.ok (.bool (!x)) w:=fun _ _=>rfl
 have hzr:=h.z
 have hNw:=h.ev.hN
 obtain⟨r,hr⟩:∃r,r=qbr (Pu.toks s 0) (qdz (Pu.toks s 0) n) (Pu.toks s 0).length [] k:=⟨_,rfl⟩
 rw[<-hr]
 have hk:=h.lt
 have HR:=ai h
 have Hr:=ai hr
 have Hmd:=ai hmd
 clear h hr hmd
 go_enter Tryz.func109,Tryz.ntmps109
 go_wp2_with fail
 go_loopg[5] ((Pu.toks s 0).length-k) (fun gk v wr=>DeclsRel N rb sb m s n k w r gk v wr)
 case atStart=>exact⟨k,[],(Pu.toks s 0).length,none,0,rfl,uh HR,Ke.refl _ _,ai rfl,br _,by simp,RowO.nil _ _ _ _ _,Hr,by omega⟩
 case round=>
  clear HR Hr
  obtain⟨kr,L,f,va,vc,rfl,R,K,hgk,hle,hLl,RW,hE,hfu⟩:=hrel
  have hM:=R.decl (uh Hmd)
  have hl:=qc4 hM Tryz.underlying239 (zeroFnD wr) (qaj (tk (Pu.toks s 0) kr))
  have hkr:=R.lt
  have ho:=qdb s kr hkr
  obtain⟨c,ff,z⟩:=R.bx
  by_cases hb:isT (tk (Pu.toks s 0) kr) qce=true
  .have hcf:∀args w,(callFunc 256 args).run Tryz.prog w=.ok (.enter 256 args) w:=fun _ _=>by kernel_rfl
   obtain⟨f,rfl⟩:∃f',f=f'+1:=⟨f-1,by omega⟩
   have hE2:=ai ((uh hE).trans (decls_go (Or.inl hb)))
   have hg:got (qaj (tk (Pu.toks s 0) kr)) (declL rb)=some (mth 256 rb):=by rw[qco hb];rfl
   have HC:Calls Tryz.prog 256 #[rp rb] wr (RuleX PD N rb sb m s ((qdz (Pu.toks s 0) n) kr) wr):=by
    rw[show(qdz (Pu.toks s 0) n) kr=_ from if_pos hb]
    exact typeDecl_X hs hT R (by omega)
   rw[hg]at hl
   simp only[qc2]at hl
   clear hE hg
   go_wp2_with fail
   refine HC.mono ?_
   intro e w1 hp
   cases hA:fin (Pu.toks s 0) ((qdz (Pu.toks s 0) n) kr)with
   |error f'=>
    obtain⟨rfl,hb'⟩:=hp.bad hA
    exact⟨rfl,RuleX.stop (uh hE2) hA (fun a=>stall_decls _ _ _ _) (K.trans hb')⟩
   |ok rr=>
   obtain⟨a,k2⟩:=rr
   obtain⟨v,rfl,hb1,S1,P1⟩:=hp.ok hA
   obtain⟨tv,xv,rfl⟩:=P1.iface
   have hlt:=decl_lts _ _ _ _ _ (qal hA).1
   have HE3:=ai ((uh hE2).trans (qae hA))
   have z1:=hb1.size
   have zw:=K.size
   have hrw:=RW.block
   have RW1:=RW.ke qb9 hb1 hzr
   have hob:=RW1.block
   obtain⟨cs,hown,hPP⟩:=RW1
   have HO:=ai hown
   have HPP:=ai hPP
   have HP1:=ai P1
   have HS1:=ai S1
   have HK1:=ai (K.trans hb1)
   clear hp hA HC hE2 hown hPP P1 S1 hb1 RW R K c ff z hl hM
   go_wp2_with(at_builtin;go_must(refine wpList_append_own_at _ rfl (.tmp 21) (.tmp 24) 47 rfl w.heap.size 129 i0 _ 1 16 declsUnder hi0 hz0 hz1 hz2 rfl (by decide) (.slice va L.length vc) L.length _ rfl ((uh HO).alloc _) ⟨w1.heap.size,0,none⟩ 1 1 [.iface tv (.agg xv)] rfl rfl (qbw _ _ _ _ (by simp)) (by intro u hu;simp at hu;subst hu;rfl) (by unfold maxLen;omega) (by omega) (by simp;omega) ?_;intro v3 w3 hown3 hg3 hnil3 hloc3;have Hown3:=ai hown3;have Hg3:=ai hg3;have Hloc3:=ai hloc3;clear hown3 hg3 hnil3 hloc3))
   obtain⟨q3,c3,rfl⟩:=qb6 (uh Hown3) (by omega)
   go_roundg((Pu.toks s 0).length-k2)
   case measure=>rw[uh hgk];omega
   case rel=>
    have hlen:(L++[a]).length=L.length+1:=by simp
    have hbw:Below w1.heap.size w1 (w1.alloc (.cells #[.iface tv (.agg xv)] 129)):=bw _
    refine⟨k2,L++[a],f,some ⟨q3,0,none⟩,c3,by rw[hlen],((uh HS1).bel hbw).grown (uh Hg3) (fun j e=>by have:=hob j e;omega),?_,ai rfl,by omega,by rw[hlen];omega,?_,HE3,by omega⟩
    .exact Ke.grown (uh Hg3) ((uh HK1).below' hbw) (fun j e=>(hob j e).1)
    .exact RowO.push (w1:=w1) (lo:=wr.heap.size) (c:=fun _=>.iface tv (.agg xv)) qb9 (uh HPP) (uh HP1) (by omega) (fun b e=>(hrw b e).2) hbw (uh Hown3) (uh Hg3) (uh Hloc3)
  have n0:isT (tk (Pu.toks s 0) kr) qce=false:=by simpa using hb
  clear hb
  by_cases hb:isT (tk (Pu.toks s 0) kr) kLet=true
  .have hcf:∀args w,(callFunc 257 args).run Tryz.prog w=.ok (.enter 257 args) w:=fun _ _=>by kernel_rfl
   obtain⟨f,rfl⟩:∃f',f=f'+1:=⟨f-1,by omega⟩
   have hE2:=ai ((uh hE).trans (decls_go (Or.inr hb)))
   have hg:got (qaj (tk (Pu.toks s 0) kr)) (declL rb)=some (mth 257 rb):=by rw[qco hb];rfl
   have HC:Calls Tryz.prog 257 #[rp rb] wr (RuleX PD N rb sb m s ((qdz (Pu.toks s 0) n) kr) wr):=by
    rw[show(qdz (Pu.toks s 0) n) kr=_ from if_neg (by simp[n0])]
    exact letDecl_X hs (expr_X hs hT n) R (by omega)
   rw[hg]at hl
   simp only[qc2]at hl
   clear hE hg
   go_wp2_with fail
   refine HC.mono ?_
   intro e w1 hp
   cases hA:fin (Pu.toks s 0) ((qdz (Pu.toks s 0) n) kr)with
   |error f'=>
    obtain⟨rfl,hb'⟩:=hp.bad hA
    exact⟨rfl,RuleX.stop (uh hE2) hA (fun a=>stall_decls _ _ _ _) (K.trans hb')⟩
   |ok rr=>
   obtain⟨a,k2⟩:=rr
   obtain⟨v,rfl,hb1,S1,P1⟩:=hp.ok hA
   obtain⟨tv,xv,rfl⟩:=P1.iface
   have hlt:=decl_lts _ _ _ _ _ (qal hA).1
   have HE3:=ai ((uh hE2).trans (qae hA))
   have z1:=hb1.size
   have zw:=K.size
   have hrw:=RW.block
   have RW1:=RW.ke qb9 hb1 hzr
   have hob:=RW1.block
   obtain⟨cs,hown,hPP⟩:=RW1
   have HO:=ai hown
   have HPP:=ai hPP
   have HP1:=ai P1
   have HS1:=ai S1
   have HK1:=ai (K.trans hb1)
   clear hp hA HC hE2 hown hPP P1 S1 hb1 RW R K c ff z hl hM
   go_wp2_with(at_builtin;go_must(refine wpList_append_own_at _ rfl (.tmp 21) (.tmp 24) 47 rfl w.heap.size 129 i0 _ 1 16 declsUnder hi0 hz0 hz1 hz2 rfl (by decide) (.slice va L.length vc) L.length _ rfl ((uh HO).alloc _) ⟨w1.heap.size,0,none⟩ 1 1 [.iface tv (.agg xv)] rfl rfl (qbw _ _ _ _ (by simp)) (by intro u hu;simp at hu;subst hu;rfl) (by unfold maxLen;omega) (by omega) (by simp;omega) ?_;intro v3 w3 hown3 hg3 hnil3 hloc3;have Hown3:=ai hown3;have Hg3:=ai hg3;have Hloc3:=ai hloc3;clear hown3 hg3 hnil3 hloc3))
   obtain⟨q3,c3,rfl⟩:=qb6 (uh Hown3) (by omega)
   go_roundg((Pu.toks s 0).length-k2)
   case measure=>rw[uh hgk];omega
   case rel=>
    have hlen:(L++[a]).length=L.length+1:=by simp
    have hbw:Below w1.heap.size w1 (w1.alloc (.cells #[.iface tv (.agg xv)] 129)):=bw _
    refine⟨k2,L++[a],f,some ⟨q3,0,none⟩,c3,by rw[hlen],((uh HS1).bel hbw).grown (uh Hg3) (fun j e=>by have:=hob j e;omega),?_,ai rfl,by omega,by rw[hlen];omega,?_,HE3,by omega⟩
    .exact Ke.grown (uh Hg3) ((uh HK1).below' hbw) (fun j e=>(hob j e).1)
    .exact RowO.push (w1:=w1) (lo:=wr.heap.size) (c:=fun _=>.iface tv (.agg xv)) qb9 (uh HPP) (uh HP1) (by omega) (fun b e=>(hrw b e).2) hbw (uh Hown3) (uh Hg3) (uh Hloc3)
  have n1:isT (tk (Pu.toks s 0) kr) kLet=false:=by simpa using hb
  rw[got_decl (rb:=rb) ho R.ok n0 n1]at hl
  simp only[qc2]at hl
  have hE2:=ai ((uh hE).trans (decls_end n0 n1))
  go_wp2_with fail
  go_ret
  exact RuleX.done (uh hE2) K R (RW.v qb9)
def ProgR(w:World)(P:Nat->Prop)(l:List Dc)(v:Value):Prop:=∃u,v=.agg #[u]/\RowV QD 1 w P l u
theorem program_X(hs:s.size<=1000)(hT:(Pu.toks s 0).length<=1001)(h:SX w N rb sb m s k)(hn:(Pu.toks s 0).length<=k+1+n):
 Calls Tryz.prog 50 #[rp rb] w (RuleX ProgR N rb sb m s (qbr (Pu.toks s 0) (qdz (Pu.toks s 0) n) (Pu.toks s 0).length [] k) w):=by
 obtain⟨b,hma⟩:=h.ma
 have hz:=h.z
 have hNw:=h.ev.hN
 have b0:Below w.heap.size w (w.alloc (.cells #[.slice none 0 0] 49)):=bw _
 have B0:=ai (Bx.new w #[.slice none 0 0] 49)
 have HC:=manyDecl_X (n:=n) hs hT (h.bel b0) hn hma
 obtain⟨c,f,z⟩:=(h.bel b0).bx
 clear h
 go_enter Tryz.func50,Tryz.ntmps50
 go_wp2_with fail
 refine HC.mono ?_
 intro e w1 hp
 cases hA:fin (Pu.toks s 0) (qbr (Pu.toks s 0) (qdz (Pu.toks s 0) n) (Pu.toks s 0).length [] k)with
 |error f=>
  obtain⟨rfl,hb⟩:=hp.bad hA
  exact⟨rfl,RuleX.fail ((Ke.of b0).trans hb) hA⟩
 |ok rr=>
 obtain⟨l,k1⟩:=rr
 obtain⟨v,rfl,hb,hS,hR⟩:=hp.ok hA
 have RV:Hid (RowV QD 1 w1 (fun b=>w.heap.size+1<=b) l v):=ai (RowV.move hR qb9 (br _) (fun _ _ _=>rfl) (fun b p _=>by simpa using p))
 obtain⟨va,vc,cs,rfl,_,_⟩:=hR
 have B1:=ai ((uh B0).ke' hb (by omega))
 have K1:=ai ((Ke.of b0).trans hb)
 have S1:=ai hS
 have HE:=ai (qal hA).1
 clear hp hb hS HC hA c f z
 obtain⟨c,f,z⟩:=uh B1
 go_wp2_with fail
 obtain⟨cF,fF,zF⟩:=(uh B1).setS' 0 (.slice va l.length vc) #[.slice va l.length vc] rfl (by simp)
 exact bodyPost_ret (v:=.agg #[.slice va l.length vc]) (by simp[results,Tryz.results50,go_sem,cF]) rfl (RuleX.done (uh HE) ((uh K1).setNew (b:=w.heap.size) (br _) 0 _) ((uh S1).set (b:=w.heap.size) hNw 0 _) ⟨_,rfl,((uh RV).setC qb9 (b:=w.heap.size) (fun c p=>by have p':w.heap.size+1<=c:=p;omega) 0 _).move qb9 (br _) (fun _ _ _=>rfl) (fun b p _=>by have p':w.heap.size+1<=b:=p;show w.heap.size<=b;omega)⟩)
end
end
end Go.Proofs.YtoceemjbcgmojaaGreatDoor

import Derived.Test.YtoceemjbcgmojaaGreatDoorVXu
set_option linter.all false
set_option maxRecDepth 100000
set_option maxHeartbeats 2000000
namespace Go.Proofs.YtoceemjbcgmojaaGreatDoor
section
open Go Go.RowKit Go.ChangeMaps
theorem stall_vars (T:List Pu.Tok):∀f l,qbl T (qc3 T f l)
 |0,l=>fun k h=>qaz _ h
 |f+1,l=>fun k h=>by unfold qc3;rw [if_neg (by omega)];exact qaz _ h
theorem varsF_mono (T:List Pu.Tok):∀f l k a k',qc3 T f l k=.ok (a,k')→k≤k'
 |0,l,k,a,k',h=>by cases h;omega
 |f+1,l,k,a,k',h=>by
  unfold qc3 at h
  split at h
  ·have:=varsF_mono T f _ _ _ _ h;omega
  ·cases h;omega
theorem qee {T:List Pu.Tok} (hT:0<T.length) {sm:M Nd}:qbl T (qbf T (qa9 T sm) T.length []):=by
 obtain ⟨L,hL⟩:∃L,T.length=L+1:=⟨T.length-1,by omega⟩
 rw [hL]
 intro k h
 rw [qes]
 exact qax (stall_maker _ _ k h) fun _=>qef _ _ _ _
theorem makers_mono {T:List Pu.Tok} {mk:M Nd} (hm:Lts mk):∀f l k a k',qbf T mk f l k=.ok (a,k')→k≤k'
 |0,l,k,a,k',h=>by cases h;omega
 |f+1,l,k,a,k',h=>by
  rw [qes] at h
  obtain ⟨_,k1,h1,h2⟩:=qac h
  have:=hm _ _ _ h1
  unfold qd4 at h2
  split at h2
  ·have:=makers_mono hm f _ _ _ _ h2;omega
  ·cases h2;omega
def QName:EQ Pu.Tok:=fun _ _ t c=>c 0=.int .i64 (t.frm:Int)∧c 1=.int .i64 (t.to:Int)∧c 2=.string (t.text.extract 1 t.text.size)∧(∃r,t.text.toList=39::r)∧t.to=t.frm+t.text.size
theorem qb8:Moves QName:=fun _ _ _ _ _ _ h _ _ _=>h
theorem nameInfo:(Tryz.prog.info? 214).map (fun i=>(i.zero,i.size,i.bytes))=some (some (.agg #[.int .i64 0,.int .i64 0,.string ⟨#[]⟩]),3,32):=by kernel_rfl
theorem namesUnder:Tryz.prog.underlying 247=some (.slice 214):=by kernel_rfl
def PD (w:World) (P:Nat→Prop):Dc→Value→Prop
 |.ty t vs ms,v=>∃(f u:Int) (vv vm:Value),v=.iface 250 (.agg #[.int .i64 f,.int .i64 u,.int .i64 (t.frm:Int),.int .i64 (t.to:Int),.string t.text,vv,vm])∧UpN t.text∧t.to=t.frm+t.text.size∧RowV QName 3 w P vs vv∧ms≠[]∧RowV QMaker 6 w P ms vm
 |.lt r t b,v=>∃(f u:Int) (vb:Value),v=.iface 220 (.agg #[.int .i64 f,.int .i64 u,.bool r,.int .i64 (t.frm:Int),.int .i64 (t.to:Int),.string t.text,vb])∧LowN t.text∧t.to=t.frm+t.text.size∧PE w P b vb
theorem PD.move {w w':World} {P Q:Nat→Prop} {d:Dc} {v:Value} (h:PD w P d v) (hs:w.heap.size≤w'.heap.size) (hb:∀b,P b→b<w.heap.size→w'.heap[b]? =w.heap[b]?) (hq:∀b,P b→b<w.heap.size→Q b):PD w' Q d v:=by
 cases d with
 |ty t vs ms=>
  obtain ⟨f,u,vv,vm,h1,h2,h3,h4,h5,h6⟩:=h
  exact ⟨f,u,vv,vm,h1,h2,h3,h4.move qb8 hs hb hq,h5,h6.move qbx hs hb hq⟩
 |lt r t b=>
  obtain ⟨f,u,vb,h1,h2,h3,h4⟩:=h
  exact ⟨f,u,vb,h1,h2,h3,h4.move hs hb hq⟩
theorem PD.iface {w:World} {P:Nat→Prop} {d:Dc} {v:Value} (h:PD w P d v):∃t x,v=.iface t (.agg x):=by
 cases d with
 |ty t vs ms=>obtain ⟨f,u,vv,vm,h1,_⟩:=h;exact ⟨_,_,h1⟩
 |lt r t b=>obtain ⟨f,u,vb,h1,_⟩:=h;exact ⟨_,_,h1⟩
def VarsRel (N rb sb:Nat) (m:MV) (s:BA) (k2 nb:Nat) (NC:Array Value) (w:World) (r:Except Fl (List Pu.Tok×Nat)) (gk:Nat) (v:Value) (wr:World):Prop:=
 ∃(kr:Nat) (V:List Pu.Tok) (f:Nat) (va:Option Addr) (vc:Nat),v=.slice va V.length vc∧SX wr N rb sb m s kr∧Ke rb w wr∧Bx wr nb NC∧Hid (gk=(Pu.toks s 0).length-kr)∧k2≤kr∧V.length≤kr∧RowO QName 214 3 wr (nb+1) va vc V∧Hid (r=qc3 (Pu.toks s 0) f V kr)∧(Pu.toks s 0).length≤kr+f
section
variable {w:World} {N rb sb:Nat} {m:MV} {s:BA} {k n:Nat}
theorem kind_var {t:Pu.Tok} (h:qdq t) (hk:t.kind≠6):((qak t).toList==[97,32,118,97,114,105,97,98,108,101])=(t.kind==3):=by
 obtain h'|h'|h'|h'|h'|h'|h':=h.kd
 ·rw [qcy h'];simp [h',ByteArray.toList_eq]
 ·rw [qcs h'];simp [h',ByteArray.toList_eq]
 ·rw [qct h'];simp [h',ByteArray.toList_eq]
 ·rw [qcz h'];simp [h',ByteArray.toList_eq]
 ·have:=qer h hk (kd:=kVar) (by decide) h'
  rw [show kVar.toList=[97,32,118,97,114,105,97,98,108,101] from qbz _] at this
  rw [this];simp [h']
 ·exact absurd h' hk
 ·rw [qc0 h'];simp [h',ByteArray.toList_eq]
theorem variableName_X (h:SX w N rb sb m s k) (hs:s.size≤1000) (h3:(tk (Pu.toks s 0) k).kind=3):Calls Tryz.prog 336 #[rp rb] w (RuleX (Is (.agg #[.int .i64 ((tk (Pu.toks s 0) k).frm:Int),.int .i64 ((tk (Pu.toks s 0) k).to:Int),.string ((tk (Pu.toks s 0) k).text.extract 1 (tk (Pu.toks s 0) k).text.size)])) N rb sb m s (.ok ((),k+1)) w):=
 (qel h.rd hs (tk_to s k h.lt) h3 (qc2 s k h.lt)).mono fun _ _ q=>q.x h (by omega) rfl
theorem letDecl_X (hs:s.size≤1000) (IH:qex s n) (h:SX w N rb sb m s k) (hn:(Pu.toks s 0).length≤k+1+n):
 Calls Tryz.prog 257 #[rp rb] w (RuleX PD N rb sb m s (letDM (Pu.toks s 0) (qar (Pu.toks s 0) n) k) w):=by
 have hf1:=qeg
 have hf2:=spn175
 have hnot:∀(x:Bool) (w:World),(Op.unary .not (.bool x)).run Tryz.prog w=.ok (.bool (!x)) w:=fun _ _=>rfl
 have HE0:letDM (Pu.toks s 0) (qar (Pu.toks s 0) n) k=bnd (qaf (Pu.toks s 0) kLet) (fun _=>bnd (bindM (Pu.toks s 0) (qar (Pu.toks s 0) n)) (fun b=>bnd (qaf (Pu.toks s 0) qeq) (fun _=>fun k=>.ok (Dc.lt (b.1==11) b.2.1 b.2.2,k)))) k:=by unfold letDM;rw [bound_bind,bnd_assoc]
 have hz:=h.z
 have S1:=ai h
 have K2:=ai (Ke.refl rb w)
 have E3:=ai HE0
 clear h HE0
 go_enter Tryz.func257,Tryz.ntmps257
 go_wp2_with fail
 refine (qca (uh S1) hs kLet (by decide)).mono ?_
 intro e w1 hp
 cases hA:fin (Pu.toks s 0) (qaf (Pu.toks s 0) kLet k) with
 |error f'=>
  obtain ⟨rfl,hb⟩:=hp.bad hA
  exact ⟨rfl,RuleX.stop (uh E3) hA (fun a=>qae (stall_bind _) fun _=>qae (qap _ _) fun _=>qao _) ((uh K2).trans hb)⟩
 |ok r'=>
 obtain ⟨_uw1,k1⟩:=r'
 obtain ⟨vw1,rfl,hb,hS,hR⟩:=hp.ok hA
 have S4:=ai hS
 have K5:=ai ((uh K2).trans hb)
 have E6:=ai ((uh E3).trans (qad hA))
 have qw1:=(qan hA).1
 have zw1:=hb.size
 try simp at zw1
 cases hR
 clear hp hb hS hA S1 K2 E3
 have ew1:=qag _ _ _ _ qw1
 go_wp2_with fail
 refine (binding_X hs IH (uh S4) (by omega)).mono ?_
 intro e w2 hp
 cases hA:fin (Pu.toks s 0) (bindM (Pu.toks s 0) (qar (Pu.toks s 0) n) k1) with
 |error f'=>
  obtain ⟨rfl,hb⟩:=hp.bad hA
  exact ⟨rfl,RuleX.stop (uh E6) hA (fun a=>qae (qap _ _) fun _=>qao _) ((uh K5).trans hb)⟩
 |ok r'=>
 obtain ⟨b,k2⟩:=r'
 obtain ⟨v2,rfl,hb,hS,hR⟩:=hp.ok hA
 have S7:=ai hS
 have K8:=ai ((uh K5).trans hb)
 have E9:=ai ((uh E6).trans (qad hA))
 have qw2:=(qan hA).1
 have zw2:=hb.size
 try simp at zw2
 obtain ⟨ve,rfl,hV,hc1,hl1,hs1⟩:=hR
 have VB:=ai hV
 obtain ⟨te,xe,rfl⟩:=hV.iface
 have HL1:=ai (And.intro hl1 hs1)
 clear hV hc1 hl1 hs1
 clear hp hb hS hA S4 K5 E6
 go_wp2_with fail
 have S10:=ai ((uh S7).bel (bw (.cells #[.bool (b.1==11),.int .i64 (b.2.1.frm:Int),.int .i64 (b.2.1.to:Int),.string b.2.1.text,.iface te (.agg xe)] 218)))
 have K11:=ai ((uh K8).below' (bw (.cells #[.bool (b.1==11),.int .i64 (b.2.1.frm:Int),.int .i64 (b.2.1.to:Int),.string b.2.1.text,.iface te (.agg xe)] 218)))
 clear S7 K8
 have B12:=ai (Bx.at w2 #[.bool (b.1==11),.int .i64 (b.2.1.frm:Int),.int .i64 (b.2.1.to:Int),.string b.2.1.text,.iface te (.agg xe)] 218 (w2.heap.size) (by simp))
 have V13:=ai ((uh VB).bel (bw (.cells #[.bool (b.1==11),.int .i64 (b.2.1.frm:Int),.int .i64 (b.2.1.to:Int),.string b.2.1.text,.iface te (.agg xe)] 218)))
 clear VB
 refine (qca (uh S10) hs qeq (by decide)).mono ?_
 intro e w3 hp
 cases hA:fin (Pu.toks s 0) (qaf (Pu.toks s 0) qeq k2) with
 |error f'=>
  obtain ⟨rfl,hb⟩:=hp.bad hA
  exact ⟨rfl,RuleX.stop (uh E9) hA (fun a=>qao _) ((uh K11).trans hb)⟩
 |ok r'=>
 obtain ⟨_uw3,k3⟩:=r'
 obtain ⟨vw3,rfl,hb,hS,hR⟩:=hp.ok hA
 have S14:=ai hS
 have K15:=ai ((uh K11).trans hb)
 have E16:=ai ((uh E9).trans (qad hA))
 have qw3:=(qan hA).1
 have zw3:=hb.size
 try simp at zw3
 have B17:=ai ((uh B12).ke' hb (by omega))
 clear B12
 have V18:=ai ((uh V13).ke hb (fun b p=>by show b≠rb;have p':w1.heap.size≤b:=p;omega))
 clear V13
 cases hR
 clear hp hb hS hA S10 K11 E9
 have ew3:=qag _ _ _ _ qw3
 go_wp2_with fail
 obtain ⟨c19,f20,z21⟩:=uh B17
 go_wp2_with fail
 go_region_with (go_at_call 214;refine (qcm ((uh S14).bel (Below.refl _ _).drew) _).mono ?_;rintro e w5 ⟨rfl,hb⟩;have S22:=ai (((uh S14).bel (Below.refl _ _).drew).bel hb);have K23:=ai (((uh K15).below' (Below.refl _ _).drew).below' hb);have V24:=ai (((uh V18).bel (Below.refl _ _).drew).bel hb);have B25:=ai ((uh B17).drew'.below hb);obtain ⟨c26,fc26,zc26⟩:=uh B25;clear hb)
 all_goals (
  go_wp2_with fail
  go_ret
  exact RuleX.done (uh E16) (uh K23) (uh S22) ⟨_,_,_,rfl,(uh HL1).1,(uh HL1).2,((uh V24).wide fun b p=>by have p':w1.heap.size≤b:=p;show w.heap.size≤b;omega)⟩)
theorem typeDecl_X (hs:s.size≤1000) (hT:(Pu.toks s 0).length≤1001) (h:SX w N rb sb m s k) (hn:(Pu.toks s 0).length≤k+1+n):
 Calls Tryz.prog 256 #[rp rb] w (RuleX PD N rb sb m s (qfe (Pu.toks s 0) (qa9 (Pu.toks s 0) (smM s n)) k) w):=by
 obtain ⟨i0,hi0,hz0,hz1,hz2⟩:=info_parts nameInfo
 have hmf:∀(fn:Fn) (first cap:Array Value) (w:World),(Instr.makeFunc fn first cap).run Tryz.prog w=.ok (.func fn first cap) w:=fun _ _ _ _=>rfl
 have hT0:0<(Pu.toks s 0).length:=by have:=h.lt;omega
 have hNw:=h.ev.hN
 have hf1:=qeg
 have hf2:=spn175
 have hnot:∀(x:Bool) (w:World),(Op.unary .not (.bool x)).run Tryz.prog w=.ok (.bool (!x)) w:=fun _ _=>rfl
 have hz:=h.z
 have S1:=ai h
 have K2:=ai (Ke.refl rb w)
 have E3:Hid (qfe (Pu.toks s 0) (qa9 (Pu.toks s 0) (smM s n)) k=bnd (qaf (Pu.toks s 0) qco) (fun _=>bnd (qa3 (Pu.toks s 0) 2) (fun t=>bnd (qc3 (Pu.toks s 0) (Pu.toks s 0).length []) (fun vs=>bnd (qaf (Pu.toks s 0) kEq) (fun _=>bnd (qbf (Pu.toks s 0) (qa9 (Pu.toks s 0) (smM s n)) (Pu.toks s 0).length []) (fun ms=>bnd (qaf (Pu.toks s 0) qeq) (fun _=>fun k=>.ok (Dc.ty t vs ms,k))))))) k):=ai rfl
 clear h
 go_enter Tryz.func256,Tryz.ntmps256
 go_wp2_with fail
 refine (qca (uh S1) hs qco (by decide)).mono ?_
 intro e w1 hp
 cases hA:fin (Pu.toks s 0) (qaf (Pu.toks s 0) qco k) with
 |error f'=>
  obtain ⟨rfl,hb⟩:=hp.bad hA
  exact ⟨rfl,RuleX.stop (uh E3) hA (fun a=>qae (qeu _ _ (by decide)) fun _=>qae (stall_vars _ _ _) fun _=>qae (qap _ _) fun _=>qae (qee hT0) fun _=>qae (qap _ _) fun _=>qao _) ((uh K2).trans hb)⟩
 |ok r'=>
 obtain ⟨_uw1,k1⟩:=r'
 obtain ⟨vw1,rfl,hb,hS,hR⟩:=hp.ok hA
 have S4:=ai hS
 have K5:=ai ((uh K2).trans hb)
 have E6:=ai ((uh E3).trans (qad hA))
 have qw1:=(qan hA).1
 have zw1:=hb.size
 try simp at zw1
 cases hR
 clear hp hb hS hA S1 K2 E3
 have ew1:=qag _ _ _ _ qw1
 go_wp2_with fail
 have lw2:=(uh S4).lt
 refine (name_X (uh S4) hs 2 kUp (Or.inr ⟨rfl,rfl⟩)).mono ?_
 intro e w2 hp
 cases hA:fin (Pu.toks s 0) (qa3 (Pu.toks s 0) 2 k1) with
 |error f'=>
  obtain ⟨rfl,hb⟩:=hp.bad hA
  exact ⟨rfl,RuleX.stop (uh E6) hA (fun a=>qae (stall_vars _ _ _) fun _=>qae (qap _ _) fun _=>qae (qee hT0) fun _=>qae (qap _ _) fun _=>qao _) ((uh K5).trans hb)⟩
 |ok r'=>
 obtain ⟨t,k2⟩:=r'
 obtain ⟨vw2,rfl,hb,hS,hR⟩:=hp.ok hA
 have S7:=ai hS
 have K8:=ai ((uh K5).trans hb)
 have E9:=ai ((uh E6).trans (qad hA))
 have qw2:=(qan hA).1
 have zw2:=hb.size
 try simp at zw2
 cases hR
 clear hp hb hS hA S4 K5 E6
 have ew2:=qbi _ _ _ _ qw2
 have Ht:=ai (name2_in qw2 lw2)
 go_wp2_with fail
 have S10:=ai ((uh S7).bel (bw (.cells #[.int .i64 (t.frm:Int),.int .i64 (t.to:Int),.string t.text] 214)))
 have K11:=ai ((uh K8).below' (bw (.cells #[.int .i64 (t.frm:Int),.int .i64 (t.to:Int),.string t.text] 214)))
 clear S7 K8
 have B12:=ai (Bx.at w2 #[.int .i64 (t.frm:Int),.int .i64 (t.to:Int),.string t.text] 214 (w2.heap.size) (by simp))
 have hk2:=(uh S10).lt
 obtain ⟨r,hr⟩:∃r,r=qc3 (Pu.toks s 0) (Pu.toks s 0).length [] k2:=⟨_,rfl⟩
 have Hr:=ai hr
 clear hr
 go_loopg [5] ((Pu.toks s 0).length-k2) (fun gk v wr=>VarsRel N rb sb m s k2 w2.heap.size #[.int .i64 (t.frm:Int),.int .i64 (t.to:Int),.string t.text] w r gk v wr)
 case atStart=>exact ⟨k2,[],(Pu.toks s 0).length,none,0,rfl,uh S10,uh K11,uh B12,ai rfl,br _,by simp,RowO.nil _ _ _ _ _,Hr,by omega⟩
 case round=>
  clear S10 K11 B12
  obtain ⟨kr,V,f,va,vc,rfl,R,K,BN,hgk,hle,hVl,RW,hE,hfu⟩:=hrel
  have hkr:=R.lt
  have ho:=qc2 s kr hkr
  have hin:=tk_in s kr hkr
  have hkv:=kind_var ho R.ok
  have zn:=BN.z
  obtain ⟨c,ff,z⟩:=R.bx
  by_cases h3:(tk (Pu.toks s 0) kr).kind=3
  ·have hkv':((qak (tk (Pu.toks s 0) kr)).toList==[97,32,118,97,114,105,97,98,108,101])=true:=by rw [hkv];simp [h3]
   obtain ⟨f,rfl⟩:∃f',f=f'+1:=⟨f-1,by omega⟩
   have hE2:Hid (r=qc3 (Pu.toks s 0) f (V++[(tk (Pu.toks s 0) kr)]) (kr+1)):=ai ((uh hE).trans (by show (if (tk (Pu.toks s 0) kr).kind=3 then _ else _)=_;rw [if_pos h3]))
   have zw:=K.size
   have hrw:=RW.block
   have HC:=variableName_X R hs h3
   have Hin:=ai (And.intro (ho.v3 h3) hin.sp)
   clear hE hkv hin
   go_wp2_with fail
   refine HC.mono ?_
   intro e w1' hp
   by_cases h6:(tk (Pu.toks s 0) (kr+1)).kind=6
   ·obtain ⟨rfl,hb'⟩:=hp.bad (qaz _ h6)
    refine ⟨rfl,RuleX.fail (K.trans hb') ?_⟩
    rw [uh E9]
    refine qax ?_ (fun a=>qae (qap _ _) fun _=>qae (qee hT0) fun _=>qae (qap _ _) fun _=>qao _)
    rw [←uh Hr,uh hE2]
    exact stall_vars _ _ _ _ h6
   obtain ⟨v1,rfl,hb1,S1,hR⟩:=hp.ok (fin_ok' _ h6)
   cases hR
   have z1:=hb1.size
   have RW1:=RW.ke qb8 hb1 (by omega)
   have hob:=RW1.block
   obtain ⟨cs,hown,hPP⟩:=RW1
   have HO:=ai hown
   have HPP:=ai hPP
   have HP1:Hid (QName w1' (fun b=>wr.heap.size≤b) (tk (Pu.toks s 0) kr) (fun j=>([.int .i64 ((tk (Pu.toks s 0) kr).frm:Int),.int .i64 ((tk (Pu.toks s 0) kr).to:Int),.string ((tk (Pu.toks s 0) kr).text.extract 1 (tk (Pu.toks s 0) kr).text.size)]:List Value).getD j .nilIface)):=ai ⟨rfl,rfl,rfl,(uh Hin).1,(uh Hin).2⟩
   have HS1:=ai S1
   have HK1:=ai (K.trans hb1)
   have HBN:=ai (BN.ke' hb1 (by omega))
   clear hp HC hown hPP S1 hb1 R K BN RW c ff z hkv'
   go_wp2_with (at_builtin;go_must (refine wpList_append_own_at _ rfl (.tmp 19) (.tmp 22) 247 rfl (w2.heap.size+1) 214 i0 _ 3 32 namesUnder hi0 hz0 hz1 hz2 rfl (by decide) (.slice va V.length vc) V.length _ rfl ((uh HO).alloc _) ⟨w1'.heap.size,0,none⟩ 1 1 [.int .i64 ((tk (Pu.toks s 0) kr).frm:Int),.int .i64 ((tk (Pu.toks s 0) kr).to:Int),.string ((tk (Pu.toks s 0) kr).text.extract 1 (tk (Pu.toks s 0) kr).text.size)] rfl rfl (qbo _ _ _ _ (by simp)) (by intro u hu;simp at hu;rcases hu with rfl|rfl|rfl<;>rfl) (by unfold maxLen;omega) (by omega) (by simp;omega) ?_;intro v3 w3 hown3 hg3 hnil3 hloc3;have Hown3:=ai hown3;have Hg3:=ai hg3;have Hloc3:=ai hloc3;clear hown3 hg3 hnil3 hloc3))
   obtain ⟨q3,c3,rfl⟩:=qbq (uh Hown3) (by omega)
   go_roundg ((Pu.toks s 0).length-(kr+1))
   case measure=>rw [uh hgk];omega
   case rel=>
    have hlen:(V++[(tk (Pu.toks s 0) kr)]).length=V.length+1:=by simp
    have hbw:Below w1'.heap.size w1' (w1'.alloc (.cells #[.int .i64 ((tk (Pu.toks s 0) kr).frm:Int),.int .i64 ((tk (Pu.toks s 0) kr).to:Int),.string ((tk (Pu.toks s 0) kr).text.extract 1 (tk (Pu.toks s 0) kr).text.size)] 214)):=bw _
    refine ⟨kr+1,V++[(tk (Pu.toks s 0) kr)],f,some ⟨q3,0,none⟩,c3,by rw [hlen],((uh HS1).bel hbw).grown (uh Hg3) (fun j e=>by have:=hob j e;omega),?_,?_,ai rfl,by omega,by rw [hlen];omega,?_,hE2,by omega⟩
    ·exact Ke.grown (uh Hg3) ((uh HK1).below' hbw) (fun j e=>by have:=(hob j e).1;omega)
    ·exact Bx.grown (uh Hg3) ((uh HBN).below hbw) (fun j e=>by have:=(hob j e).1;omega)
    ·exact RowO.push (w1:=w1') (lo:=wr.heap.size) (c:=fun j=>([.int .i64 ((tk (Pu.toks s 0) kr).frm:Int),.int .i64 ((tk (Pu.toks s 0) kr).to:Int),.string ((tk (Pu.toks s 0) kr).text.extract 1 (tk (Pu.toks s 0) kr).text.size)]:List Value).getD j .nilIface) qb8 (uh HPP) (uh HP1) (by omega) (fun b e=>(hrw b e).2) hbw (uh Hown3) (uh Hg3) (uh Hloc3)
  ·have hkv':((qak (tk (Pu.toks s 0) kr)).toList==[97,32,118,97,114,105,97,98,108,101])=false:=by rw [hkv];simp [h3]
   have EV:Hid (qc3 (Pu.toks s 0) (Pu.toks s 0).length [] k2=.ok (V,kr)):=ai (by rw [←uh Hr,uh hE];cases f with|zero=>rfl|succ f=>(show (if (tk (Pu.toks s 0) kr).kind=3 then _ else _)=_;rw [if_neg h3]))
   have EX0:=ai ((uh E9).trans (qb7 (uh EV)))
   have SX0:=ai R
   have KX0:=ai K
   have BX0:=ai BN
   have RX0:=ai (RW.v qb8)
   have zw:=K.size
   clear hE hkv hin RW R K BN
   go_wp2_with fail
   clear c ff z
   refine (qca (uh SX0) hs kEq (by decide)).mono ?_
   intro e w3 hp
   cases hA:fin (Pu.toks s 0) (qaf (Pu.toks s 0) kEq kr) with
   |error f'=>
    obtain ⟨rfl,hb⟩:=hp.bad hA
    exact ⟨rfl,RuleX.stop (uh EX0) hA (fun a=>qae (qee hT0) fun _=>qae (qap _ _) fun _=>qao _) ((uh KX0).trans hb)⟩
   |ok r'=>
   obtain ⟨_uw3,k3⟩:=r'
   obtain ⟨vw3,rfl,hb,hS,hR⟩:=hp.ok hA
   have S701:=ai hS
   have K702:=ai ((uh KX0).trans hb)
   have E703:=ai ((uh EX0).trans (qad hA))
   have qw3:=(qan hA).1
   have zw3:=hb.size
   try simp at zw3
   have B704:=ai ((uh BX0).ke' hb (by omega))
   clear BX0
   have RX1:=ai ((uh RX0).move qb8 hb.size (fun b p z=>hb.block b z (by have p':w2.heap.size+1≤b:=p;omega)) (fun _ p _=>p))
   cases hR
   clear hp hb hS hA SX0 KX0 EX0
   have ew3:=qag _ _ _ _ qw3
   go_wp2_with fail
   refine (barredMaker_X (n:=n) hs hT (uh S701) (by omega)).mono ?_
   intro e w4 hp
   cases hA:fin (Pu.toks s 0) (qbf (Pu.toks s 0) (qa9 (Pu.toks s 0) (smM s n)) (Pu.toks s 0).length [] k3) with
   |error f'=>
    obtain ⟨rfl,hb⟩:=hp.bad hA
    exact ⟨rfl,RuleX.stop (uh E703) hA (fun a=>qae (qap _ _) fun _=>qao _) ((uh K702).trans hb)⟩
   |ok r'=>
   obtain ⟨ms,k4⟩:=r'
   obtain ⟨v4,rfl,hb,hS,hR⟩:=hp.ok hA
   have S705:=ai hS
   have K706:=ai ((uh K702).trans hb)
   have E707:=ai ((uh E703).trans (qad hA))
   have qw4:=(qan hA).1
   have zw4:=hb.size
   try simp at zw4
   have B708:=ai ((uh B704).ke' hb (by omega))
   clear B704
   have RX2:=ai ((uh RX1).move qb8 hb.size (fun b p z=>hb.block b z (by have p':w2.heap.size+1≤b:=p;omega)) (fun _ p _=>p))
   obtain ⟨hm0,hRV⟩:=hR
   have HM0:=ai hm0
   have MV0:=ai hRV
   obtain ⟨va4,vc4,cs4,rfl,_,_⟩:=hRV
   clear hm0
   clear hp hb hS hA S701 K702 E703
   have ew4:=makers_mono (T:=(Pu.toks s 0)) (maker_lts (qaw (qa2 n) (qa2 n) 1)) _ _ _ _ _ qw4
   go_wp2_with fail
   refine (qca (uh S705) hs qeq (by decide)).mono ?_
   intro e w5 hp
   cases hA:fin (Pu.toks s 0) (qaf (Pu.toks s 0) qeq k4) with
   |error f'=>
    obtain ⟨rfl,hb⟩:=hp.bad hA
    exact ⟨rfl,RuleX.stop (uh E707) hA (fun a=>qao _) ((uh K706).trans hb)⟩
   |ok r'=>
   obtain ⟨_uw5,k5⟩:=r'
   obtain ⟨vw5,rfl,hb,hS,hR⟩:=hp.ok hA
   have S709:=ai hS
   have K710:=ai ((uh K706).trans hb)
   have E711:=ai ((uh E707).trans (qad hA))
   have qw5:=(qan hA).1
   have zw5:=hb.size
   try simp at zw5
   have B712:=ai ((uh B708).ke' hb (by omega))
   clear B708
   have RX3:=ai ((uh RX2).move qb8 hb.size (fun b p z=>hb.block b z (by have p':w2.heap.size+1≤b:=p;omega)) (fun _ p _=>p))
   have MV1:=ai ((uh MV0).move qbx hb.size (fun b p z=>hb.block b z (by have p':w3.heap.size≤b:=p;omega)) (fun _ p _=>p))
   cases hR
   clear hp hb hS hA S705 K706 E707
   have ew5:=qag _ _ _ _ qw5
   go_wp2_with fail
   obtain ⟨c713,f714,z715⟩:=uh B712
   go_region_with (go_at_call 214;refine (qcm ((uh S709).bel (Below.refl _ _).drew) _).mono ?_;rintro e w6 ⟨rfl,hb⟩;have S6:=ai (((uh S709).bel (Below.refl _ _).drew).bel hb);have K6:=ai (((uh K710).below' (Below.refl _ _).drew).below' hb);have N6:=ai ((uh B712).drew'.below hb);have RX6:=ai ((uh RX3).move qb8 hb.size (fun b _ z=>hb.block b z) (fun _ p _=>p));have MV6:=ai ((uh MV1).move qbx hb.size (fun b _ z=>hb.block b z) (fun _ p _=>p));obtain ⟨c6,f6,y6⟩:=uh N6;clear hb)
   all_goals (
    go_wp2_with fail
    go_ret
    exact RuleX.done (uh E711) (uh K6) (uh S6) ⟨_,_,_,_,rfl,(uh Ht).1,(uh Ht).2,(uh RX6).move qb8 (br _) (fun _ _ _=>rfl) (fun b p _=>by have p':w2.heap.size+1≤b:=p;show w.heap.size≤b;omega),uh HM0,(uh MV6).move qbx (br _) (fun _ _ _=>rfl) (fun b p _=>by have p':w3.heap.size≤b:=p;show w.heap.size≤b;omega)⟩)
end
end
section
open Go Go.RowKit Go.ChangeMaps
theorem decls_go {T:List Pu.Tok} {d:M Dc} {f:Nat} {l:List Dc} {k:Nat} (h:isT (tk T k) qco=true∨isT (tk T k) kLet=true):qbk T d (f+1) l k=bnd d (fun x=>qbk T d f (l++[x])) k:=by
 show (if isT (tk T k) qco=true∨isT (tk T k) kLet=true then _ else _)=_
 rw [if_pos h]
theorem decls_end {T:List Pu.Tok} {d:M Dc} {f:Nat} {l:List Dc} {k:Nat} (h:isT (tk T k) qco=false) (h':isT (tk T k) kLet=false):qbk T d f l k=.ok (l,k):=by
 cases f with
 |zero=>rfl
 |succ f=>unfold qbk;rw [h,h'];rfl
theorem stall_decls (T:List Pu.Tok) (d:M Dc):∀f l,qbl T (qbk T d f l)
 |0,l=>fun k h=>qaz _ h
 |f+1,l=>fun k h=>by unfold qbk;rw [qds h,qds h,if_neg (by simp)];exact qaz _ h
theorem type_lts {T:List Pu.Tok} {mk:M Nd} (hm:Lts mk):Lts (qfe T mk):=fun k a k' h=>by
 unfold qfe at h
 obtain ⟨_,k1,h1,h2⟩:=qac h
 obtain ⟨_,k2,h3,h4⟩:=qac h2
 obtain ⟨_,k3,h5,h6⟩:=qac h4
 obtain ⟨_,k4,h7,h8⟩:=qac h6
 obtain ⟨_,k5,h9,h10⟩:=qac h8
 obtain ⟨_,k6,h11,h12⟩:=qac h10
 cases h12
 have:=qag _ _ _ _ h1
 have:=qbi _ _ _ _ h3
 have:=varsF_mono _ _ _ _ _ _ h5
 have:=qag _ _ _ _ h7
 have:=makers_mono hm _ _ _ _ _ h9
 have:=qag _ _ _ _ h11
 omega
theorem letD_lts {T:List Pu.Tok} {e:M Nd} (hm:Lts e):Lts (letDM T e):=fun k a k' h=>by
 unfold letDM at h
 obtain ⟨_,k1,h1,h2⟩:=qac h
 obtain ⟨_,k2,h3,h4⟩:=qac h2
 cases h4
 have:=bound_lts hm _ _ _ h1
 have:=qag _ _ _ _ h3
 omega
theorem decl_lts (T:List Pu.Tok) (n:Nat):Lts (qc6 T n):=fun k a k' h=>by
 unfold qc6 at h
 split at h
 ·exact type_lts (maker_lts (qaw (qa2 n) (qa2 n) 1)) _ _ _ h
 ·exact letD_lts (qcc n) _ _ _ h
def QD:EQ Dc:=fun w P d c=>PD w P d (c 0)
theorem qb5:Moves QD:=fun _ _ _ _ _ _ h h1 h2 h3=>PD.move h h1 h2 h3
theorem declInfo:(Tryz.prog.info? 129).map (fun i=>(i.zero,i.size,i.bytes))=some (some .nilIface,1,16):=by kernel_rfl
theorem declsUnder:Tryz.prog.underlying 47=some (.slice 129):=by kernel_rfl
theorem zeroFnD (w:World):(zeroValue 364).run Tryz.prog w=.ok .nilFunc w:=by kernel_rfl
def DeclsR (w:World) (P:Nat→Prop) (l:List Dc) (v:Value):Prop:=RowV QD 1 w P l v
def DeclsRel (N rb sb:Nat) (m:MV) (s:BA) (n k:Nat) (w:World) (r:Except Fl (List Dc×Nat)) (gk:Nat) (v:Value) (wr:World):Prop:=
 ∃(kr:Nat) (L:List Dc) (f:Nat) (va:Option Addr) (vc:Nat),
  v=.slice va L.length vc∧SX wr N rb sb m s kr∧Ke rb w wr∧Hid (gk=(Pu.toks s 0).length-kr)∧k≤kr∧L.length≤kr∧
  RowO QD 129 1 wr w.heap.size va vc L∧Hid (r=qbk (Pu.toks s 0) (qc6 (Pu.toks s 0) n) f L kr)∧(Pu.toks s 0).length≤kr+f
section
variable {w:World} {N rb sb:Nat} {m:MV} {s:BA} {k n:Nat}
theorem SX.decl (h:SX w N rb sb m s k) {b:Nat} (hb:m.a=.map (some b)):MS Value.string w b (declL rb):=by
 obtain ⟨b',e,_,_,hM⟩:=h.ev.mp.d
 rw [hb] at e
 cases e
 exact hM
theorem SX.ma (h:SX w N rb sb m s k):∃b,m.a=.map (some b):=by
 obtain ⟨b',e,_,_,hM⟩:=h.ev.mp.d
 exact ⟨b',e⟩
theorem got_decl {t:Pu.Tok} (ho:qdq t) (h6:t.kind≠6) (n0:isT t qco=false) (n1:isT t kLet=false):got (qak t) (declL rb)=none:=by
 rcases ho.kd with h'|h'|h'|h'|h'|h'|h'
 ·rw [qcy h'];rfl
 ·rw [qcs h'];rfl
 ·rw [qct h'];rfl
 ·rw [qcz h'];rfl
 ·rw [qc8 h']
  refine got_no fun p hp=>?_
  simp only [declL,List.mem_cons,List.not_mem_nil,or_false] at hp
  rcases hp with rfl|rfl
  ·exact qdk h' n0
  ·exact qdk h' n1
 ·exact absurd h' h6
 ·rw [qc0 h'];rfl
theorem manyDecl_X (hs:s.size≤1000) (hT:(Pu.toks s 0).length≤1001) (h:SX w N rb sb m s k) (hn:(Pu.toks s 0).length≤k+1+n) {b:Nat} (hmd:m.a=.map (some b)):
 Calls Tryz.prog 109 #[rp rb,.map (some b)] w (RuleX DeclsR N rb sb m s (qbk (Pu.toks s 0) (qc6 (Pu.toks s 0) n) (Pu.toks s 0).length [] k) w):=by
 obtain ⟨i0,hi0,hz0,hz1,hz2⟩:=info_parts declInfo
 have hnot:∀(x:Bool) (w:World),(Op.unary .not (.bool x)).run Tryz.prog w=.ok (.bool (!x)) w:=fun _ _=>rfl
 have hzr:=h.z
 have hNw:=h.ev.hN
 obtain ⟨r,hr⟩:∃r,r=qbk (Pu.toks s 0) (qc6 (Pu.toks s 0) n) (Pu.toks s 0).length [] k:=⟨_,rfl⟩
 rw [←hr]
 have hk:=h.lt
 have HR:=ai h
 have Hr:=ai hr
 have Hmd:=ai hmd
 clear h hr hmd
 go_enter Tryz.func109,Tryz.ntmps109
 go_wp2_with fail
 go_loopg [5] ((Pu.toks s 0).length-k) (fun gk v wr=>DeclsRel N rb sb m s n k w r gk v wr)
 case atStart=>exact ⟨k,[],(Pu.toks s 0).length,none,0,rfl,uh HR,Ke.refl _ _,ai rfl,br _,by simp,RowO.nil _ _ _ _ _,Hr,by omega⟩
 case round=>
  clear HR Hr
  obtain ⟨kr,L,f,va,vc,rfl,R,K,hgk,hle,hLl,RW,hE,hfu⟩:=hrel
  have hM:=R.decl (uh Hmd)
  have hl:=qcv hM Tryz.underlying239 (zeroFnD wr) (qak (tk (Pu.toks s 0) kr))
  have hkr:=R.lt
  have ho:=qc2 s kr hkr
  obtain ⟨c,ff,z⟩:=R.bx
  by_cases hb:isT (tk (Pu.toks s 0) kr) qco=true
  ·have hcf:∀args w,(callFunc 256 args).run Tryz.prog w=.ok (.enter 256 args) w:=fun _ _=>by kernel_rfl
   obtain ⟨f,rfl⟩:∃f',f=f'+1:=⟨f-1,by omega⟩
   have hE2:=ai ((uh hE).trans (decls_go (Or.inl hb)))
   have hg:got (qak (tk (Pu.toks s 0) kr)) (declL rb)=some (mth 256 rb):=by rw [qcj hb];rfl
   have HC:Calls Tryz.prog 256 #[rp rb] wr (RuleX PD N rb sb m s ((qc6 (Pu.toks s 0) n) kr) wr):=by
    rw [show (qc6 (Pu.toks s 0) n) kr=_ from if_pos hb]
    exact typeDecl_X hs hT R (by omega)
   rw [hg] at hl
   simp only [qcu] at hl
   clear hE hg
   go_wp2_with fail
   refine HC.mono ?_
   intro e w1 hp
   cases hA:fin (Pu.toks s 0) ((qc6 (Pu.toks s 0) n) kr) with
   |error f'=>
    obtain ⟨rfl,hb'⟩:=hp.bad hA
    exact ⟨rfl,RuleX.stop (uh hE2) hA (fun a=>stall_decls _ _ _ _) (K.trans hb')⟩
   |ok rr=>
   obtain ⟨a,k2⟩:=rr
   obtain ⟨v,rfl,hb1,S1,P1⟩:=hp.ok hA
   obtain ⟨tv,xv,rfl⟩:=P1.iface
   have hlt:=decl_lts _ _ _ _ _ (qan hA).1
   have HE3:=ai ((uh hE2).trans (qad hA))
   have z1:=hb1.size
   have zw:=K.size
   have hrw:=RW.block
   have RW1:=RW.ke qb5 hb1 hzr
   have hob:=RW1.block
   obtain ⟨cs,hown,hPP⟩:=RW1
   have HO:=ai hown
   have HPP:=ai hPP
   have HP1:=ai P1
   have HS1:=ai S1
   have HK1:=ai (K.trans hb1)
   clear hp hA HC hE2 hown hPP P1 S1 hb1 RW R K c ff z hl hM
   go_wp2_with (at_builtin;go_must (refine wpList_append_own_at _ rfl (.tmp 21) (.tmp 24) 47 rfl w.heap.size 129 i0 _ 1 16 declsUnder hi0 hz0 hz1 hz2 rfl (by decide) (.slice va L.length vc) L.length _ rfl ((uh HO).alloc _) ⟨w1.heap.size,0,none⟩ 1 1 [.iface tv (.agg xv)] rfl rfl (qbo _ _ _ _ (by simp)) (by intro u hu;simp at hu;subst hu;rfl) (by unfold maxLen;omega) (by omega) (by simp;omega) ?_;intro v3 w3 hown3 hg3 hnil3 hloc3;have Hown3:=ai hown3;have Hg3:=ai hg3;have Hloc3:=ai hloc3;clear hown3 hg3 hnil3 hloc3))
   obtain ⟨q3,c3,rfl⟩:=qbq (uh Hown3) (by omega)
   go_roundg ((Pu.toks s 0).length-k2)
   case measure=>rw [uh hgk];omega
   case rel=>
    have hlen:(L++[a]).length=L.length+1:=by simp
    have hbw:Below w1.heap.size w1 (w1.alloc (.cells #[.iface tv (.agg xv)] 129)):=bw _
    refine ⟨k2,L++[a],f,some ⟨q3,0,none⟩,c3,by rw [hlen],((uh HS1).bel hbw).grown (uh Hg3) (fun j e=>by have:=hob j e;omega),?_,ai rfl,by omega,by rw [hlen];omega,?_,HE3,by omega⟩
    ·exact Ke.grown (uh Hg3) ((uh HK1).below' hbw) (fun j e=>(hob j e).1)
    ·exact RowO.push (w1:=w1) (lo:=wr.heap.size) (c:=fun _=>.iface tv (.agg xv)) qb5 (uh HPP) (uh HP1) (by omega) (fun b e=>(hrw b e).2) hbw (uh Hown3) (uh Hg3) (uh Hloc3)
  have n0:isT (tk (Pu.toks s 0) kr) qco=false:=by simpa using hb
  clear hb
  by_cases hb:isT (tk (Pu.toks s 0) kr) kLet=true
  ·have hcf:∀args w,(callFunc 257 args).run Tryz.prog w=.ok (.enter 257 args) w:=fun _ _=>by kernel_rfl
   obtain ⟨f,rfl⟩:∃f',f=f'+1:=⟨f-1,by omega⟩
   have hE2:=ai ((uh hE).trans (decls_go (Or.inr hb)))
   have hg:got (qak (tk (Pu.toks s 0) kr)) (declL rb)=some (mth 257 rb):=by rw [qcj hb];rfl
   have HC:Calls Tryz.prog 257 #[rp rb] wr (RuleX PD N rb sb m s ((qc6 (Pu.toks s 0) n) kr) wr):=by
    rw [show (qc6 (Pu.toks s 0) n) kr=_ from if_neg (by simp [n0])]
    exact letDecl_X hs (expr_X hs hT n) R (by omega)
   rw [hg] at hl
   simp only [qcu] at hl
   clear hE hg
   go_wp2_with fail
   refine HC.mono ?_
   intro e w1 hp
   cases hA:fin (Pu.toks s 0) ((qc6 (Pu.toks s 0) n) kr) with
   |error f'=>
    obtain ⟨rfl,hb'⟩:=hp.bad hA
    exact ⟨rfl,RuleX.stop (uh hE2) hA (fun a=>stall_decls _ _ _ _) (K.trans hb')⟩
   |ok rr=>
   obtain ⟨a,k2⟩:=rr
   obtain ⟨v,rfl,hb1,S1,P1⟩:=hp.ok hA
   obtain ⟨tv,xv,rfl⟩:=P1.iface
   have hlt:=decl_lts _ _ _ _ _ (qan hA).1
   have HE3:=ai ((uh hE2).trans (qad hA))
   have z1:=hb1.size
   have zw:=K.size
   have hrw:=RW.block
   have RW1:=RW.ke qb5 hb1 hzr
   have hob:=RW1.block
   obtain ⟨cs,hown,hPP⟩:=RW1
   have HO:=ai hown
   have HPP:=ai hPP
   have HP1:=ai P1
   have HS1:=ai S1
   have HK1:=ai (K.trans hb1)
   clear hp hA HC hE2 hown hPP P1 S1 hb1 RW R K c ff z hl hM
   go_wp2_with (at_builtin;go_must (refine wpList_append_own_at _ rfl (.tmp 21) (.tmp 24) 47 rfl w.heap.size 129 i0 _ 1 16 declsUnder hi0 hz0 hz1 hz2 rfl (by decide) (.slice va L.length vc) L.length _ rfl ((uh HO).alloc _) ⟨w1.heap.size,0,none⟩ 1 1 [.iface tv (.agg xv)] rfl rfl (qbo _ _ _ _ (by simp)) (by intro u hu;simp at hu;subst hu;rfl) (by unfold maxLen;omega) (by omega) (by simp;omega) ?_;intro v3 w3 hown3 hg3 hnil3 hloc3;have Hown3:=ai hown3;have Hg3:=ai hg3;have Hloc3:=ai hloc3;clear hown3 hg3 hnil3 hloc3))
   obtain ⟨q3,c3,rfl⟩:=qbq (uh Hown3) (by omega)
   go_roundg ((Pu.toks s 0).length-k2)
   case measure=>rw [uh hgk];omega
   case rel=>
    have hlen:(L++[a]).length=L.length+1:=by simp
    have hbw:Below w1.heap.size w1 (w1.alloc (.cells #[.iface tv (.agg xv)] 129)):=bw _
    refine ⟨k2,L++[a],f,some ⟨q3,0,none⟩,c3,by rw [hlen],((uh HS1).bel hbw).grown (uh Hg3) (fun j e=>by have:=hob j e;omega),?_,ai rfl,by omega,by rw [hlen];omega,?_,HE3,by omega⟩
    ·exact Ke.grown (uh Hg3) ((uh HK1).below' hbw) (fun j e=>(hob j e).1)
    ·exact RowO.push (w1:=w1) (lo:=wr.heap.size) (c:=fun _=>.iface tv (.agg xv)) qb5 (uh HPP) (uh HP1) (by omega) (fun b e=>(hrw b e).2) hbw (uh Hown3) (uh Hg3) (uh Hloc3)
  have n1:isT (tk (Pu.toks s 0) kr) kLet=false:=by simpa using hb
  rw [got_decl (rb:=rb) ho R.ok n0 n1] at hl
  simp only [qcu] at hl
  have hE2:=ai ((uh hE).trans (decls_end n0 n1))
  go_wp2_with fail
  go_ret
  exact RuleX.done (uh hE2) K R (RW.v qb5)
def ProgR (w:World) (P:Nat→Prop) (l:List Dc) (v:Value):Prop:=∃u,v=.agg #[u]∧RowV QD 1 w P l u
theorem program_X (hs:s.size≤1000) (hT:(Pu.toks s 0).length≤1001) (h:SX w N rb sb m s k) (hn:(Pu.toks s 0).length≤k+1+n):
 Calls Tryz.prog 50 #[rp rb] w (RuleX ProgR N rb sb m s (qbk (Pu.toks s 0) (qc6 (Pu.toks s 0) n) (Pu.toks s 0).length [] k) w):=by
 obtain ⟨b,hma⟩:=h.ma
 have hz:=h.z
 have hNw:=h.ev.hN
 have b0:Below w.heap.size w (w.alloc (.cells #[.slice none 0 0] 49)):=bw _
 have B0:=ai (Bx.new w #[.slice none 0 0] 49)
 have HC:=manyDecl_X (n:=n) hs hT (h.bel b0) hn hma
 obtain ⟨c,f,z⟩:=(h.bel b0).bx
 clear h
 go_enter Tryz.func50,Tryz.ntmps50
 go_wp2_with fail
 refine HC.mono ?_
 intro e w1 hp
 cases hA:fin (Pu.toks s 0) (qbk (Pu.toks s 0) (qc6 (Pu.toks s 0) n) (Pu.toks s 0).length [] k) with
 |error f=>
  obtain ⟨rfl,hb⟩:=hp.bad hA
  exact ⟨rfl,RuleX.fail ((Ke.of b0).trans hb) hA⟩
 |ok rr=>
 obtain ⟨l,k1⟩:=rr
 obtain ⟨v,rfl,hb,hS,hR⟩:=hp.ok hA
 have RV:Hid (RowV QD 1 w1 (fun b=>w.heap.size+1≤b) l v):=ai (RowV.move hR qb5 (br _) (fun _ _ _=>rfl) (fun b p _=>by simpa using p))
 obtain ⟨va,vc,cs,rfl,_,_⟩:=hR
 have B1:=ai ((uh B0).ke' hb (by omega))
 have K1:=ai ((Ke.of b0).trans hb)
 have S1:=ai hS
 have HE:=ai (qan hA).1
 clear hp hb hS HC hA c f z
 obtain ⟨c,f,z⟩:=uh B1
 go_wp2_with fail
 obtain ⟨cF,fF,zF⟩:=(uh B1).setS' 0 (.slice va l.length vc) #[.slice va l.length vc] rfl (by simp)
 exact bodyPost_ret (v:=.agg #[.slice va l.length vc]) (by simp [results,Tryz.results50,go_sem,cF]) rfl (RuleX.done (uh HE) ((uh K1).setNew (b:=w.heap.size) (br _) 0 _) ((uh S1).set (b:=w.heap.size) hNw 0 _) ⟨_,rfl,((uh RV).setC qb5 (b:=w.heap.size) (fun c p=>by have p':w.heap.size+1≤c:=p;omega) 0 _).move qb5 (br _) (fun _ _ _=>rfl) (fun b p _=>by have p':w.heap.size+1≤b:=p;show w.heap.size≤b;omega)⟩)
end
end
end Go.Proofs.YtoceemjbcgmojaaGreatDoor

import Derived.Test.YtoceemjbcgmojaaGreatDoorVTo
import Derived.Test.YtoceemjbcgmojaaGreatDoorVXz
import Derived.Test.YtoceemjbcgmojaaGreatDoorVJb
import Derived.Test.YtoceemjbcgmojaaGreatDoorVPq
set_option linter.all false
set_option maxRecDepth 100000
set_option maxHeartbeats 2000000
namespace Go.Proofs.YtoceemjbcgmojaaGreatDoor
section
open Go Go.RowKit Go.ChangeMaps
section
variable {w:World}
theorem caughtP_C (b:Nat) (hB:Bx w b zF) (f:Fl):
 CallsD Tryz.prog 106 #[.pointer (some ⟨b,0,none⟩)] (.panicking [{v:=guV f,recovered:=false}]) w fun e u' w'=>
  e=.returned (.tuple #[])∧u'=.panicking [{v:=guV f,recovered:=true}]∧Bx w' b #[.int .i64 (f.kind:Int),.int .i64 (f.frm:Int),.int .i64 (f.to:Int)]∧Below b w w':=by
 have hta:=asGiveUp
 have B0:=ai hB
 have hnot:∀(x:Bool) (w:World),(Op.unary .not (.bool x)).run Tryz.prog w=.ok (.bool (!x)) w:=fun _ _=>rfl
 obtain ⟨c,ff,z⟩:=hB
 refine callsD_of_wpS Tryz.func106 rfl fun c₀ cs hu=>?_
 apply wpS_seq
 apply wpS_region
 simp [wpOpsS,go_sem,recoverD,hu,Tryz.ntmps106,Exit.thenS]
 rw [show (#[Value.pointer (some ⟨b,0,none⟩)]++((Array.replicate 16 undef).setIfInBounds 3 (guV f)).setIfInBounds 0 (guV f))=#[.pointer (some ⟨b,0,none⟩),guV f,undef,undef,guV f,undef,undef,undef,undef,undef,undef,undef,undef,undef,undef,undef,undef] from rfl]
 obtain ⟨CS,hCS⟩:∃CS:List Frame,CS=({fn:=c₀.fn,tmps:=c₀.tmps,todo:=c₀.todo,defers:=c₀.defers,mode:=FrameMode.panicking [{v:=guV f,recovered:=true}],kind:=c₀.kind,roundOf:=c₀.roundOf}::cs):=⟨_,rfl⟩
 rw [←hCS]
 have HCS:=ai hCS
 refine wpS_of_wp ?_
 clear hu hCS
 go_wp2_with fail
 refine ⟨rfl,_,uh HCS,.tuple #[],by simp [results,Tryz.results106,go_sem],rfl,rfl,?_,?_⟩
 ·exact (((uh B0).set3' rfl _ _ _).alloc _)
 ·exact ((((Below.refl b w).setCell (p:=⟨b,0,none⟩) (br _) _).setCell (p:=⟨b,1,none⟩) (br _) _).setCell (p:=⟨b,2,none⟩) (br _) _).alloc (by simp [World.setCell];omega) _
theorem idleP_C (b:Nat):
 CallsD Tryz.prog 106 #[.pointer (some ⟨b,0,none⟩)] .returning w fun e u' w'=>
  e=.returned (.tuple #[])∧u'=.returning∧w'=w:=by
 refine callsD_of_wpS Tryz.func106 rfl fun c₀ cs hu=>?_
 apply wpS_seq
 apply wpS_region
 simp [wpOpsS,go_sem,recoverD,hu,Tryz.ntmps106,Exit.thenS]
 rw [show (#[Value.pointer (some ⟨b,0,none⟩)]++((Array.replicate 16 undef).setIfInBounds 3 Value.nilIface).setIfInBounds 0 Value.nilIface)=#[.pointer (some ⟨b,0,none⟩),.nilIface,undef,undef,.nilIface,undef,undef,undef,undef,undef,undef,undef,undef,undef,undef,undef,undef] from rfl]
 have HCS:Hid (c₀::cs={c₀ with mode:=.returning}::cs):=ai (by cases c₀;simp at hu;subst hu;rfl)
 refine wpS_of_wp ?_
 clear hu
 go_wp2_with fail
 exact ⟨rfl,_,uh HCS,.tuple #[],by simp [results,Tryz.results106,go_sem],rfl,rfl,rfl⟩
end
theorem stall_endP (T:List Pu.Tok) (l:List Dc):qbl T (endP T l):=fun k h=>by unfold endP;rw [if_neg (by omega)];rfl
theorem readP_err {s:BA} (hs:¬400<s.size) {f:Fl} (h:fin (Pu.toks s 0) (qbk (Pu.toks s 0) (qc6 (Pu.toks s 0) (Pu.toks s 0).length) (Pu.toks s 0).length [] 0)=.error f):qc1 s=.error f:=by
 unfold qc1
 rw [if_neg hs]
 have:=qax h (fun l=>stall_endP (Pu.toks s 0) l)
 unfold fin at this
 split at this
 ·rename_i e;cases this;rw [e]
 ·rename_i a k e
  split at this
  ·rename_i h6
   exfalso
   obtain ⟨l,j,_,h2⟩:=qac e
   unfold endP at h2
   split at h2
   ·cases h2;omega
   ·cases h2
  ·cases this
theorem readP_ok {s:BA} (hs:¬400<s.size) {l:List Dc} {k:Nat} (h:fin (Pu.toks s 0) (qbk (Pu.toks s 0) (qc6 (Pu.toks s 0) (Pu.toks s 0).length) (Pu.toks s 0).length [] 0)=.ok (l,k)):qc1 s=if (tk (Pu.toks s 0) k).kind=7 then .ok l else .error (flOf (tk (Pu.toks s 0) k)):=by
 unfold qc1
 rw [if_neg hs,qad h]
 unfold endP
 by_cases h7:(tk (Pu.toks s 0) k).kind=7
 ·simp [h7]
 ·simp [h7]
def ProgPost (s:BA) (w:World) (e:Ending) (w':World):Prop:=
 ∃u f,e=.returned (.tuple #[.agg #[u],flV f])∧Below w.heap.size w w'∧match qc1 s with
  |.error f'=>f=f'∧u=.slice none 0 0
  |.ok l=>f=noFl∧RowV QD 1 w' (fun b=>w.heap.size≤b) l u
section
variable {w:World}
abbrev zPg:Array Value:=#[.slice none 0 0]
theorem wholeP_long (s:BA) (hs:400<s.size):Calls Tryz.prog 49 #[.string s,.func (.func 50) #[] #[]] w (ProgPost s w):=by
 have h1:(400:Int)<(s.size:Int):=by omega
 have hp:Hid (qc1 s=.error ⟨1,0,0⟩):=by show _=_;simp [qc1,hs]
 have B0:=(Bx.new w zPg 49).alloc (.cells zF 34)
 have F0:Bx ((w.alloc (.cells zPg 49)).alloc (.cells zF 34)) (w.heap.size+1) zF:=by have:=Bx.new (w.alloc (.cells zPg 49)) zF 34;simpa using this
 obtain ⟨c,f,z⟩:=B0
 obtain ⟨c',f',z'⟩:=F0
 go_enter_defers Tryz.func49,Tryz.ntmps49
 go_wp2_with fail
 simp [bodyPostD,Leaves,settle,results,Tryz.results49,go_sem]
 refine ⟨_,⟨1,0,0⟩,rfl,(bw _).alloc (by simp) _,?_⟩
 rw [uh hp]
 exact ⟨rfl,rfl⟩
theorem wholeP_C (h:Laid w) (s:BA) (hs:¬400<s.size) (hT:(Pu.toks s 0).length≤1001):Calls Tryz.prog 49 #[.string s,.func (.func 50) #[] #[]] w (ProgPost s w):=by
 have h1:decide ((400:Int)<(s.size:Int))=false:=by simp;omega
 have hmf:∀(fn:Fn) (first cap:Array Value) (w:World),(Instr.makeFunc fn first cap).run Tryz.prog w=.ok (.func fn first cap) w:=fun _ _ _ _=>rfl
 have hs':s.size≤1000:=by omega
 have hT0:0<(Pu.toks s 0).length:=by
  rw [toks_next s 0 (Nat.zero_le _)];split<;>simp
 have B0:=(Bx.new w zPg 49).alloc (.cells zF 34)
 have F0:Bx ((w.alloc (.cells zPg 49)).alloc (.cells zF 34)) (w.heap.size+1) zF:=by have:=Bx.new (w.alloc (.cells zPg 49)) zF 34;simpa using this
 have hb0:Below w.heap.size w ((w.alloc (.cells zPg 49)).alloc (.cells zF 34)):=(bw _).alloc (by simp) _
 have hz0:((w.alloc (.cells zPg 49)).alloc (.cells zF 34)).heap.size=w.heap.size+2:=by simp
 have HL:=h.bel hb0
 go_enter_defers Tryz.func49,Tryz.ntmps49
 go_wp2_with fail
 refine (newReader_X HL s hs').mono ?_
 intro e w1 hp
 obtain ⟨hb1,hp⟩:=hp
 rw [hz0] at hb1 hp
 have hbw1:Below ((w.alloc (.cells zPg 49)).alloc (.cells zF 34)).heap.size ((w.alloc (.cells zPg 49)).alloc (.cells zF 34)) w1:=by rw [hz0];exact hb1
 have B1:=B0.below hbw1
 have F1:=F0.below hbw1
 have HB1:Below w.heap.size w w1:=hb0.trans (hbw1.mono hb0.size)
 have et:=qe9 s 0 hT0
 rw [show qal (Pu.toks s 0) 0=0 from rfl] at et
 have z1:=hb1.size
 rw [hz0] at z1
 rcases hp with ⟨h6,rfl,N,sb,m,X1,E1⟩|⟨h6,rfl⟩
 ·rw [←et] at X1 h6
  have S1:SX w1 N (w.heap.size+2) sb m s 0:=⟨by rw [show qal (Pu.toks s 0) 0=0 from rfl];exact X1,E1,hT0,h6⟩
  have HA:=program_X (n:=(Pu.toks s 0).length) hs' hT S1 (by omega)
  have hrb:=S1.z
  clear HL hb0 hbw1 hb1 X1 E1 B0 F0
  go_wp2_with fail
  refine HA.mono ?_
  intro e w2 hp
  cases hA:fin (Pu.toks s 0) (qbk (Pu.toks s 0) (qc6 (Pu.toks s 0) (Pu.toks s 0).length) (Pu.toks s 0).length [] 0) with
  |error f=>
   obtain ⟨rfl,K2⟩:=hp.bad hA
   have HB2:Below w.heap.size w w2:=K2.low HB1 HB1.size (by omega)
   refine leaves_cons (f:=106) (args:=#[.pointer (some ⟨w.heap.size+1,0,none⟩)]) (by simp) (by simp [go_sem]) ?_
   refine (caughtP_C (w.heap.size+1) (F1.ke' K2 (by omega)) (f)).mono ?_
   rintro e u' w9 ⟨rfl,rfl,hB,hb⟩
   obtain ⟨c9,_,_⟩:=hB
   have P9:=(B1.ke' K2 (by omega)).same hb.size (hb.block w.heap.size (Nat.lt_succ_self _))
   obtain ⟨d9,_,_⟩:=P9
   simp [Leaves,settle,results,Tryz.results49,go_sem,c9,d9]
   refine ⟨_,f,rfl,HB2.trans (hb.mono (Nat.le_succ _)),?_⟩
   rw [readP_err hs hA]
   exact ⟨rfl,rfl⟩
  |ok r=>
  obtain ⟨l,k⟩:=r
  obtain ⟨v,rfl,K2,S2,u,rfl,RV⟩:=hp.ok hA
  have HB2:Below w.heap.size w w2:=K2.low HB1 HB1.size (by omega)
  have z2:=K2.size
  have hrd:=readP_ok hs hA
  have hk:=S2.lt
  have ho:=qc2 s k hk
  have hke:=kind_end ho S2.ok
  have hb3:Below w2.heap.size w2 (w2.alloc (.cells #[u] 49)):=bw _
  have B3:=(B1.ke' K2 (by omega)).below hb3
  have F3:=(F1.ke' K2 (by omega)).below hb3
  have R3:=Bx.new w2 #[u] 49
  have S3:=S2.bel hb3
  have HB3:Below w.heap.size w (w2.alloc (.cells #[u] 49)):=HB2.trans (hb3.mono HB2.size)
  have RV3:RowV QD 1 (w2.alloc (.cells #[u] 49)) (fun b=>w1.heap.size≤b∧b<w2.heap.size) l u:=RV.move qb5 hb3.size (fun b _ z=>hb3.block b z) (fun b p z=>⟨p,z⟩)
  have z3:(w2.alloc (.cells #[u] 49)).heap.size=w2.heap.size+1:=by simp
  obtain ⟨va,vc,cs,hu,_,_⟩:=RV
  subst hu
  have HS3:=ai S3
  have HRV3:=ai RV3
  clear hp hA HA B1 F1 S2 hb3 S3 RV3 K2
  by_cases h7:(tk (Pu.toks s 0) k).kind=7
  ·have t7:((qak (tk (Pu.toks s 0) k)).toList==kEnd'.toList)=true:=by rw [show kEnd'.toList=[116,104,101,32,101,110,100] from qbz _,hke];simp [h7]
   go_wp2_with fail
   refine (qdg (uh HS3).rd hs' (tk_to s k hk) kEnd' t7).mono ?_
   intro e w3 hp
   obtain ⟨rfl,K3,R4⟩:=hp.ok (end_next hk h7)
   have zk:=K3.size
   have B4:=B3.ke' K3 (by omega)
   have F4:=F3.ke' K3 (by omega)
   have R5:=R3.ke' K3 (by omega)
   have HB4:Below w.heap.size w w3:=K3.low HB3 HB3.size (by omega)
   have RV4:=(uh HRV3).move qb5 K3.size (fun b p z=>K3.block b z (by omega)) (fun _ p _=>p)
   have HB4':=ai B4
   have HF4':=ai F4
   have HRV4:=ai RV4
   have HBB:=ai HB4
   clear hp K3 R4 B3 F3 R3 HB3 RV4 HB4
   obtain ⟨c3,f3,y3⟩:=R5
   obtain ⟨c4,f4,y4⟩:=B4
   obtain ⟨c5,f5,y5⟩:=F4
   go_wp2_with fail
   have B6:=((((uh HB4').setS' 0 (.slice va l.length vc) #[.slice va l.length vc] rfl (by simp)).setO'' (b2:=w.heap.size+1) (by omega) 0 (.int .i64 0)).setO'' (b2:=w.heap.size+1) (by omega) 1 (.int .i64 0)).setO'' (b2:=w.heap.size+1) (by omega) 2 (.int .i64 0)
   have F6:=((uh HF4').setO'' (b2:=w.heap.size) (by omega) 0 (.slice va l.length vc)).set3' rfl (.int .i64 0) (.int .i64 0) (.int .i64 0)
   have RV6:=(((((uh HRV4).setC qb5 (b:=w.heap.size) (fun c p=>by omega) 0 (.slice va l.length vc)).setC qb5 (b:=w.heap.size+1) (fun c p=>by omega) 0 (.int .i64 0)).setC qb5 (b:=w.heap.size+1) (fun c p=>by omega) 1 (.int .i64 0)).setC qb5 (b:=w.heap.size+1) (fun c p=>by omega) 2 (.int .i64 0)).move qb5 (br _) (fun _ _ _=>rfl) (P':=fun b=>w.heap.size≤b) (fun b p _=>by omega)
   have HB6:=((((uh HBB).setCell (p:=⟨w.heap.size,0,none⟩) (br _) (.slice va l.length vc)).setCell (p:=⟨w.heap.size+1,0,none⟩) (Nat.le_succ _) (.int .i64 0)).setCell (p:=⟨w.heap.size+1,1,none⟩) (Nat.le_succ _) (.int .i64 0)).setCell (p:=⟨w.heap.size+1,2,none⟩) (Nat.le_succ _) (.int .i64 0)
   refine leaves_cons (f:=106) (args:=#[.pointer (some ⟨w.heap.size+1,0,none⟩)]) (by simp) (by simp [go_sem]) ?_
   refine (idleP_C (w.heap.size+1)).mono ?_
   rintro e u' w9 ⟨rfl,rfl,rfl⟩
   obtain ⟨c7,_,_⟩:=B6
   obtain ⟨c8,_,_⟩:=F6
   simp [Leaves,settle,results,Tryz.results49,go_sem,c7,c8]
   refine ⟨_,noFl,rfl,HB6,?_⟩
   rw [hrd,if_pos h7]
   exact ⟨rfl,RV6⟩
  ·have t7:((qak (tk (Pu.toks s 0) k)).toList==kEnd'.toList)=false:=by rw [show kEnd'.toList=[116,104,101,32,101,110,100] from qbz _,hke];simp [h7]
   go_wp2_with fail
   refine (take_no (uh HS3).rd kEnd' t7 (uh HS3).ok).mono ?_
   rintro e w3 ⟨rfl,K3⟩
   have HB4:Below w.heap.size w w3:=K3.low HB3 HB3.size (by omega)
   rw [if_neg h7] at hrd
   refine leaves_cons (f:=106) (args:=#[.pointer (some ⟨w.heap.size+1,0,none⟩)]) (by simp) (by simp [go_sem]) ?_
   refine (caughtP_C (w.heap.size+1) (F3.ke' K3 (by omega)) (flOf (tk (Pu.toks s 0) k))).mono ?_
   rintro e u' w9 ⟨rfl,rfl,hB,hb⟩
   obtain ⟨c9,_,_⟩:=hB
   have P9:=(B3.ke' K3 (by omega)).same hb.size (hb.block w.heap.size (Nat.lt_succ_self _))
   obtain ⟨d9,_,_⟩:=P9
   simp [Leaves,settle,results,Tryz.results49,go_sem,c9,d9]
   refine ⟨_,flOf (tk (Pu.toks s 0) k),rfl,HB4.trans (hb.mono (Nat.le_succ _)),?_⟩
   rw [hrd]
   exact ⟨rfl,rfl⟩
 ·rw [←et] at h6⊢
  have hst:fin (Pu.toks s 0) (qbk (Pu.toks s 0) (qc6 (Pu.toks s 0) (Pu.toks s 0).length) (Pu.toks s 0).length [] 0)=.error (flOf (tk (Pu.toks s 0) 0)):=stall_decls _ _ _ _ 0 h6
  refine leaves_cons (f:=106) (args:=#[.pointer (some ⟨w.heap.size+1,0,none⟩)]) (by simp) (by simp [go_sem]) ?_
  refine (caughtP_C (w.heap.size+1) F1 (flOf (tk (Pu.toks s 0) 0))).mono ?_
  rintro e u' w9 ⟨rfl,rfl,hB,hb⟩
  obtain ⟨c9,_,_⟩:=hB
  have P9:=B1.same hb.size (hb.block w.heap.size (Nat.lt_succ_self _))
  obtain ⟨d9,_,_⟩:=P9
  simp [Leaves,settle,results,Tryz.results49,go_sem,c9,d9]
  refine ⟨_,flOf (tk (Pu.toks s 0) 0),rfl,HB1.trans (hb.mono (Nat.le_succ _)),?_⟩
  rw [readP_err hs hst]
  exact ⟨rfl,rfl⟩
theorem wholeP_any (h:Laid w) (s:BA):Calls Tryz.prog 49 #[.string s,.func (.func 50) #[] #[]] w (ProgPost s w):=by
 by_cases hs:400<s.size
 ·exact wholeP_long s hs
 ·exact wholeP_C h s hs (by have:=toks_len s 0;omega)
theorem Program_X (h:Laid w) (s:BA):Calls Tryz.prog 24 #[.string s] w (ProgPost s w):=by
 have hb0:Below w.heap.size w ((w.alloc (.cells zPg 49)).alloc (.cells zF 34)):=(bw _).alloc (by simp) _
 have hz0:((w.alloc (.cells zPg 49)).alloc (.cells zF 34)).heap.size=w.heap.size+2:=by simp
 have B0:=ai ((Bx.new w zPg 49).alloc (.cells zF 34))
 have F0:Hid (Bx ((w.alloc (.cells zPg 49)).alloc (.cells zF 34)) (w.heap.size+1) zF):=ai (by have:=Bx.new (w.alloc (.cells zPg 49)) zF 34;simpa using this)
 have HC:=wholeP_any (h.bel hb0) s
 go_enter Tryz.func24,Tryz.ntmps24
 go_wp2_with fail
 refine HC.mono ?_
 rintro e w1 ⟨u,f,rfl,hb1,hp⟩
 have B1:=(uh B0).below hb1
 have F1:=(uh F0).below hb1
 have B2:=ai ((((B1.setS' 0 u #[u] rfl (by simp)).setO'' (b2:=w.heap.size+1) (by omega) 0 (.int .i64 (f.kind:Int))).setO'' (b2:=w.heap.size+1) (by omega) 1 (.int .i64 (f.frm:Int))).setO'' (b2:=w.heap.size+1) (by omega) 2 (.int .i64 (f.to:Int)))
 have F2:=ai ((F1.setO'' (b2:=w.heap.size) (by omega) 0 u).set3' rfl (.int .i64 (f.kind:Int)) (.int .i64 (f.frm:Int)) (.int .i64 (f.to:Int)))
 have HB2:=ai (((((hb0.trans (hb1.mono hb0.size)).setCell (p:=⟨w.heap.size,0,none⟩) (br _) u).setCell (p:=⟨w.heap.size+1,0,none⟩) (Nat.le_succ _) (.int .i64 (f.kind:Int))).setCell (p:=⟨w.heap.size+1,1,none⟩) (Nat.le_succ _) (.int .i64 (f.frm:Int))).setCell (p:=⟨w.heap.size+1,2,none⟩) (Nat.le_succ _) (.int .i64 (f.to:Int)))
 obtain ⟨va,vc,n,hu⟩:∃va vc n,u=.slice va n vc:=by
  cases hr:qc1 s with
  |error f'=>rw [hr] at hp;exact ⟨_,_,_,hp.2⟩
  |ok l=>rw [hr] at hp;obtain ⟨va,vc,cs,e,_⟩:=hp.2;exact ⟨_,_,_,e⟩
 subst hu
 obtain ⟨c1,f1,z1⟩:=B1
 obtain ⟨c2,f2,z2⟩:=F1
 have Hp:=ai hp
 unfold flV
 clear hp HC
 go_wp2_with fail
 obtain ⟨c3,f3,z3⟩:=uh B2
 obtain ⟨c4,f4,z4⟩:=uh F2
 refine bodyPost_ret (v:=.tuple #[.agg #[.slice va n vc],flV f]) (by simp [results,Tryz.results24,go_sem,flV,c3,c4]) rfl ⟨.slice va n vc,f,rfl,uh HB2,?_⟩
 have hp:=uh Hp
 cases hr:qc1 s with
 |error f'=>rw [hr] at hp;exact hp
 |ok l=>
  rw [hr] at hp
  rw [hz0] at hp
  have q:∀c,w.heap.size+2≤c→c≠w.heap.size:=fun c h=>by omega
  have q':∀c,w.heap.size+2≤c→c≠w.heap.size+1:=fun c h=>by omega
  exact ⟨hp.1,((((hp.2.setC qb5 (b:=w.heap.size) q 0 _).setC qb5 (b:=w.heap.size+1) q' 0 _).setC qb5 (b:=w.heap.size+1) q' 1 _).setC qb5 (b:=w.heap.size+1) q' 2 _).move qb5 (br _) (fun _ _ _=>rfl) (fun b p _=>by have p':w.heap.size+2≤b:=p;show w.heap.size≤b;omega)⟩
end
end
section
open Go Go.RowKit
def NmL (s:BA):Prop:=∃x r,s.toList=x::r∧Pu.lowB x.toNat=true∧(∀y∈r,Pu.nameB y.toNat=true)∧Pu.wordB ⟨(x::r).toArray⟩=false
def NmU (s:BA):Prop:=∃x r,s.toList=x::r∧Pu.upB x.toNat=true∧(∀y∈r,Pu.nameB y.toNat=true)
def NmV (s:BA):Prop:=∃x r,s.toList=39::x::r∧Pu.lowB x.toNat=true∧(∀y∈r,Pu.nameB y.toNat=true)∧Pu.wordB ⟨(x::r).toArray⟩=false
structure TokG (t:Pu.Tok):Prop where
 low:t.kind=1→NmL t.text
 up:t.kind=2→NmU t.text
 var:t.kind=3→NmV t.text
 num:t.kind=4→numB t.text<1000000000
 sz:t.text.size≤400
structure LexG (T:List Pu.Tok) (e:Nat):Prop where
 en:(tk T e).kind=7
 tok:∀k,TokG (tk T k)
 pos:0<T.length
inductive Ty3:Nd→Prop where
 |var (s:BA) (n f t a:Nat):NmV s→s.size≤400→n=0→Ty3 (.mk 16 s n [] f t a)
 |up (s:BA) (n:Nat) (L:List Nd) (f t a:Nat):NmU s→s.size≤400→n=0→(∀x∈L,Ty3 x)→Ty3 (.mk 2 s n L f t a)
 |pr (x y:Nd) (f t a:Nat):Ty3 x→Ty3 y→Ty3 (.mk 6 kNo 0 [x,y] f t a)
 |fn (x y:Nd) (f t a:Nat):Ty3 x→Ty3 y→Ty3 (.mk 17 kNo 0 [x,y] f t a)
inductive Pa3:Nd→Prop where
 |any (s:BA) (f t a:Nat):s.size≤400→Pa3 (.mk 15 s 0 [] f t a)
 |low (s:BA) (f t a:Nat):NmL s→s.size≤400→Pa3 (.mk 1 s 0 [] f t a)
 |num (s:BA) (n f t a:Nat):n<1000000000→s.size≤400→Pa3 (.mk 3 s n [] f t a)
 |word (s:BA) (f t a:Nat):s.toList=kTrue.toList∨s.toList=kFalse.toList→s.size≤400→Pa3 (.mk 4 s 0 [] f t a)
 |unit (f t a:Nat):Pa3 (.mk 5 kNo 0 [] f t a)
 |pr (x y:Nd) (f t a:Nat):Pa3 x→Pa3 y→Pa3 (.mk 6 kNo 0 [x,y] f t a)
 |up (s:BA) (n:Nat) (L:List Nd) (f t a:Nat):NmU s→s.size≤400→n=0→(∀x∈L,Pa3 x)→Pa3 (.mk 2 s n L f t a)
inductive Ex3:Nd→Prop where
 |low (s:BA) (f t a:Nat):NmL s→s.size≤400→Ex3 (.mk 1 s 0 [] f t a)
 |up (s:BA) (f t a:Nat):NmU s→s.size≤400→Ex3 (.mk 2 s 0 [] f t a)
 |num (s:BA) (n f t a:Nat):n<1000000000→s.size≤400→Ex3 (.mk 3 s n [] f t a)
 |word (s:BA) (f t a:Nat):s.toList=kTrue.toList∨s.toList=kFalse.toList→s.size≤400→Ex3 (.mk 4 s 0 [] f t a)
 |unit (f t a:Nat):Ex3 (.mk 5 kNo 0 [] f t a)
 |pr (x y:Nd) (f t a:Nat):Ex3 x→Ex3 y→Ex3 (.mk 6 kNo 0 [x,y] f t a)
 |of (x y:Nd) (f t a:Nat):Ex3 x→Ty3 y→Ex3 (.mk 14 kNo 0 [x,y] f t a)
 |op (s:BA) (x y:Nd) (f t a:Nat):s=qcx∨s=qb1∨s=qbu∨s=qb6→Ex3 x→Ex3 y→Ex3 (.mk 7 s 0 [x,y] f t a)
 |call (x y:Nd) (f t a:Nat):Ex3 x→Ex3 y→Ex3 (.mk 8 kNo 0 [x,y] f t a)
 |fn (s:BA) (x:Nd) (f t a:Nat):NmL s→s.size≤400→Ex3 x→Ex3 (.mk 9 s 0 [x] f t a)
 |lt (s:BA) (x z:Nd) (f t a:Nat):NmL s→s.size≤400→Ex3 x→Ex3 z→Ex3 (.mk 10 s 0 [x,z] f t a)
 |ltr (s s':BA) (x z:Nd) (f t a f' t' a':Nat):NmL s→s.size≤400→NmL s'→s'.size≤400→Ex3 x→Ex3 z→Ex3 (.mk 11 s 0 [.mk 9 s' 0 [x] f' t' a',z] f t a)
 |ite (x y z:Nd) (f t a:Nat):Ex3 x→Ex3 y→Ex3 z→Ex3 (.mk 12 kNo 0 [x,y,z] f t a)
 |mt (x:Nd) (A:List (Nd×Nd)) (f t a:Nat):A≠[]→Ex3 x→(∀p∈A,Pa3 p.1)→(∀p∈A,Ex3 p.2)→Ex3 (.mk 13 kNo 0 (x::armN A) f t a)
def Fn3 (nd:Nd):Prop:=∃s x f t a,nd=.mk 9 s 0 [x] f t a∧NmL s∧s.size≤400∧Ex3 x
theorem Fn3.ex {nd:Nd} (h:Fn3 nd):Ex3 nd:=by
 obtain ⟨s,x,f,t,a,rfl,h1,h2,h3⟩:=h
 exact .fn s x f t a h1 h2 h3
def IsFl (T:List Pu.Tok) (f:Fl):Prop:=∃j,f=flOf (tk T j)
def Got {α:Type} (T:List Pu.Tok) (r:Except Fl (α×Nat)) (Q:α→Nat→Prop):Prop:=match r with
 |.error f=>IsFl T f
 |.ok (a,k')=>Q a k'
section
variable {T:List Pu.Tok} {e:Nat} {α β:Type}
theorem Got.bnd {m:M α} {f:α→M β} {k:Nat} {Q:α→Nat→Prop} {R:β→Nat→Prop} (h:Got T (m k) Q) (h2:∀a k',Q a k'→Got T (f a k') R):Got T (Go.Proofs.YtoceemjbcgmojaaGreatDoor.bnd m f k) R:=by
 unfold Go.Proofs.YtoceemjbcgmojaaGreatDoor.bnd
 cases hm:m k with
 |error e=>rw [hm] at h;exact h
 |ok p=>rw [hm] at h;exact h2 _ _ h
theorem Got.mono {r:Except Fl (α×Nat)} {Q R:α→Nat→Prop} (h:Got T r Q) (h2:∀a k',Q a k'→R a k'):Got T r R:=by
 cases r with
 |error f=>exact h
 |ok p=>exact h2 _ _ h
theorem qbw {k:Nat} {Q:α→Nat→Prop}:Got T (.error (flOf (tk T k)):Except Fl (α×Nat)) Q:=⟨k,rfl⟩
theorem LexG.step (h:LexG T e) {k:Nat} (hk:k≤e) (hn:(tk T k).kind≠7):k+1≤e:=by
 have:k≠e:=fun q=>hn (by rw [q];exact h.en)
 omega
theorem qdy {t:Pu.Tok} {s:BA} (h:isT t s=true):t.kind=5:=by
 unfold isT at h
 simp at h
 exact h.1
theorem qay (h:LexG T e) {k:Nat} (hk:k≤e) (s:BA):Got T (qaf T s k) (fun _ k'=>k'=k+1∧k'≤e):=by
 unfold qaf
 split
 ·rename_i q;exact ⟨rfl,h.step hk (by rw [qdy q];decide)⟩
 ·exact qbw
theorem qdd (h:LexG T e) {k:Nat} (hk:k≤e) (n:Nat) (hn:n≠7):Got T (qa3 T n k) (fun t k'=>t=tk T k∧t.kind=n∧k'=k+1∧k'≤e):=by
 unfold qa3
 split
 ·rename_i q
  have q':(tk T k).kind=n:=by simpa using q
  exact ⟨rfl,q',rfl,h.step hk (by rw [q'];exact hn)⟩
 ·exact qbw
def Sp (e:Nat) (P:Nd→Prop) (k:Nat) (a:Nd) (k':Nat):Prop:=P a∧k<k'∧k'≤e∧nn a+1≤2*(k'-k)
def OkP (T:List Pu.Tok) (e:Nat) (P:Nd→Prop) (m:M Nd):Prop:=∀k,k≤e→Got T (m k) (Sp e P k)
theorem qen (h:LexG T e) {k:Nat} (hk:k≤e) (mk:Nat→Nd):Got T (qci T mk k) (fun a k'=>a=mk k'∧k'=k+1∧k'≤e):=
 (qay h hk kClose).bnd fun _ k' q=>⟨rfl,q.1,q.2⟩
structure SortOk (T:List Pu.Tok) (sort:Nat) (P:Nd→Prop):Prop where
 leaf:∀k,qah (tk T k) sort=true→isT (tk T k) qd6=false→P (qbt (tk T k))
 unit:sort≠1→∀f t a,P (.mk 5 kNo 0 [] f t a)
 pair:∀x y f t a,P x→P y→P (.mk 6 kNo 0 [x,y] f t a)
 of:sort=3→∀x y f t a,P x→Ty3 y→P (.mk 14 kNo 0 [x,y] f t a)
theorem leafK_kd {t:Pu.Tok} {c:Nat} (q:qa0 t=c):(c=1→t.kind=1)∧(c=2→t.kind=2)∧(c=16→t.kind=3)∧(c=3→t.kind=4):=by
 unfold qa0 at q
 (repeat' split at q)<;>subst q<;>simp_all
theorem begins_7 {t:Pu.Tok} {sort:Nat} (h:qah t sort=true):t.kind≠7:=by
 intro h7
 have e1:isT t kTrue=false:=by simp [isT,h7]
 have e2:isT t kFalse=false:=by simp [isT,h7]
 have e3:isT t kAny=false:=by simp [isT,h7]
 have e4:isT t qd6=false:=by simp [isT,h7]
 have hl:qa0 t=0:=by unfold qa0;rw [e1,e2,e3];simp [h7]
 unfold qah at h
 rw [e4,hl] at h
 revert h
 simp
theorem small_ok (h:LexG T e) {sort:Nat} {P:Nd→Prop} (hs:SortOk T sort P) {part typ:M Nd} (hp:OkP T e P part) (ht:OkP T e Ty3 typ):OkP T e P (qaj T part typ sort):=by
 intro k hk
 unfold qaj
 split
 ·rename_i hb
  have hk1:=h.step hk (begins_7 hb)
  split
  ·unfold qdj
   split
   ·rename_i hc
    have:=h.step hk1 (by rw [qdy hc.2];decide)
    exact ⟨hs.unit hc.1 _ _ _,by omega,this,by simp [nn,nnL];omega⟩
   ·refine (hp (k+1) hk1).bnd ?_
    rintro x k1 ⟨p1,p2,p3,p4⟩
    unfold qdc
    split
    ·rename_i hc
     have hk2:=h.step p3 (by rw [qdy hc];decide)
     refine (hp (k1+1) hk2).bnd ?_
     rintro y k2 ⟨q1,q2,q3,q4⟩
     refine (qen h q3 _).mono ?_
     rintro a k3 ⟨rfl,rfl,r3⟩
     exact ⟨hs.pair _ _ _ _ _ p1 q1,by omega,r3,by simp [nn,nnL];omega⟩
    ·split
     ·rename_i hc
      have hk2:=h.step p3 (by rw [qdy hc.2];decide)
      refine (ht (k1+1) hk2).bnd ?_
      rintro y k2 ⟨q1,q2,q3,q4⟩
      refine (qen h q3 _).mono ?_
      rintro a k3 ⟨rfl,rfl,r3⟩
      exact ⟨hs.of hc.1 _ _ _ _ _ p1 q1,by omega,r3,by simp [nn,nnL];omega⟩
     ·refine (qen h p3 _).mono ?_
      rintro a k3 ⟨rfl,rfl,r3⟩
      exact ⟨p1,by omega,r3,by omega⟩
  ·rename_i ho
   have hn:nn (qbt (tk T k))=1:=by simp [qbt,nn,nnL]
   exact ⟨hs.leaf k hb (by simpa using ho),by omega,hk1,by omega⟩
 ·exact qbw
theorem nn_add (x y:Nd) (u:Nat):nn (x.add y u)=nn x+nn y:=by
 obtain ⟨k,s,n,L,f,t,a⟩:=x
 simp [Nd.add,nn,nnL_app,nnL];omega
def Up3 (P:Nd→Prop) (nd:Nd):Prop:=∃s L f t a,nd=.mk 2 s 0 L f t a∧NmU s∧s.size≤400∧∀x∈L,P x
theorem Up3.add {P:Nd→Prop} {x y:Nd} (h:Up3 P x) (hy:P y) (u:Nat):Up3 P (x.add y u):=by
 obtain ⟨s,L,f,t,a,rfl,h1,h2,h3⟩:=h
 exact ⟨s,L++[y],f,u,a,rfl,h1,h2,fun z hz=>by
  rcases List.mem_append.1 hz with q|q
  ·exact h3 z q
  ·rw [List.mem_singleton.1 q];exact hy⟩
theorem headF_got (h:LexG T e) {sort:Nat} {P:Nd→Prop} {sm:M Nd} (hm:OkP T e P sm):∀f x k,k≤e→Up3 P x→Got T (qbe T sm sort f x k) (fun a k'=>Up3 P a∧k≤k'∧k'≤e∧nn a≤nn x+2*(k'-k))
 |0,x,k,hk,hx=>⟨hx,br _,hk,by omega⟩
 |f+1,x,k,hk,hx=>by
  unfold qbe
  split
  ·refine (hm k hk).bnd ?_
   rintro y k1 ⟨p1,p2,p3,p4⟩
   refine (headF_got h hm f _ k1 p3 (hx.add p1 _)).mono ?_
   rintro a k2 ⟨q1,q2,q3,q4⟩
   rw [nn_add] at q4
   exact ⟨q1,by omega,q3,by omega⟩
  ·exact ⟨hx,br _,hk,by omega⟩
theorem head_ok (h:LexG T e) {sort:Nat} {P:Nd→Prop} {part typ:M Nd} (hu:∀nd,Up3 P nd→P nd) (hm:OkP T e P (qaj T part typ sort)):OkP T e P (qcr T (qaj T part typ sort) sort):=by
 intro k hk
 unfold qcr
 split
 ·rename_i h2
  have h2':(tk T k).kind=2:=by simpa using h2
  have hsm:qaj T part typ sort k=.error (flOf (tk T k))∨qaj T part typ sort k=.ok (qbt (tk T k),k+1):=by
   unfold qaj
   split
   ·rw [if_neg (by unfold isT;simp [h2'])];exact Or.inr rfl
   ·exact Or.inl rfl
  rcases hsm with q|q
  ·unfold bnd;rw [q];exact qbw
  ·unfold bnd
   rw [q]
   have hk1:=h.step hk (by rw [h2'];decide)
   refine (headF_got h hm T.length _ (k+1) hk1 ?_).mono ?_
   ·exact ⟨(tk T k).text,[],(tk T k).frm,(tk T k).to,(tk T k).frm,by simp [qbt,qa0,h2',qa5],(h.tok k).up h2',(h.tok k).sz,by simp⟩
   ·rintro a k' ⟨q1,q2,q3,q4⟩
    have:nn (qbt (tk T k))=1:=by simp [qbt,nn,nnL]
    exact ⟨hu _ q1,by omega,q3,by omega⟩
 ·exact hm k hk
theorem leaf1 (h:LexG T e):SortOk T 1 Ty3:=by
 refine ⟨fun k hb ho=>?_,fun q=>absurd rfl q,fun x y f t a hx hy=>.pr x y f t a hx hy,fun q=>by cases q⟩
 have g:=h.tok k
 unfold qah at hb
 rw [ho] at hb
 simp at hb
 unfold qbt
 rcases hb with q|q
 ·rw [q]
  have h3:(tk T k).kind=3:=(leafK_kd q).2.2.1 rfl
  exact .var _ _ _ _ _ (g.var h3) g.sz (by simp [qa5,h3])
 ·rw [q]
  have h3:(tk T k).kind=2:=(leafK_kd q).2.1 rfl
  exact .up _ _ _ _ _ _ (g.up h3) g.sz (by simp [qa5,h3]) (by simp)
theorem Up3.ty {nd:Nd} (h:Up3 Ty3 nd):Ty3 nd:=by obtain ⟨s,L,f,t,a,rfl,h1,h2,h3⟩:=h;exact .up s 0 L f t a h1 h2 rfl h3
theorem Up3.pa {nd:Nd} (h:Up3 Pa3 nd):Pa3 nd:=by obtain ⟨s,L,f,t,a,rfl,h1,h2,h3⟩:=h;exact .up s 0 L f t a h1 h2 rfl h3
theorem typ_ok (h:LexG T e):∀n,OkP T e Ty3 (typM T n)
 |0=>fun k hk=>qbw
 |n+1=>fun k hk=>by
  have ih:=typ_ok h n
  unfold typM
  refine (head_ok h (fun _=>Up3.ty) (small_ok h (leaf1 h) ih ih) k hk).bnd ?_
  rintro x k1 ⟨p1,p2,p3,p4⟩
  unfold qdo
  split
  ·rename_i hc
   have hk2:=h.step p3 (by rw [qdy hc];decide)
   refine (ih (k1+1) hk2).bnd ?_
   rintro y k2 ⟨q1,q2,q3,q4⟩
   exact ⟨.fn _ _ _ _ _ p1 q1,by omega,q3,by simp [nn,nnL];omega⟩
  ·exact ⟨p1,p2,p3,p4⟩
theorem leaf_word {t:Pu.Tok} (h:qa0 t=4):t.text.toList=kTrue.toList∨t.text.toList=kFalse.toList:=by
 unfold qa0 at h
 repeat' split at h
 all_goals first|omega|skip
 rename_i q
 unfold isT at q
 simp at q
 rcases q with q|q
 ·exact Or.inl (q.2.trans (qbz _).symm)
 ·exact Or.inr (q.2.trans (qbz _).symm)
theorem qe1 {t:Pu.Tok} (h:qa0 t≠3):qa5 t=0:=by
 unfold qa5
 rw [if_neg]
 intro h4
 apply h
 simp [qa0,h4]
theorem leaf2 (h:LexG T e):SortOk T 2 Pa3:=by
 refine ⟨fun k hb ho=>?_,fun _ f t a=>.unit f t a,fun x y f t a hx hy=>.pr x y f t a hx hy,fun q=>by cases q⟩
 have g:=h.tok k
 unfold qah at hb
 rw [ho] at hb
 simp at hb
 unfold qbt
 have hk:∀c,qa0 (tk T k)=c→c=1∨c=2∨c=3→(tk T k).kind=if c=3 then 4 else c:=by
  intro c q hc
  have:=leafK_kd q
  rcases hc with rfl|rfl|rfl
  ·exact this.1 rfl
  ·exact this.2.1 rfl
  ·exact this.2.2.2 rfl
 rcases hb with (((q|q)|q)|q)|q
 ·rw [qe1 (by omega),q];exact .any _ _ _ _ g.sz
 ·rw [qe1 (by omega),q];exact .low _ _ _ _ (g.low (hk 1 q (by omega))) g.sz
 ·rw [qe1 (by omega),q];exact .up _ _ _ _ _ _ (g.up (hk 2 q (by omega))) g.sz rfl (by simp)
 ·rw [q]
  have h4:(tk T k).kind=4:=hk 3 q (by omega)
  exact .num _ _ _ _ _ (by unfold qa5;rw [if_pos h4];exact g.num h4) g.sz
 ·rw [qe1 (by omega),q];exact .word _ _ _ _ (leaf_word q) g.sz
theorem leaf3 (h:LexG T e):SortOk T 3 Ex3:=by
 refine ⟨fun k hb ho=>?_,fun _ f t a=>.unit f t a,fun x y f t a hx hy=>.pr x y f t a hx hy,fun _ x y f t a hx hy=>.of x y f t a hx hy⟩
 have g:=h.tok k
 unfold qah at hb
 rw [ho] at hb
 simp at hb
 unfold qbt
 have hk:∀c,qa0 (tk T k)=c→c=1∨c=2∨c=3→(tk T k).kind=if c=3 then 4 else c:=by
  intro c q hc
  have:=leafK_kd q
  rcases hc with rfl|rfl|rfl
  ·exact this.1 rfl
  ·exact this.2.1 rfl
  ·exact this.2.2.2 rfl
 rcases hb with ((q|q)|q)|q
 ·rw [qe1 (by omega),q];exact .low _ _ _ _ (g.low (hk 1 q (by omega))) g.sz
 ·rw [qe1 (by omega),q];exact .up _ _ _ _ (g.up (hk 2 q (by omega))) g.sz
 ·rw [q]
  have h4:(tk T k).kind=4:=hk 3 q (by omega)
  exact .num _ _ _ _ _ (by unfold qa5;rw [if_pos h4];exact g.num h4) g.sz
 ·rw [qe1 (by omega),q];exact .word _ _ _ _ (leaf_word q) g.sz
theorem pat_ok (h:LexG T e):∀n,OkP T e Pa3 (patM T n)
 |0=>fun k hk=>qbw
 |n+1=>fun k hk=>by
  unfold patM
  exact head_ok h (fun _=>Up3.pa) (small_ok h (leaf2 h) (pat_ok h n) (fun k _=>qbw)) k hk
theorem callF_got (h:LexG T e) {sm:M Nd} (hm:OkP T e Ex3 sm) (frm:Nat):∀f x k,k≤e→Ex3 x→Got T (qdh T sm frm f x k) (fun a k'=>Ex3 a∧k≤k'∧k'≤e∧nn a≤nn x+2*(k'-k))
 |0,x,k,hk,hx=>⟨hx,br _,hk,by omega⟩
 |f+1,x,k,hk,hx=>by
  unfold qdh
  split
  ·refine (hm k hk).bnd ?_
   rintro y k1 ⟨p1,p2,p3,p4⟩
   refine (callF_got h hm frm f _ k1 p3 (.call _ _ _ _ _ hx p1)).mono ?_
   rintro a k2 ⟨q1,q2,q3,q4⟩
   simp only [nn,nnL] at q4
   exact ⟨q1,by omega,q3,by omega⟩
  ·exact ⟨hx,br _,hk,by omega⟩
theorem prodF_got (h:LexG T e) {sm:M Nd} (hm:OkP T e Ex3 sm) (frm:Nat):∀f x k,k≤e→Ex3 x→Got T (qdn T sm frm f x k) (fun a k'=>Ex3 a∧k≤k'∧k'≤e∧nn a≤nn x+2*(k'-k))
 |0,x,k,hk,hx=>⟨hx,br _,hk,by omega⟩
 |f+1,x,k,hk,hx=>by
  unfold qdn
  split
  ·rename_i hc
   refine (hm (k+1) (h.step hk (by rw [qdy hc];decide))).bnd ?_
   rintro y k1 ⟨p1,p2,p3,p4⟩
   refine (prodF_got h hm frm f _ k1 p3 (.op _ _ _ _ _ _ (by simp) hx p1)).mono ?_
   rintro a k2 ⟨q1,q2,q3,q4⟩
   simp only [nn,nnL] at q4
   exact ⟨q1,by omega,q3,by omega⟩
  ·exact ⟨hx,br _,hk,by omega⟩
theorem isT_text {t:Pu.Tok} {s:BA} (h:isT t s=true):t.text=s:=by
 unfold isT at h
 simp at h
 exact toList_inj h.2
theorem sumF_got (h:LexG T e) {sm:M Nd} (hm:OkP T e Ex3 sm) (frm:Nat):∀f x k,k≤e→Ex3 x→Got T (sumF T sm frm f x k) (fun a k'=>Ex3 a∧k≤k'∧k'≤e∧nn a≤nn x+2*(k'-k))
 |0,x,k,hk,hx=>⟨hx,br _,hk,by omega⟩
 |f+1,x,k,hk,hx=>by
  unfold sumF
  split
  ·rename_i hc
   have h5:(tk T k).kind=5:=hc.elim qdy qdy
   refine (hm (k+1) (h.step hk (by rw [h5];decide))).bnd ?_
   rintro y k1 ⟨p1,p2,p3,p4⟩
   refine (sumF_got h hm frm f _ k1 p3 (.op _ _ _ _ _ _ (by rcases hc with q|q<;>rw [isT_text q]<;>simp) hx p1)).mono ?_
   rintro a k2 ⟨q1,q2,q3,q4⟩
   simp only [nn,nnL] at q4
   exact ⟨q1,by omega,q3,by omega⟩
  ·exact ⟨hx,br _,hk,by omega⟩
theorem qez {sm:M Nd} {F:Nat→Nd→M Nd} (hm:OkP T e Ex3 sm) (hF:∀fr x k,k≤e→Ex3 x→Got T (F fr x k) (fun a k'=>Ex3 a∧k≤k'∧k'≤e∧nn a≤nn x+2*(k'-k))):OkP T e Ex3 (fun k=>bnd sm (F (tk T k).frm) k):=by
 intro k hk
 refine (hm k hk).bnd ?_
 rintro x k1 ⟨p1,p2,p3,p4⟩
 refine (hF _ x k1 p3 p1).mono ?_
 rintro a k2 ⟨q1,q2,q3,q4⟩
 exact ⟨q1,by omega,q3,by omega⟩
theorem sum_ok (h:LexG T e) {sm:M Nd} (hm:OkP T e Ex3 sm):OkP T e Ex3 (sumM T (qbv T (qbc T sm))):=
 qez (qez (qez hm (fun fr x k=>callF_got h hm fr T.length x k)) (fun fr x k=>prodF_got h (qez hm (fun fr x k=>callF_got h hm fr T.length x k)) fr T.length x k)) (fun fr x k=>sumF_got h (qez (qez hm (fun fr x k=>callF_got h hm fr T.length x k)) (fun fr x k=>prodF_got h (qez hm (fun fr x k=>callF_got h hm fr T.length x k)) fr T.length x k)) fr T.length x k)
theorem less_ok (h:LexG T e) {sm:M Nd} (hm:OkP T e Ex3 sm):OkP T e Ex3 (qd1 T sm):=by
 intro k hk
 unfold qd1
 refine (hm k hk).bnd ?_
 rintro x k1 ⟨p1,p2,p3,p4⟩
 show Got T (if _ then _ else _) _
 split
 ·rename_i hc
  refine (hm (k1+1) (h.step p3 (by rw [qdy hc];decide))).bnd ?_
  rintro y k2 ⟨q1,q2,q3,q4⟩
  exact ⟨.op _ _ _ _ _ _ (by simp) p1 q1,by omega,q3,by simp [nn,nnL];omega⟩
 ·exact ⟨p1,p2,p3,p4⟩
theorem fun_ok (h:LexG T e) {ex:M Nd} (hm:OkP T e Ex3 ex):OkP T e Fn3 (funM T ex):=by
 intro k hk
 unfold funM
 refine (qay h hk kFun).bnd ?_
 rintro _ k1 ⟨rfl,p1⟩
 refine (qdd h p1 1 (by decide)).bnd ?_
 rintro t k2 ⟨rfl,t1,rfl,p2⟩
 refine (qay h p2 kArrow).bnd ?_
 rintro _ k3 ⟨rfl,p3⟩
 refine (hm _ p3).bnd ?_
 rintro x k4 ⟨q1,q2,q3,q4⟩
 exact ⟨⟨_,x,_,_,_,rfl,(h.tok _).low t1,(h.tok _).sz,q1⟩,by omega,q3,by simp [nn,nnL];omega⟩
def B3 (b:Nat×Pu.Tok×Nd):Prop:=NmL b.2.1.text∧b.2.1.text.size≤400∧(b.1=10∧Ex3 b.2.2∨b.1=11∧Fn3 b.2.2)
theorem bound_ok (h:LexG T e) {ex:M Nd} (hm:OkP T e Ex3 ex) {k:Nat} (hk:k≤e):Got T (qbb T ex k) (fun b k'=>B3 b∧k<k'∧k'≤e∧nn b.2.2+3≤2*(k'-k)):=by
 unfold qbb
 refine (qay h hk kLet).bnd ?_
 rintro _ k1 ⟨rfl,p1⟩
 show Got T (if _ then _ else _) _
 split
 ·rename_i hc
  refine (qdd h (h.step p1 (by rw [qdy hc];decide)) 1 (by decide)).bnd ?_
  rintro t k2 ⟨rfl,t1,rfl,p2⟩
  refine (qay h p2 kEq).bnd ?_
  rintro _ k3 ⟨rfl,p3⟩
  refine (fun_ok h hm _ p3).bnd ?_
  rintro x k4 ⟨q1,q2,q3,q4⟩
  exact ⟨⟨(h.tok _).low t1,(h.tok _).sz,Or.inr ⟨rfl,q1⟩⟩,by omega,q3,by simp;omega⟩
 ·refine (qdd h p1 1 (by decide)).bnd ?_
  rintro t k2 ⟨rfl,t1,rfl,p2⟩
  refine (qay h p2 kEq).bnd ?_
  rintro _ k3 ⟨rfl,p3⟩
  refine (hm _ p3).bnd ?_
  rintro x k4 ⟨q1,q2,q3,q4⟩
  exact ⟨⟨(h.tok _).low t1,(h.tok _).sz,Or.inl ⟨rfl,q1⟩⟩,by omega,q3,by simp;omega⟩
theorem choice_ok (h:LexG T e) {ex:M Nd} (hm:OkP T e Ex3 ex):OkP T e Ex3 (qcw T ex):=by
 intro k hk
 unfold qcw
 refine (qay h hk kIf).bnd ?_
 rintro _ k1 ⟨rfl,p1⟩
 refine (hm _ p1).bnd ?_
 rintro x k2 ⟨a1,a2,a3,a4⟩
 refine (qay h a3 qeh).bnd ?_
 rintro _ k3 ⟨rfl,p3⟩
 refine (hm _ p3).bnd ?_
 rintro y k4 ⟨b1,b2,b3,b4⟩
 refine (qay h b3 kElse).bnd ?_
 rintro _ k5 ⟨rfl,p5⟩
 refine (hm _ p5).bnd ?_
 rintro z k6 ⟨c1,c2,c3,c4⟩
 exact ⟨.ite _ _ _ _ _ _ a1 b1 c1,by omega,c3,by simp [nn,nnL];omega⟩
theorem let_ok (h:LexG T e) {ex:M Nd} (hm:OkP T e Ex3 ex):OkP T e Ex3 (letM T ex):=by
 intro k hk
 unfold letM
 refine (bound_ok h hm hk).bnd ?_
 rintro ⟨c,t,x⟩ k1 ⟨⟨s1,s2,s3⟩,p2,p3,p4⟩
 refine (qay h p3 kIn).bnd ?_
 rintro _ k2 ⟨rfl,p5⟩
 refine (hm _ p5).bnd ?_
 rintro z k3 ⟨q1,q2,q3,q4⟩
 refine ⟨?_,by omega,q3,by simp [nn,nnL] at p4⊢;omega⟩
 rcases s3 with ⟨e1,e2⟩|⟨e1,e2⟩
 ·simp only at e1 e2⊢
  rw [e1]
  exact .lt _ _ _ _ _ _ s1 s2 e2 q1
 ·simp only at e1 e2⊢
  rw [e1]
  obtain ⟨s',x',f',t',a',rfl,h1,h2,h3⟩:=e2
  exact .ltr _ _ _ _ _ _ _ _ _ _ s1 s2 h1 h2 h3 q1
theorem arms_got (h:LexG T e) {pa ex:M Nd} (hp:OkP T e Pa3 pa) (hm:OkP T e Ex3 ex):∀f l k,k≤e→Got T (qch T pa ex f l k) (fun l' k'=>∃A,l'=l++armN A∧(∀p∈A,Pa3 p.1)∧(∀p∈A,Ex3 p.2)∧(f≠0→A≠[])∧k≤k'∧k'≤e∧nnL l'≤nnL l+2*(k'-k))
 |0,l,k,hk=>⟨[],by simp [armN],by simp,by simp,by simp,br _,hk,by omega⟩
 |f+1,l,k,hk=>by
  unfold qch
  refine (hp k hk).bnd ?_
  rintro p k1 ⟨a1,a2,a3,a4⟩
  refine (qay h a3 kArrow).bnd ?_
  rintro _ k2 ⟨rfl,p2⟩
  refine (hm _ p2).bnd ?_
  rintro x k3 ⟨b1,b2,b3,b4⟩
  show Got T (if _ then _ else _) _
  have hl:nnL (l++[p,x])=nnL l+(nn p+nn x):=by simp [nnL_app,nnL]
  split
  ·rename_i hc
   refine (arms_got h hp hm f _ (k3+1) (h.step b3 (by rw [qdy hc];decide))).mono ?_
   rintro l' k4 ⟨A,rfl,c1,c2,c3,c4,c5,c6⟩
   refine ⟨(p,x)::A,by simp [armN],fun q hq=>?_,fun q hq=>?_,by simp,by omega,c5,by rw [hl] at c6;omega⟩
   ·rcases List.mem_cons.1 hq with rfl|hq
    ·exact a1
    ·exact c1 q hq
   ·rcases List.mem_cons.1 hq with rfl|hq
    ·exact b1
    ·exact c2 q hq
  ·exact ⟨[(p,x)],by simp [armN],by simp [a1],by simp [b1],by simp,by omega,b3,by rw [hl];omega⟩
theorem match_ok (h:LexG T e) {pa ex:M Nd} (hp:OkP T e Pa3 pa) (hm:OkP T e Ex3 ex):OkP T e Ex3 (qdm T pa ex):=by
 intro k hk
 unfold qdm
 refine (qay h hk qbg).bnd ?_
 rintro _ k1 ⟨rfl,p1⟩
 refine (hm _ p1).bnd ?_
 rintro x k2 ⟨a1,a2,a3,a4⟩
 refine (qay h a3 kWith).bnd ?_
 rintro _ k3 ⟨rfl,p3⟩
 refine (arms_got h hp hm T.length [x] _ p3).bnd ?_
 rintro l k4 ⟨A,rfl,c1,c2,c3,c4,c5,c6⟩
 refine (qay h c5 kEnd).bnd ?_
 rintro _ k5 ⟨rfl,p5⟩
 exact ⟨.mt x A _ _ _ (c3 (by have:=h.pos;omega)) a1 c1 c2,by omega,p5,by simp [nn,nnL] at c6⊢;omega⟩
theorem expr_ok (h:LexG T e):∀n,OkP T e Ex3 (qar T n)
 |0=>fun k hk=>qbw
 |n+1=>fun k hk=>by
  have ih:=expr_ok h n
  unfold qar
  split
  ·exact (fun_ok h ih k hk).mono fun a k' q=>⟨q.1.ex,q.2⟩
  split
  ·exact choice_ok h ih k hk
  split
  ·exact match_ok h (pat_ok h n) ih k hk
  split
  ·exact let_ok h ih k hk
  ·exact less_ok h (sum_ok h (small_ok h (leaf3 h) ih (typ_ok h n))) k hk
end
end
section
open Go Go.RowKit Un
theorem ext_shape {s:BA} {i b:Nat} (hi:i<b) (hb:b≤s.size):∃x r,(s.extract i b).toList=x::r∧x.toNat=Pu.at_ s i∧∀p:Nat→Bool,(∀j,i<j→j<b→p (Pu.at_ s j)=true)→∀y∈r,p y.toNat=true:=by
 have hl:(s.extract i b).toList.length=b-i:=by
  rw [ByteArray.toList_eq]
  show (s.extract i b).size=_
  rw [ByteArray.size_extract];omega
 have hg:∀j (h:j<(s.extract i b).toList.length),((s.extract i b).toList[j]).toNat=Pu.at_ s (i+j):=fun j h=>by
  rw [←at_ext s i b j hb (by omega),Pu.at_lt (by rw [ByteArray.size_extract];omega)]
  simp only [ByteArray.toList_eq,ByteArray.getElem_eq_getElem_data,Array.getElem_toList]
 cases hc:(s.extract i b).toList with
 |nil=>rw [hc] at hl;simp at hl;omega
 |cons x r=>
  refine ⟨x,r,rfl,?_,fun p hp y hy=>?_⟩
  ·have:=hg 0 (by omega)
   simp only [hc] at this
   simpa using this
  ·obtain ⟨j,hj,rfl⟩:=List.getElem_of_mem hy
   rw [hc] at hl
   simp at hl
   have:=hg (j+1) (by rw [hc];simp;omega)
   simp only [hc] at this
   simp only [List.getElem_cons_succ] at this
   rw [this]
   exact hp _ (by omega) (by omega)
theorem numF_dig (s:BA):∀k,(∀i,i<k→Pu.digB (Pu.at_ s i)=true)→numF s k<10^k
 |0,_=>by simp [numF]
 |k+1,h=>by
  have h1:=numF_dig s k (fun i hi=>h i (by omega))
  have h2:=h k (by omega)
  simp [Pu.digB] at h2
  have:(Pu.at_ s k+208)%256≤9:=by omega
  simp only [numF,Nat.pow_succ]
  omega
theorem numB_lt {s:BA} (h:DigN s):numB s<1000000000:=by
 unfold numB
 obtain ⟨h1,h2,h3⟩:=h
 rw [Nat.min_eq_left h2]
 have:=numF_dig s s.size h3
 have h4:(10:Nat)^s.size≤10^9:=Nat.pow_le_pow_right (by decide) h2
 omega
theorem mk_ext (s:BA) {x:UInt8} {r:List UInt8} (h:s.toList=x::r):(⟨(x::r).toArray⟩:BA)=s:=toList_inj (by rw [h];exact qbz _)
theorem tokAt_G (s:BA) (hs:s.size≤400) (i:Nat) (hi:i<s.size):TokG (Pu.tokAt s i):=by
 have hin:=tokAt_in s i hi
 have ht:=Pu.tokAt_to s i hi
 have hf:=Pu.tokAt_frm s i
 have hsz:(Pu.tokAt s i).text.size≤400:=by have:=hin.sp;omega
 refine ⟨fun k1=>?_,fun k2=>?_,fun k3=>?_,fun k4=>numB_lt (hin.v4 k4),hsz⟩
 ·clear hin hsz
  revert k1 ht hf
  unfold Pu.tokAt
  repeat' split
  all_goals intro ht hf k1
  all_goals try (exfalso;simp [Pu.mkT] at k1;done)
  rename_i h1 h2
  simp only [Pu.mkT] at ht
  obtain ⟨x,r,e1,e2,e3⟩:=ext_shape ht.1 ht.2
  refine ⟨x,r,e1,by rw [e2];exact h1,e3 _ (fun j a b=>endTo_all (j-i) i j rfl (by omega) b),?_⟩
  rw [mk_ext _ e1]
  simpa using h2
 ·clear hin hsz
  revert k2 ht hf
  unfold Pu.tokAt
  repeat' split
  all_goals intro ht hf k2
  all_goals try (exfalso;simp [Pu.mkT] at k2;done)
  rename_i h1 h2
  simp only [Pu.mkT] at ht
  obtain ⟨x,r,e1,e2,e3⟩:=ext_shape ht.1 ht.2
  exact ⟨x,r,e1,by rw [e2];exact h2,e3 _ (fun j a b=>endTo_all (j-i) i j rfl (by omega) b)⟩
 ·clear hin hsz
  revert k3 ht hf
  unfold Pu.tokAt
  repeat' split
  all_goals intro ht hf k3
  all_goals try (exfalso;simp [Pu.mkT] at k3;done)
  rename_i h1 h2 h3 h4
  simp only [Pu.mkT] at ht
  obtain ⟨x,r,e1,e2,e3⟩:=ext_shape ht.1 ht.2
  have hlt:i+1<Pu.endTo s Pu.nameB (i+1):=by
   have hi1:i+1<s.size:=by
    rcases Nat.lt_or_ge (i+1) s.size with q|q
    ·exact q
    ·have:=h3.2;rw [Pu.at_ge q] at this;simp [Pu.lowB] at this
   rw [Pu.endTo_yes hi1 (by simp [Pu.nameB,h3.2])]
   have:=Pu.endTo_ge s Pu.nameB (i+1+1)
   omega
  obtain ⟨y,r',e1',e2',e3'⟩:=ext_shape hlt ht.2
  have e39:x=39:=UInt8.toNat_inj.1 (by rw [e2,h3.1];rfl)
  have er:r=y::r':=by
   have q1:=qeb hi ht.1
   rw [e1,e1'] at q1
   injection q1 with _ q2
  refine ⟨y,r',by show (s.extract i _).toList=_;rw [e1,e39,er],by rw [e2'];exact h3.2,e3' _ (fun j a b=>endTo_all (j-(i+1)) (i+1) j rfl (by omega) b),?_⟩
  rw [mk_ext _ e1']
  simpa using h4
theorem toksF_mem (s:BA):∀f i t,t∈Pu.toksF s f i→(∃j,j<s.size∧t=Pu.tokAt s j)∨t=Pu.endTok s
 |0,i,t,h=>Or.inr (by simpa [Pu.toksF] using h)
 |f+1,i,t,h=>by
  unfold Pu.toksF at h
  split at h
  ·rename_i hi
   split at h
   ·exact toksF_mem s f _ t h
   ·rcases List.mem_cons.1 h with rfl|h
    ·exact Or.inl ⟨i,hi,rfl⟩
    ·exact toksF_mem s f _ t h
  ·exact Or.inr (by simpa using h)
theorem toksF_lastK (s:BA):∀f i,∃l,Pu.toksF s f i=l++[Pu.endTok s]∧l.length≤f
 |0,i=>⟨[],rfl,by simp⟩
 |f+1,i=>by
  unfold Pu.toksF
  split
  ·split
   ·obtain ⟨l,h1,h2⟩:=toksF_lastK s f (i+1);exact ⟨l,h1,by omega⟩
   ·obtain ⟨l,h1,h2⟩:=toksF_lastK s f (Pu.tokAt s i).to;exact ⟨Pu.tokAt s i::l,by rw [h1];rfl,by simp;omega⟩
  ·exact ⟨[],rfl,by simp⟩
theorem tk_any (T:List Pu.Tok) (k:Nat):tk T k∈T∨tk T k=⟨7,⟨#[]⟩,0,0⟩:=by
 by_cases h:k<T.length
 ·left;rw [←tk_eq h];exact List.getElem_mem h
 ·right;unfold tk;rw [List.getD_eq_getElem?_getD,List.getElem?_eq_none (by omega)];rfl
theorem tokEnd_G (t:Pu.Tok) (h7:t.kind=7) (hz:t.text.size≤400):TokG t:=⟨by simp [h7],by simp [h7],by simp [h7],by simp [h7],hz⟩
theorem lex_good (s:BA) (hs:s.size≤400):LexG (Pu.toks s 0) ((Pu.toks s 0).length-1)∧(Pu.toks s 0).length≤401:=by
 obtain ⟨l,h1,h2⟩:=toksF_lastK s (s.size-0) 0
 have e:Pu.toks s 0=l++[Pu.endTok s]:=h1
 refine ⟨⟨?_,fun k=>?_,by rw [e];simp⟩,by rw [e];simp;omega⟩
 ·rw [e]
  unfold tk
  simp [Pu.endTok]
 ·rcases tk_any (Pu.toks s 0) k with q|q
  ·rcases toksF_mem s _ _ _ q with ⟨j,hj,q⟩|q
   ·rw [q];exact tokAt_G s hs j hj
   ·rw [q];exact tokEnd_G _ rfl (by simp [Pu.endTok];decide)
  ·rw [q];exact tokEnd_G _ rfl (by decide)
theorem isFl_in {s:BA} {f:Fl} (h:IsFl (Pu.toks s 0) f):f.kind≠0∧f.frm≤f.to∧f.to≤s.size:=by
 obtain ⟨k,rfl⟩:=h
 refine ⟨flOf_kind _,?_⟩
 have:(tk (Pu.toks s 0) k).frm≤(tk (Pu.toks s 0) k).to∧(tk (Pu.toks s 0) k).to≤s.size:=by
  rcases tk_any (Pu.toks s 0) k with q|q
  ·rcases toksF_mem s _ _ _ q with ⟨j,hj,q⟩|q
   ·rw [q,Pu.tokAt_frm];have:=Pu.tokAt_to s j hj;omega
   ·rw [q];simp [Pu.endTok]
  ·rw [q];simp
 unfold flOf
 split<;>exact this
def D3:Dc→Prop
 |.ty t vs ms=>NmU t.text∧t.text.size≤400∧(∀v∈vs,NmV v.text∧v.text.size≤400)∧ms≠[]∧∀m∈ms,Up3 Ty3 m
 |.lt r t b=>NmL t.text∧t.text.size≤400∧Ex3 b∧(r=true→Fn3 b)
def nd3:Dc→Nat
 |.ty _ vs ms=>1+vs.length+nnL ms
 |.lt _ _ b=>1+nn b
section
variable {T:List Pu.Tok} {e:Nat}
theorem vars_got (h:LexG T e):∀f l k,k≤e→Got T (qc3 T f l k) (fun l' k'=>∃vs,l'=l++vs∧(∀v∈vs,NmV v.text∧v.text.size≤400)∧k≤k'∧k'≤e∧vs.length=k'-k)
 |0,l,k,hk=>⟨[],by simp,by simp,br _,hk,by simp⟩
 |f+1,l,k,hk=>by
  unfold qc3
  split
  ·rename_i h3
   refine (vars_got h f _ (k+1) (h.step hk (by omega))).mono ?_
   rintro l' k' ⟨vs,rfl,a1,a2,a3,a4⟩
   exact ⟨tk T k::vs,by simp,fun v hv=>by
    rcases List.mem_cons.1 hv with rfl|hv
    ·exact ⟨(h.tok k).var h3,(h.tok k).sz⟩
    ·exact a1 v hv,by omega,a3,by simp;omega⟩
  ·exact ⟨[],by simp,by simp,br _,hk,by simp⟩
theorem maker_ok (h:LexG T e) {sm:M Nd} (hm:OkP T e Ty3 sm):OkP T e (Up3 Ty3) (qa9 T sm):=by
 intro k hk
 unfold qa9
 refine (qdd h hk 2 (by decide)).bnd ?_
 rintro t k1 ⟨rfl,t1,rfl,p1⟩
 refine (headF_got h hm T.length _ (k+1) p1 ⟨_,[],_,_,_,rfl,(h.tok k).up t1,(h.tok k).sz,by simp⟩).mono ?_
 rintro a k' ⟨q1,q2,q3,q4⟩
 simp only [nn,nnL] at q4
 exact ⟨q1,by omega,q3,by omega⟩
theorem makers_got (h:LexG T e) {mk:M Nd} (hm:OkP T e (Up3 Ty3) mk):∀f l k,k≤e→Got T (qbf T mk f l k) (fun l' k'=>∃ms,l'=l++ms∧(∀m∈ms,Up3 Ty3 m)∧(f≠0→ms≠[])∧k≤k'∧k'≤e∧nnL ms≤2*(k'-k))
 |0,l,k,hk=>⟨[],by simp,by simp,by simp,br _,hk,by simp [nnL]⟩
 |f+1,l,k,hk=>by
  rw [qes]
  refine (hm k hk).bnd ?_
  rintro m k1 ⟨a1,a2,a3,a4⟩
  unfold qd4
  split
  ·rename_i hc
   refine (makers_got h hm f _ (k1+1) (h.step a3 (by rw [qdy hc];decide))).mono ?_
   rintro l' k2 ⟨ms,rfl,c1,_,c3,c4,c5⟩
   refine ⟨m::ms,by simp,fun q hq=>?_,by simp,by omega,c4,by simp [nnL];omega⟩
   rcases List.mem_cons.1 hq with rfl|hq
   ·exact a1
   ·exact c1 q hq
  ·exact ⟨[m],rfl,by simpa using a1,by simp,by omega,a3,by simp [nnL];omega⟩
def SpD (e k:Nat) (d:Dc) (k':Nat):Prop:=D3 d∧k<k'∧k'≤e∧nd3 d≤2*(k'-k)
theorem decl_ok (h:LexG T e) (n:Nat) {k:Nat} (hk:k≤e):Got T (qc6 T n k) (SpD e k):=by
 have ht:=typ_ok h n
 unfold qc6
 split
 ·unfold qfe
  refine (qay h hk qco).bnd ?_
  rintro _ k1 ⟨rfl,p1⟩
  refine (qdd h p1 2 (by decide)).bnd ?_
  rintro t k2 ⟨rfl,t1,rfl,p2⟩
  refine (vars_got h T.length [] _ p2).bnd ?_
  rintro l k3 ⟨vs,rfl,v1,v2,v3,v4⟩
  refine (qay h v3 kEq).bnd ?_
  rintro _ k4 ⟨rfl,p4⟩
  refine (makers_got h (maker_ok h (small_ok h (leaf1 h) ht ht)) T.length [] _ p4).bnd ?_
  rintro l k5 ⟨ms,rfl,m1,m2,m3,m4,m5⟩
  refine (qay h m4 qeq).bnd ?_
  rintro _ k6 ⟨rfl,p6⟩
  exact ⟨⟨(h.tok _).up t1,(h.tok _).sz,by simpa using v1,by simpa using m2 (by have:=h.pos;omega),by simpa using m1⟩,by omega,p6,by simp [nd3];omega⟩
 ·unfold letDM
  refine (bound_ok h (expr_ok h n) hk).bnd ?_
  rintro ⟨c,t,x⟩ k1 ⟨⟨s1,s2,s3⟩,p2,p3,p4⟩
  refine (qay h p3 qeq).bnd ?_
  rintro _ k2 ⟨rfl,p5⟩
  simp only at s3 p4
  refine ⟨⟨s1,s2,?_,?_⟩,by omega,p5,by simp [nd3];omega⟩
  ·rcases s3 with ⟨_,q⟩|⟨_,q⟩
   ·exact q
   ·exact q.ex
  ·intro hr
   rcases s3 with ⟨q,_⟩|⟨_,q⟩
   ·simp [q] at hr
   ·exact q
def ndL (l:List Dc):Nat:=(l.map nd3).sum
theorem decls_got (h:LexG T e) (n:Nat):∀f l k,k≤e→(∀d∈l,D3 d)→Got T (qbk T (qc6 T n) f l k) (fun l' k'=>(∀d∈l',D3 d)∧k≤k'∧k'≤e∧ndL l'≤ndL l+2*(k'-k))
 |0,l,k,hk,hl=>⟨hl,br _,hk,by omega⟩
 |f+1,l,k,hk,hl=>by
  unfold qbk
  split
  ·refine (decl_ok h n hk).bnd ?_
   rintro d k1 ⟨a1,a2,a3,a4⟩
   refine (decls_got h n f _ k1 a3 ?_).mono ?_
   ·intro x hx
    rcases List.mem_append.1 hx with q|q
    ·exact hl x q
    ·rw [List.mem_singleton.1 q];exact a1
   ·rintro l' k2 ⟨b1,b2,b3,b4⟩
    have:ndL (l++[d])=ndL l+nd3 d:=by simp [ndL]
    exact ⟨b1,by omega,b3,by omega⟩
  ·exact ⟨hl,br _,hk,by omega⟩
end
theorem readP_got {s:BA} (hs:¬400<s.size):match qc1 s with
 |.error f=>f.kind≠0∧f.frm≤f.to∧f.to≤s.size
 |.ok l=>(∀d∈l,D3 d)∧ndL l≤802:=by
 obtain ⟨h,hl⟩:=lex_good s (by omega)
 have h1:=(decls_got h (Pu.toks s 0).length (Pu.toks s 0).length [] 0 (Nat.zero_le _) (by simp)).bnd (f:=endP (Pu.toks s 0)) (R:=fun l' k'=>(∀d∈l',D3 d)∧ndL l'≤802) (by
  rintro l' k' ⟨a1,a2,a3,a4⟩
  unfold endP
  split
  ·exact ⟨a1,by simp [ndL] at a4⊢;omega⟩
  ·exact qbw)
 unfold qc1
 rw [if_neg hs]
 revert h1
 cases bnd (qbk (Pu.toks s 0) (qc6 (Pu.toks s 0) (Pu.toks s 0).length) (Pu.toks s 0).length []) (endP (Pu.toks s 0)) 0 with
 |error f=>intro h1;exact isFl_in h1
 |ok p=>intro h1;exact h1
end
section
open Go Go.RowKit Un
theorem fr_step (s:BA) (k:Nat) (hk:k+1<(Pu.toks s 0).length):(tk (Pu.toks s 0) k).frm≤(tk (Pu.toks s 0) (k+1)).frm:=by
 have h1:=tk_sp s k (by omega)
 have h2:=tk_to s k (by omega)
 rw [qe9 s (k+1) hk,show qal (Pu.toks s 0) (k+1)=(tk (Pu.toks s 0) k).to from rfl]
 unfold qaq
 split
 ·rw [Pu.tokAt_frm];have:=Pu.endTo_ge s blankB (tk (Pu.toks s 0) k).to;omega
 ·show _≤s.size;omega
theorem fr_asc (s:BA):∀d k,k+d<(Pu.toks s 0).length→(tk (Pu.toks s 0) k).frm≤(tk (Pu.toks s 0) (k+d)).frm
 |0,_,_=>br _
 |d+1,k,h=>Nat.le_trans (fr_asc s d k (by omega)) (fr_step s (k+d) (by omega))
structure LexO (T:List Pu.Tok) (e:Nat):Prop where
 g:LexG T e
 top:∀i,(tk T i).frm≤400
 asc:∀i j,i≤j→j≤e→(tk T i).frm≤(tk T j).frm
theorem lex_asc (s:BA) (hs:s.size≤400):LexO (Pu.toks s 0) ((Pu.toks s 0).length-1):=
 ⟨(lex_good s hs).1,fun i=>by
   by_cases hi:i<(Pu.toks s 0).length
   ·have h1:=tk_sp s i hi
    have h2:=tk_to s i hi
    omega
   ·unfold tk
    rw [List.getD_eq_getElem?_getD,List.getElem?_eq_none (by omega)]
    exact Nat.zero_le _,fun i j h1 h2=>by
   have:=fr_asc s (j-i) i (by have:=(lex_good s hs).1.pos;omega)
   rwa [show i+(j-i)=j by omega] at this⟩
def OkG (T:List Pu.Tok) (e:Nat) (m:M Nd):Prop:=∀k,k≤e→Got T (m k) (fun a k'=>Ge (tk T k).frm a∧k<k'∧k'≤e)
theorem GeL_app {lo:Nat}:∀{l m:List Nd},GeL lo l→GeL lo m→GeL lo (l++m)
 |[],_,_,h=>h
 |_::_,_,g,h=>⟨g.1,GeL_app g.2 h⟩
section
variable {T:List Pu.Tok} {e:Nat}
theorem Ge.add {lo u:Nat} {x y:Nd} (hx:Ge lo x) (hy:Ge lo y):Ge lo (x.add y u):=by
 cases x
 exact ⟨hx.1,hx.2.1,GeL_app hx.2.2 ⟨hy,trivial⟩⟩
theorem small_g (h:LexO T e) {sort:Nat} {part typ:M Nd} (hp:OkG T e part) (ht:OkG T e typ):OkG T e (qaj T part typ sort):=by
 intro k hk
 unfold qaj
 split
 ·rename_i hb
  have hk1:=h.g.step hk (begins_7 hb)
  split
  ·unfold qdj
   split
   ·rename_i hc
    have:=h.g.step hk1 (by rw [qdy hc.2];decide)
    exact ⟨⟨⟨br _,br _⟩,⟨h.top _,h.top _,Nat.zero_le _⟩,trivial⟩,by omega,this⟩
   ·refine (hp (k+1) hk1).bnd ?_
    rintro x k1 ⟨p1,p2,p3⟩
    have x1:=p1.mono (h.asc k (k+1) (by omega) hk1)
    unfold qdc
    split
    ·rename_i hc
     have hk2:=h.g.step p3 (by rw [qdy hc];decide)
     refine (hp (k1+1) hk2).bnd ?_
     rintro y k2 ⟨q1,q2,q3⟩
     refine (qen h.g q3 _).mono ?_
     rintro a k3 ⟨rfl,rfl,r3⟩
     exact ⟨⟨⟨br _,br _⟩,⟨h.top _,h.top _,Nat.zero_le _⟩,x1,q1.mono (h.asc k (k1+1) (by omega) hk2),trivial⟩,by omega,r3⟩
    ·split
     ·rename_i hc
      have hk2:=h.g.step p3 (by rw [qdy hc.2];decide)
      refine (ht (k1+1) hk2).bnd ?_
      rintro y k2 ⟨q1,q2,q3⟩
      refine (qen h.g q3 _).mono ?_
      rintro a k3 ⟨rfl,rfl,r3⟩
      exact ⟨⟨⟨br _,br _⟩,⟨h.top _,h.top _,Nat.zero_le _⟩,x1,q1.mono (h.asc k (k1+1) (by omega) hk2),trivial⟩,by omega,r3⟩
     ·refine (qen h.g p3 _).mono ?_
      rintro a k3 ⟨rfl,rfl,r3⟩
      exact ⟨x1,by omega,r3⟩
  ·exact ⟨⟨⟨br _,br _⟩,⟨h.top _,h.top _,(h.g.tok k).sz⟩,trivial⟩,by omega,hk1⟩
 ·exact qbw
theorem headF_g (h:LexO T e) {sort lo:Nat} {sm:M Nd} (hm:OkG T e sm):∀f x k,k≤e→lo≤(tk T k).frm→Ge lo x→Got T (qbe T sm sort f x k) (fun a k'=>Ge lo a∧k≤k'∧k'≤e)
 |0,x,k,hk,_,hx=>⟨hx,br _,hk⟩
 |f+1,x,k,hk,hl,hx=>by
  unfold qbe
  split
  ·refine (hm k hk).bnd ?_
   rintro y k1 ⟨p1,p2,p3⟩
   refine (headF_g h hm f _ k1 p3 (Nat.le_trans hl (h.asc k k1 (by omega) p3)) (hx.add (p1.mono hl))).mono ?_
   rintro a k2 ⟨q1,q2,q3⟩
   exact ⟨q1,by omega,q3⟩
  ·exact ⟨hx,br _,hk⟩
theorem head_g (h:LexO T e) {sort:Nat} {sm:M Nd} (hm:OkG T e sm):OkG T e (qcr T sm sort):=by
 intro k hk
 unfold qcr
 split
 ·refine (hm k hk).bnd ?_
  rintro x k1 ⟨p1,p2,p3⟩
  refine (headF_g h hm T.length x k1 p3 (h.asc k k1 (by omega) p3) p1).mono ?_
  rintro a k' ⟨q1,q2,q3⟩
  exact ⟨q1,by omega,q3⟩
 ·exact hm k hk
theorem typ_g (h:LexO T e):∀n,OkG T e (typM T n)
 |0=>fun k hk=>qbw
 |n+1=>fun k hk=>by
  have ih:=typ_g h n
  unfold typM
  refine (head_g h (small_g h ih ih) k hk).bnd ?_
  rintro x k1 ⟨p1,p2,p3⟩
  unfold qdo
  split
  ·rename_i hc
   have hk2:=h.g.step p3 (by rw [qdy hc];decide)
   refine (ih (k1+1) hk2).bnd ?_
   rintro y k2 ⟨q1,q2,q3⟩
   exact ⟨⟨⟨br _,br _⟩,⟨h.top _,h.top _,Nat.zero_le _⟩,p1,q1.mono (h.asc k (k1+1) (by omega) hk2),trivial⟩,by omega,q3⟩
  ·exact ⟨p1,p2,p3⟩
theorem pat_g (h:LexO T e):∀n,OkG T e (patM T n)
 |0=>fun k hk=>qbw
 |n+1=>fun k hk=>by
  unfold patM
  exact head_g h (small_g h (pat_g h n) (fun k _=>qbw)) k hk
theorem callF_g (h:LexO T e) {sm:M Nd} (hm:OkG T e sm) (frm:Nat):∀f x k,k≤e→frm≤(tk T k).frm→Ge frm x→Got T (qdh T sm frm f x k) (fun a k'=>Ge frm a∧k≤k'∧k'≤e)
 |0,x,k,hk,_,hx=>⟨hx,br _,hk⟩
 |f+1,x,k,hk,hl,hx=>by
  unfold qdh
  split
  ·refine (hm k hk).bnd ?_
   rintro y k1 ⟨p1,p2,p3⟩
   refine (callF_g h hm frm f (.mk 8 kNo 0 [x,y] frm (qal T k1) frm) k1 p3 (Nat.le_trans hl (h.asc k k1 (by omega) p3)) ⟨⟨br _,br _⟩,⟨Nat.le_trans hl (h.top k),Nat.le_trans hl (h.top k),Nat.zero_le _⟩,hx,p1.mono hl,trivial⟩).mono ?_
   rintro a k2 ⟨q1,q2,q3⟩
   exact ⟨q1,by omega,q3⟩
  ·exact ⟨hx,br _,hk⟩
theorem prodF_g (h:LexO T e) {sm:M Nd} (hm:OkG T e sm) (frm:Nat):∀f x k,k≤e→frm≤(tk T k).frm→Ge frm x→Got T (qdn T sm frm f x k) (fun a k'=>Ge frm a∧k≤k'∧k'≤e)
 |0,x,k,hk,_,hx=>⟨hx,br _,hk⟩
 |f+1,x,k,hk,hl,hx=>by
  unfold qdn
  split
  ·rename_i hc
   have hk1:=h.g.step hk (by rw [qdy hc];decide)
   have hl1:=Nat.le_trans hl (h.asc k (k+1) (by omega) hk1)
   refine (hm (k+1) hk1).bnd ?_
   rintro y k1 ⟨p1,p2,p3⟩
   refine (prodF_g h hm frm f (.mk 7 qbu 0 [x,y] frm (qal T k1) frm) k1 p3 (Nat.le_trans hl (h.asc k k1 (by omega) p3)) ⟨⟨br _,br _⟩,⟨Nat.le_trans hl (h.top k),Nat.le_trans hl (h.top k),by decide⟩,hx,p1.mono hl1,trivial⟩).mono ?_
   rintro a k2 ⟨q1,q2,q3⟩
   exact ⟨q1,by omega,q3⟩
  ·exact ⟨hx,br _,hk⟩
theorem sumF_g (h:LexO T e) {sm:M Nd} (hm:OkG T e sm) (frm:Nat):∀f x k,k≤e→frm≤(tk T k).frm→Ge frm x→Got T (sumF T sm frm f x k) (fun a k'=>Ge frm a∧k≤k'∧k'≤e)
 |0,x,k,hk,_,hx=>⟨hx,br _,hk⟩
 |f+1,x,k,hk,hl,hx=>by
  unfold sumF
  split
  ·rename_i hc
   have h5:(tk T k).kind=5:=hc.elim qdy qdy
   have hk1:=h.g.step hk (by rw [h5];decide)
   have hl1:=Nat.le_trans hl (h.asc k (k+1) (by omega) hk1)
   refine (hm (k+1) hk1).bnd ?_
   rintro y k1 ⟨p1,p2,p3⟩
   refine (sumF_g h hm frm f (.mk 7 (tk T k).text 0 [x,y] frm (qal T k1) frm) k1 p3 (Nat.le_trans hl (h.asc k k1 (by omega) p3)) ⟨⟨br _,br _⟩,⟨Nat.le_trans hl (h.top k),Nat.le_trans hl (h.top k),(h.g.tok k).sz⟩,hx,p1.mono hl1,trivial⟩).mono ?_
   rintro a k2 ⟨q1,q2,q3⟩
   exact ⟨q1,by omega,q3⟩
  ·exact ⟨hx,br _,hk⟩
theorem chain_g (h:LexO T e) {sm:M Nd} {F:Nat→Nd→M Nd} (hm:OkG T e sm) (hF:∀fr x k,k≤e→fr≤(tk T k).frm→Ge fr x→Got T (F fr x k) (fun a k'=>Ge fr a∧k≤k'∧k'≤e)):OkG T e (fun k=>bnd sm (F (tk T k).frm) k):=by
 intro k hk
 refine (hm k hk).bnd ?_
 rintro x k1 ⟨p1,p2,p3⟩
 refine (hF _ x k1 p3 (h.asc k k1 (by omega) p3) p1).mono ?_
 rintro a k2 ⟨q1,q2,q3⟩
 exact ⟨q1,by omega,q3⟩
theorem sum_g (h:LexO T e) {sm:M Nd} (hm:OkG T e sm):OkG T e (sumM T (qbv T (qbc T sm))):=
 have h1:OkG T e (qbc T sm):=chain_g h hm (fun fr x k=>callF_g h hm fr T.length x k)
 have h2:OkG T e (qbv T (qbc T sm)):=chain_g h h1 (fun fr x k=>prodF_g h h1 fr T.length x k)
 chain_g h h2 (fun fr x k=>sumF_g h h2 fr T.length x k)
theorem less_g (h:LexO T e) {sm:M Nd} (hm:OkG T e sm):OkG T e (qd1 T sm):=by
 intro k hk
 unfold qd1
 refine (hm k hk).bnd ?_
 rintro x k1 ⟨p1,p2,p3⟩
 show Got T (if _ then _ else _) _
 split
 ·rename_i hc
  have hk2:=h.g.step p3 (by rw [qdy hc];decide)
  refine (hm (k1+1) hk2).bnd ?_
  rintro y k2 ⟨q1,q2,q3⟩
  exact ⟨⟨⟨br _,br _⟩,⟨h.top _,h.top _,by decide⟩,p1,q1.mono (h.asc k (k1+1) (by omega) hk2),trivial⟩,by omega,q3⟩
 ·exact ⟨p1,p2,p3⟩
theorem fun_g (h:LexO T e) {ex:M Nd} (hm:OkG T e ex):OkG T e (funM T ex):=by
 intro k hk
 unfold funM
 refine (qay h.g hk kFun).bnd ?_
 rintro _ k1 ⟨rfl,p1⟩
 refine (qdd h.g p1 1 (by decide)).bnd ?_
 rintro t k2 ⟨rfl,t1,rfl,p2⟩
 refine (qay h.g p2 kArrow).bnd ?_
 rintro _ k3 ⟨rfl,p3⟩
 refine (hm _ p3).bnd ?_
 rintro x k4 ⟨q1,q2,q3⟩
 exact ⟨⟨⟨br _,h.asc k (k+1) (by omega) p1⟩,⟨h.top _,h.top _,(h.g.tok _).sz⟩,q1.mono (h.asc _ _ (by omega) p3),trivial⟩,by omega,q3⟩
theorem bound_g (h:LexO T e) {ex:M Nd} (hm:OkG T e ex) {k:Nat} (hk:k≤e):Got T (qbb T ex k) (fun b k'=>((tk T k).frm≤b.2.1.frm∧b.2.1.frm≤400∧b.2.1.text.size≤400)∧Ge (tk T k).frm b.2.2∧k<k'∧k'≤e):=by
 unfold qbb
 refine (qay h.g hk kLet).bnd ?_
 rintro _ k1 ⟨rfl,p1⟩
 show Got T (if _ then _ else _) _
 split
 ·rename_i hc
  have p1':=h.g.step p1 (by rw [qdy hc];decide)
  refine (qdd h.g p1' 1 (by decide)).bnd ?_
  rintro t k2 ⟨rfl,t1,rfl,p2⟩
  refine (qay h.g p2 kEq).bnd ?_
  rintro _ k3 ⟨rfl,p3⟩
  refine (fun_g h hm _ p3).bnd ?_
  rintro x k4 ⟨q1,q2,q3⟩
  exact ⟨⟨h.asc _ _ (by omega) p1',h.top _,(h.g.tok _).sz⟩,q1.mono (h.asc _ _ (by omega) p3),by omega,q3⟩
 ·refine (qdd h.g p1 1 (by decide)).bnd ?_
  rintro t k2 ⟨rfl,t1,rfl,p2⟩
  refine (qay h.g p2 kEq).bnd ?_
  rintro _ k3 ⟨rfl,p3⟩
  refine (hm _ p3).bnd ?_
  rintro x k4 ⟨q1,q2,q3⟩
  exact ⟨⟨h.asc _ _ (by omega) p1,h.top _,(h.g.tok _).sz⟩,q1.mono (h.asc _ _ (by omega) p3),by omega,q3⟩
theorem choice_g (h:LexO T e) {ex:M Nd} (hm:OkG T e ex):OkG T e (qcw T ex):=by
 intro k hk
 unfold qcw
 refine (qay h.g hk kIf).bnd ?_
 rintro _ k1 ⟨rfl,p1⟩
 refine (hm _ p1).bnd ?_
 rintro x k2 ⟨a1,a2,a3⟩
 refine (qay h.g a3 qeh).bnd ?_
 rintro _ k3 ⟨rfl,p3⟩
 refine (hm _ p3).bnd ?_
 rintro y k4 ⟨b1,b2,b3⟩
 refine (qay h.g b3 kElse).bnd ?_
 rintro _ k5 ⟨rfl,p5⟩
 refine (hm _ p5).bnd ?_
 rintro z k6 ⟨c1,c2,c3⟩
 exact ⟨⟨⟨br _,br _⟩,⟨h.top _,h.top _,Nat.zero_le _⟩,a1.mono (h.asc _ _ (by omega) p1),b1.mono (h.asc _ _ (by omega) p3),c1.mono (h.asc _ _ (by omega) p5),trivial⟩,by omega,c3⟩
theorem let_g (h:LexO T e) {ex:M Nd} (hm:OkG T e ex):OkG T e (letM T ex):=by
 intro k hk
 unfold letM
 refine (bound_g h hm hk).bnd ?_
 rintro ⟨c,t,x⟩ k1 ⟨s1,s2,p2,p3⟩
 refine (qay h.g p3 kIn).bnd ?_
 rintro _ k2 ⟨rfl,p5⟩
 refine (hm _ p5).bnd ?_
 rintro z k3 ⟨q1,q2,q3⟩
 exact ⟨⟨⟨br _,s1.1⟩,⟨h.top _,s1.2.1,s1.2.2⟩,s2,q1.mono (h.asc _ _ (by omega) p5),trivial⟩,by omega,q3⟩
theorem arms_g (h:LexO T e) {lo:Nat} {pa ex:M Nd} (hp:OkG T e pa) (hm:OkG T e ex):∀f l k,k≤e→lo≤(tk T k).frm→GeL lo l→Got T (qch T pa ex f l k) (fun l' k'=>GeL lo l'∧k≤k'∧k'≤e)
 |0,l,k,hk,_,hl=>⟨hl,br _,hk⟩
 |f+1,l,k,hk,hlo,hl=>by
  unfold qch
  refine (hp k hk).bnd ?_
  rintro p k1 ⟨a1,a2,a3⟩
  refine (qay h.g a3 kArrow).bnd ?_
  rintro _ k2 ⟨rfl,p2⟩
  refine (hm _ p2).bnd ?_
  rintro x k3 ⟨b1,b2,b3⟩
  have hl2:GeL lo (l++[p,x]):=GeL_app hl ⟨a1.mono hlo,b1.mono (Nat.le_trans hlo (h.asc _ _ (by omega) p2)),trivial⟩
  show Got T (if _ then _ else _) _
  split
  ·rename_i hc
   have hk4:=h.g.step b3 (by rw [qdy hc];decide)
   refine (arms_g h hp hm f _ (k3+1) hk4 (Nat.le_trans hlo (h.asc _ _ (by omega) hk4)) hl2).mono ?_
   rintro l' k4 ⟨c1,c2,c3⟩
   exact ⟨c1,by omega,c3⟩
  ·exact ⟨hl2,by omega,b3⟩
theorem match_g (h:LexO T e) {pa ex:M Nd} (hp:OkG T e pa) (hm:OkG T e ex):OkG T e (qdm T pa ex):=by
 intro k hk
 unfold qdm
 refine (qay h.g hk qbg).bnd ?_
 rintro _ k1 ⟨rfl,p1⟩
 refine (hm _ p1).bnd ?_
 rintro x k2 ⟨a1,a2,a3⟩
 refine (qay h.g a3 kWith).bnd ?_
 rintro _ k3 ⟨rfl,p3⟩
 refine (arms_g h (lo:=(tk T k).frm) hp hm T.length [x] _ p3 (h.asc _ _ (by omega) p3) ⟨a1.mono (h.asc _ _ (by omega) p1),trivial⟩).bnd ?_
 rintro l k4 ⟨c1,c2,c3⟩
 refine (qay h.g c3 kEnd).bnd ?_
 rintro _ k5 ⟨rfl,p5⟩
 exact ⟨⟨⟨br _,br _⟩,⟨h.top _,h.top _,Nat.zero_le _⟩,c1⟩,by omega,p5⟩
theorem expr_g (h:LexO T e):∀n,OkG T e (qar T n)
 |0=>fun k hk=>qbw
 |n+1=>fun k hk=>by
  have ih:=expr_g h n
  unfold qar
  split
  ·exact fun_g h ih k hk
  split
  ·exact choice_g h ih k hk
  split
  ·exact match_g h (pat_g h n) ih k hk
  split
  ·exact let_g h ih k hk
  ·exact less_g h (sum_g h (small_g h ih (typ_g h n))) k hk
theorem vars_g (h:LexO T e) {lo:Nat}:∀f l k,k≤e→lo≤(tk T k).frm→(∀v∈l,lo≤v.frm)→Got T (qc3 T f l k) (fun l' k'=>(∀v∈l',lo≤v.frm)∧k≤k'∧k'≤e)
 |0,l,k,hk,_,hl=>⟨hl,br _,hk⟩
 |f+1,l,k,hk,hlo,hl=>by
  unfold qc3
  split
  ·rename_i h3
   have hk1:=h.g.step hk (by omega)
   refine (vars_g h f _ (k+1) hk1 (Nat.le_trans hlo (h.asc _ _ (by omega) hk1)) ?_).mono ?_
   ·intro v hv
    rcases List.mem_append.1 hv with q|q
    ·exact hl v q
    ·rw [List.mem_singleton.1 q];exact hlo
   ·rintro l' k' ⟨a1,a2,a3⟩
    exact ⟨a1,by omega,a3⟩
  ·exact ⟨hl,br _,hk⟩
theorem AscM.app {m:Nd}:∀{l:List Nd} {lo hi hi':Nat},AscM lo l hi→(AscM hi [m] hi')→AscM lo (l++[m]) hi'
 |[],lo,hi,hi',h,g=>by
  cases m
  exact ⟨Nat.le_trans h g.1,g.2⟩
 |.mk _ _ _ _ _ _ _::r,lo,hi,hi',h,g=>⟨h.1,h.2.1,AscM.app (l:=r) h.2.2 g⟩
theorem maker_g (h:LexO T e) {sm:M Nd} (hm:OkG T e sm) {k:Nat} (hk:k≤e):Got T (qa9 T sm k) (fun a k'=>a.pos=(tk T k).frm∧Ge (tk T k).frm a∧k<k'∧k'≤e):=by
 unfold qa9
 refine (qdd h.g hk 2 (by decide)).bnd ?_
 rintro t k1 ⟨rfl,t1,rfl,p1⟩
 have hx:Ge (tk T k).frm (.mk 2 (tk T k).text 0 [] (tk T k).frm (qal T (k+1)) (tk T k).frm):=⟨⟨br _,br _⟩,⟨h.top _,h.top _,(h.g.tok _).sz⟩,trivial⟩
 have hg:=headF_g h (sort:=1) hm T.length _ (k+1) p1 (h.asc _ _ (by omega) p1) hx
 cases hr:qbe T sm 1 T.length (.mk 2 (tk T k).text 0 [] (tk T k).frm (qal T (k+1)) (tk T k).frm) (k+1) with
 |error f=>rw [hr] at hg;exact hg
 |ok p=>
  obtain ⟨a,k'⟩:=p
  rw [hr] at hg
  obtain ⟨q1,q2,q3⟩:=hg
  exact ⟨headF_pos _ _ _ _ _ hr,q1,by omega,q3⟩
theorem makers_g (h:LexO T e) {lo:Nat} {sm:M Nd} (hm:OkG T e sm):∀f l k,k≤e→AscM lo l (tk T k).frm→Got T (qbf T (qa9 T sm) f l k) (fun l' k'=>AscM lo l' (tk T k').frm∧k≤k'∧k'≤e)
 |0,l,k,hk,hl=>⟨hl,br _,hk⟩
 |f+1,l,k,hk,hl=>by
  rw [qes]
  refine (maker_g h hm hk).bnd ?_
  rintro m k1 ⟨a1,a2,a3,a4⟩
  have hA:∀j,k1≤j→j≤e→AscM lo (l++[m]) (tk T j).frm:=fun j h1 h2=>by
   refine hl.app ?_
   obtain ⟨_,_,_,L,_,_,a⟩:=m
   have a1':a=(tk T k).frm:=a1
   subst a1'
   exact ⟨br _,a2,h.asc _ _ (by omega) h2⟩
  unfold qd4
  split
  ·rename_i hc
   have hk2:=h.g.step a4 (by rw [qdy hc];decide)
   refine (makers_g h hm f _ (k1+1) hk2 (hA _ (by omega) hk2)).mono ?_
   rintro l' k2 ⟨c1,c2,c3⟩
   exact ⟨c1,by omega,c3⟩
  ·exact ⟨hA _ (br _) a4,by omega,a4⟩
theorem decl_g (h:LexO T e) (n:Nat) {k:Nat} (hk:k≤e):Got T (qc6 T n k) (fun d k'=>GeD (tk T k).frm d (tk T k').frm∧k<k'∧k'≤e):=by
 have ht:=typ_g h n
 unfold qc6
 split
 ·unfold qfe
  refine (qay h.g hk qco).bnd ?_
  rintro _ k1 ⟨rfl,p1⟩
  refine (qdd h.g p1 2 (by decide)).bnd ?_
  rintro t k2 ⟨rfl,t1,rfl,p2⟩
  refine (vars_g h (lo:=(tk T (k+1)).frm) T.length [] _ p2 (h.asc _ _ (by omega) p2) (by simp)).bnd ?_
  rintro l k3 ⟨v1,v2,v3⟩
  refine (qay h.g v3 kEq).bnd ?_
  rintro _ k4 ⟨rfl,p4⟩
  refine (makers_g h (lo:=(tk T (k+1)).frm) (small_g h ht ht) T.length [] _ p4 (h.asc _ _ (by omega) p4)).bnd ?_
  rintro ms k5 ⟨m1,m2,m3⟩
  refine (qay h.g m3 qeq).bnd ?_
  rintro _ k6 ⟨rfl,p6⟩
  refine ⟨⟨h.asc _ _ (by omega) p1,v1,?_⟩,by omega,p6⟩
  have:=h.asc k5 (k5+1) (by omega) p6
  exact AscM.up m1 this
 ·unfold letDM
  refine (bound_g h (expr_g h n) hk).bnd ?_
  rintro ⟨c,t,x⟩ k1 ⟨s1,s2,p2,p3⟩
  refine (qay h.g p3 qeq).bnd ?_
  rintro _ k2 ⟨rfl,p5⟩
  exact ⟨⟨h.asc _ _ (by omega) p5,s2⟩,by omega,p5⟩
def AscT (lo:Nat):List Dc→Nat→Prop
 |[],hi=>lo≤hi
 |d::r,hi=>∃mid,GeD lo d mid∧AscT mid r hi
theorem AscT.app {d:Dc}:∀{l:List Dc} {lo hi hi':Nat},AscT lo l hi→(∀lo',lo'≤hi→GeD lo' d hi')→AscT lo (l++[d]) hi'
 |[],_,_,hi',h,g=>⟨hi',g _ h,br _⟩
 |_::r,_,_,_,⟨mid,h1,h2⟩,g=>⟨mid,h1,AscT.app (l:=r) h2 g⟩
theorem AscT.d:∀{l:List Dc} {lo hi:Nat},AscT lo l hi→AscD lo l
 |[],_,_,_=>trivial
 |_::_,_,_,⟨mid,h1,h2⟩=>⟨mid,h1,h2.d⟩
theorem GeD.low {d:Dc} {lo lo' hi:Nat} (h:GeD lo d hi) (hl:lo'≤lo):GeD lo' d hi:=by
 cases d with
 |ty t vs ms=>exact ⟨Nat.le_trans hl h.1,h.2⟩
 |lt r t b=>exact ⟨Nat.le_trans hl h.1,h.2.mono hl⟩
theorem decls_g (h:LexO T e) (n:Nat):∀f l k,k≤e→AscT 0 l (tk T k).frm→Got T (qbk T (qc6 T n) f l k) (fun l' _=>AscD 0 l')
 |0,l,k,hk,hl=>hl.d
 |f+1,l,k,hk,hl=>by
  unfold qbk
  split
  ·refine (decl_g h n hk).bnd ?_
   rintro d k1 ⟨a1,a2,a3⟩
   exact decls_g h n f _ k1 a3 (hl.app fun lo' q=>a1.low q)
  ·exact hl.d
end
theorem readP_asc {s:BA} {l:List Dc} (h:qc1 s=.ok l):AscD 0 l:=by
 have hs:¬400<s.size:=fun q=>by simp [qc1,q] at h
 have hL:=lex_asc s (by omega)
 have h1:=(decls_g hL (Pu.toks s 0).length (Pu.toks s 0).length [] 0 (Nat.zero_le _) (Nat.zero_le _)).bnd (f:=endP (Pu.toks s 0)) (R:=fun l' _=>AscD 0 l') (by
  intro l' k' a1
  unfold endP
  split
  ·exact a1
  ·exact qbw)
 unfold qc1 at h
 rw [if_neg hs] at h
 revert h1 h
 cases bnd (qbk (Pu.toks s 0) (qc6 (Pu.toks s 0) (Pu.toks s 0).length) (Pu.toks s 0).length []) (endP (Pu.toks s 0)) 0 with
 |error f=>intro h;cases h
 |ok p=>intro h h1;cases h;exact h1
theorem scope_same {s:BA} {l:List Dc} (h:qc1 s=.ok l):(ckDs up1 l se0).f=(ckDs up2 l se0).f:=ckDs_same l (readP_asc h) (Or.inl rfl)
end
end Go.Proofs.YtoceemjbcgmojaaGreatDoor

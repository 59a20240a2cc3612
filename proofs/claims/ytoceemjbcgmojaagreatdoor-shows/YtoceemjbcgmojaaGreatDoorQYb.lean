import Derived.Test.YtoceemjbcgmojaaGreatDoorQXs
import Derived.Test.YtoceemjbcgmojaaGreatDoorQPq
set_option linter.all false
set_option maxRecDepth 100000
set_option maxHeartbeats 2000000
namespace Go.Proofs.YtoceemjbcgmojaaGreatDoor
section
open Go Go.RowKit Go.ChangeMaps
section
variable {w:World}
theorem caughtP_C(b:Nat)(hB:Bx w b zF)(f:Fl):
 CallsD Tryz.prog 106 #[.pointer (some ⟨b,0,none⟩)] (.panicking [{v:=guV f,recovered:=false}]) w fun e u' w'=>
  e=.returned (.tuple #[])/\u'=.panicking [{v:=guV f,recovered:=true}]/\Bx w' b #[.int .i64 (f.kind:Int),.int .i64 (f.frm:Int),.int .i64 (f.to:Int)]/\Below b w w':=by
 have hta:=asGiveUp
 have B0:=ai hB
 have hnot:∀(x:Bool)(w:World),(Op.unary .not (.bool x)).run Tryz.prog w=.ok (.bool (!x)) w:=fun _ _=>rfl
 obtain⟨c,ff,z⟩:=hB
 refine callsD_of_wpS Tryz.func106 rfl fun c₀ cs hu=>?_
 apply wpS_seq
 apply wpS_region
 simp[wpOpsS,go_sem,recoverD,hu,Tryz.ntmps106,Exit.thenS]
 rw[show(#[Value.pointer (some ⟨b,0,none⟩)]++((Array.replicate 16 undef).setIfInBounds 3 (guV f)).setIfInBounds 0 (guV f))=#[.pointer (some ⟨b,0,none⟩),guV f,undef,undef,guV f,undef,undef,undef,undef,undef,undef,undef,undef,undef,undef,undef,undef]from rfl]
 obtain⟨CS,hCS⟩:∃CS:List Frame,CS=({fn:=c₀.fn,tmps:=c₀.tmps,todo:=c₀.todo,defers:=c₀.defers,mode:=FrameMode.panicking [{v:=guV f,recovered:=true}],kind:=c₀.kind,roundOf:=c₀.roundOf}::cs):=⟨_,rfl⟩
 rw[<-hCS]
 have HCS:=ai hCS
 refine wpS_of_wp ?_
 clear hu hCS
 go_wp2_with fail
 refine⟨rfl,_,uh HCS,.tuple #[],by simp[results,Tryz.results106,go_sem],rfl,rfl,?_,?_⟩
 .exact(((uh B0).set3' rfl _ _ _).alloc _)
 .exact((((Below.refl b w).setCell (p:=⟨b,0,none⟩) (br _) _).setCell (p:=⟨b,1,none⟩) (br _) _).setCell (p:=⟨b,2,none⟩) (br _) _).alloc (by simp[World.setCell];omega) _
theorem idleP_C(b:Nat):
 CallsD Tryz.prog 106 #[.pointer (some ⟨b,0,none⟩)] .returning w fun e u' w'=>
  e=.returned (.tuple #[])/\u'=.returning/\w'=w:=by
 refine callsD_of_wpS Tryz.func106 rfl fun c₀ cs hu=>?_
 apply wpS_seq
 apply wpS_region
 simp[wpOpsS,go_sem,recoverD,hu,Tryz.ntmps106,Exit.thenS]
 rw[show(#[Value.pointer (some ⟨b,0,none⟩)]++((Array.replicate 16 undef).setIfInBounds 3 Value.nilIface).setIfInBounds 0 Value.nilIface)=#[.pointer (some ⟨b,0,none⟩),.nilIface,undef,undef,.nilIface,undef,undef,undef,undef,undef,undef,undef,undef,undef,undef,undef,undef]from rfl]
 have HCS:Hid (c₀::cs={c₀ with mode:=.returning}::cs):=ai (by cases c₀;simp at hu;subst hu;rfl)
 refine wpS_of_wp ?_
 clear hu
 go_wp2_with fail
 exact⟨rfl,_,uh HCS,.tuple #[],by simp[results,Tryz.results106,go_sem],rfl,rfl,rfl⟩
end
theorem stall_endP(T:List Pu.Tok)(l:List Dc):qbm T (endP T l):=fun k h=>by unfold endP;rw[if_neg (by omega)];rfl
theorem readP_err{s:BA}(hs:¬400<s.size){f:Fl}(h:fin (Pu.toks s 0) (qbr (Pu.toks s 0) (qdz (Pu.toks s 0) (Pu.toks s 0).length) (Pu.toks s 0).length [] 0)=.error f):qcq s=.error f:=by
 unfold qcq
 rw[if_neg hs]
 have:=qax h (fun l=>stall_endP (Pu.toks s 0) l)
 unfold fin at this
 split at this
 .rename_i e;cases this;rw[e]
 .rename_i a k e
  split at this
  .rename_i h6
   exfalso
   obtain⟨l,j,_,h2⟩:=qad e
   unfold endP at h2
   split at h2
   .cases h2;omega
   .cases h2
  .cases this
theorem readP_ok{s:BA}(hs:¬400<s.size){l:List Dc}{k:Nat}(h:fin (Pu.toks s 0) (qbr (Pu.toks s 0) (qdz (Pu.toks s 0) (Pu.toks s 0).length) (Pu.toks s 0).length [] 0)=.ok (l,k)):qcq s=if(tk (Pu.toks s 0) k).kind=7 then .ok l else .error (flOf (tk (Pu.toks s 0) k)):=by
 unfold qcq
 rw[if_neg hs,qae h]
 unfold endP
 by_cases h7:(tk (Pu.toks s 0) k).kind=7
 .simp[h7]
 .simp[h7]
def ProgPost(s:BA)(w:World)(e:Ending)(w':World):Prop:=
 ∃u f,e=.returned (.tuple #[.agg #[u],flV f])/\Below w.heap.size w w'/\match qcq s with
  |.error f'=>f=f'/\u=.slice none 0 0|.ok l=>f=noFl/\RowV QD 1 w' (fun b=>w.heap.size<=b) l u
section
variable {w:World}
abbrev zPg:Array Value:=#[.slice none 0 0]
theorem wholeP_long(s:BA)(hs:400<s.size):Calls Tryz.prog 49 #[.string s,.func (.func 50) #[] #[]] w (ProgPost s w):=by
 have h1:(400:Int)<(s.size:Int):=by omega
 have hp:Hid (qcq s=.error ⟨1,0,0⟩):=by show _=_;simp[qcq,hs]
 have B0:=(Bx.new w zPg 49).alloc (.cells zF 34)
 have F0:Bx ((w.alloc (.cells zPg 49)).alloc (.cells zF 34)) (w.heap.size+1) zF:=by have:=Bx.new (w.alloc (.cells zPg 49)) zF 34;simpa using this
 obtain⟨c,f,z⟩:=B0
 obtain⟨c',f',z'⟩:=F0
 go_enter_defers Tryz.func49,Tryz.ntmps49
 go_wp2_with fail
 simp[bodyPostD,Leaves,settle,results,Tryz.results49,go_sem]
 refine⟨_,⟨1,0,0⟩,rfl,(bw _).alloc (by simp) _,?_⟩
 rw[uh hp]
 exact⟨rfl,rfl⟩
theorem wholeP_C(h:Laid w)(s:BA)(hs:¬400<s.size)(hT:(Pu.toks s 0).length<=1001):Calls Tryz.prog 49 #[.string s,.func (.func 50) #[] #[]] w (ProgPost s w):=by
 have h1:decide ((400:Int)<(s.size:Int))=false:=by simp;omega
 have hmf:∀(fn:Fn)(first cap:Array Value)(w:World),(Instr.makeFunc fn first cap).run Tryz.prog w=.ok (.func fn first cap) w:=fun _ _ _ _=>rfl
 have hs':s.size<=1000:=by omega
 have hT0:0<(Pu.toks s 0).length:=by
  rw[toks_next s 0 (Nat.zero_le _)];split<;>simp
 have B0:=(Bx.new w zPg 49).alloc (.cells zF 34)
 have F0:Bx ((w.alloc (.cells zPg 49)).alloc (.cells zF 34)) (w.heap.size+1) zF:=by have:=Bx.new (w.alloc (.cells zPg 49)) zF 34;simpa using this
 have hb0:Below w.heap.size w ((w.alloc (.cells zPg 49)).alloc (.cells zF 34)):=(bw _).alloc (by simp) _
 have hz0:((w.alloc (.cells zPg 49)).alloc (.cells zF 34)).heap.size=w.heap.size+2:=by simp
 have HL:=h.bel hb0
 go_enter_defers Tryz.func49,Tryz.ntmps49
 go_wp2_with fail
 refine(newReader_X HL s hs').mono ?_
 intro e w1 hp
 obtain⟨hb1,hp⟩:=hp
 rw[hz0]at hb1 hp
 have hbw1:Below ((w.alloc (.cells zPg 49)).alloc (.cells zF 34)).heap.size ((w.alloc (.cells zPg 49)).alloc (.cells zF 34)) w1:=by rw[hz0];exact hb1
 have B1:=B0.below hbw1
 have F1:=F0.below hbw1
 have HB1:Below w.heap.size w w1:=hb0.trans (hbw1.mono hb0.size)
 have et:=tk_next s 0 hT0
 rw[show qan (Pu.toks s 0) 0=0 from rfl]at et
 have z1:=hb1.size
 rw[hz0]at z1
 rcases hp with⟨h6,rfl,N,sb,m,X1,E1⟩|⟨h6,rfl⟩
 .rw[<-et]at X1 h6
  have S1:SX w1 N (w.heap.size+2) sb m s 0:=⟨by rw[show qan (Pu.toks s 0) 0=0 from rfl];exact X1,E1,hT0,h6⟩
  have HA:=program_X (n:=(Pu.toks s 0).length) hs' hT S1 (by omega)
  have hrb:=S1.z
  clear HL hb0 hbw1 hb1 X1 E1 B0 F0
  go_wp2_with fail
  refine HA.mono ?_
  intro e w2 hp
  cases hA:fin (Pu.toks s 0) (qbr (Pu.toks s 0) (qdz (Pu.toks s 0) (Pu.toks s 0).length) (Pu.toks s 0).length [] 0)with
  |error f=>
   obtain⟨rfl,K2⟩:=hp.bad hA
   have HB2:Below w.heap.size w w2:=K2.low HB1 HB1.size (by omega)
   refine leaves_cons (f:=106) (args:=#[.pointer (some ⟨w.heap.size+1,0,none⟩)]) (by simp) (by simp[go_sem]) ?_
   refine(caughtP_C (w.heap.size+1) (F1.ke' K2 (by omega)) (f)).mono ?_
   rintro e u' w9⟨rfl,rfl,hB,hb⟩
   obtain⟨c9,_,_⟩:=hB
   have P9:=(B1.ke' K2 (by omega)).same hb.size (hb.block w.heap.size (Nat.lt_succ_self _))
   obtain⟨d9,_,_⟩:=P9
   simp[Leaves,settle,results,Tryz.results49,go_sem,c9,d9]
   refine⟨_,f,rfl,HB2.trans (hb.mono (Nat.le_succ _)),?_⟩
   rw[readP_err hs hA]
   exact⟨rfl,rfl⟩
  |ok r=>
  obtain⟨l,k⟩:=r
  obtain⟨v,rfl,K2,S2,u,rfl,RV⟩:=hp.ok hA
  have HB2:Below w.heap.size w w2:=K2.low HB1 HB1.size (by omega)
  have z2:=K2.size
  have hrd:=readP_ok hs hA
  have hk:=S2.lt
  have ho:=qdb s k hk
  have hke:=kind_end ho S2.ok
  have hb3:Below w2.heap.size w2 (w2.alloc (.cells #[u] 49)):=bw _
  have B3:=(B1.ke' K2 (by omega)).below hb3
  have F3:=(F1.ke' K2 (by omega)).below hb3
  have R3:=Bx.new w2 #[u] 49
  have S3:=S2.bel hb3
  have HB3:Below w.heap.size w (w2.alloc (.cells #[u] 49)):=HB2.trans (hb3.mono HB2.size)
  have RV3:RowV QD 1 (w2.alloc (.cells #[u] 49)) (fun b=>w1.heap.size<=b/\b<w2.heap.size) l u:=RV.move qb9 hb3.size (fun b _ z=>hb3.block b z) (fun b p z=>⟨p,z⟩)
  have z3:(w2.alloc (.cells #[u] 49)).heap.size=w2.heap.size+1:=by simp
  obtain⟨va,vc,cs,hu,_,_⟩:=RV
  subst hu
  have HS3:=ai S3
  have HRV3:=ai RV3
  clear hp hA HA B1 F1 S2 hb3 S3 RV3 K2
  by_cases h7:(tk (Pu.toks s 0) k).kind=7
  .have t7:((qaj (tk (Pu.toks s 0) k)).toList==kEnd'.toList)=true:=by rw[show kEnd'.toList=[116,104,101,32,101,110,100]from qab _,hke];simp[h7]
   go_wp2_with fail
   refine(qdx (uh HS3).rd hs' (tk_to s k hk) kEnd' t7).mono ?_
   intro e w3 hp
   obtain⟨rfl,K3,R4⟩:=hp.ok (end_next hk h7)
   have zk:=K3.size
   have B4:=B3.ke' K3 (by omega)
   have F4:=F3.ke' K3 (by omega)
   have R5:=R3.ke' K3 (by omega)
   have HB4:Below w.heap.size w w3:=K3.low HB3 HB3.size (by omega)
   have RV4:=(uh HRV3).move qb9 K3.size (fun b p z=>K3.block b z (by omega)) (fun _ p _=>p)
   have HB4':=ai B4
   have HF4':=ai F4
   have HRV4:=ai RV4
   have HBB:=ai HB4
   clear hp K3 R4 B3 F3 R3 HB3 RV4 HB4
   obtain⟨c3,f3,y3⟩:=R5
   obtain⟨c4,f4,y4⟩:=B4
   obtain⟨c5,f5,y5⟩:=F4
   go_wp2_with fail
   have B6:=((((uh HB4').setS' 0 (.slice va l.length vc) #[.slice va l.length vc] rfl (by simp)).setO'' (b2:=w.heap.size+1) (by omega) 0 (.int .i64 0)).setO'' (b2:=w.heap.size+1) (by omega) 1 (.int .i64 0)).setO'' (b2:=w.heap.size+1) (by omega) 2 (.int .i64 0)
   have F6:=((uh HF4').setO'' (b2:=w.heap.size) (by omega) 0 (.slice va l.length vc)).set3' rfl (.int .i64 0) (.int .i64 0) (.int .i64 0)
   have RV6:=(((((uh HRV4).setC qb9 (b:=w.heap.size) (fun c p=>by omega) 0 (.slice va l.length vc)).setC qb9 (b:=w.heap.size+1) (fun c p=>by omega) 0 (.int .i64 0)).setC qb9 (b:=w.heap.size+1) (fun c p=>by omega) 1 (.int .i64 0)).setC qb9 (b:=w.heap.size+1) (fun c p=>by omega) 2 (.int .i64 0)).move qb9 (br _) (fun _ _ _=>rfl) (P':=fun b=>w.heap.size<=b) (fun b p _=>by omega)
   have HB6:=((((uh HBB).setCell (p:=⟨w.heap.size,0,none⟩) (br _) (.slice va l.length vc)).setCell (p:=⟨w.heap.size+1,0,none⟩) (Nat.le_succ _) (.int .i64 0)).setCell (p:=⟨w.heap.size+1,1,none⟩) (Nat.le_succ _) (.int .i64 0)).setCell (p:=⟨w.heap.size+1,2,none⟩) (Nat.le_succ _) (.int .i64 0)
   refine leaves_cons (f:=106) (args:=#[.pointer (some ⟨w.heap.size+1,0,none⟩)]) (by simp) (by simp[go_sem]) ?_
   refine(idleP_C (w.heap.size+1)).mono ?_
   rintro e u' w9⟨rfl,rfl,rfl⟩
   obtain⟨c7,_,_⟩:=B6
   obtain⟨c8,_,_⟩:=F6
   simp[Leaves,settle,results,Tryz.results49,go_sem,c7,c8]
   refine⟨_,noFl,rfl,HB6,?_⟩
   rw[hrd,if_pos h7]
   exact⟨rfl,RV6⟩
  .have t7:((qaj (tk (Pu.toks s 0) k)).toList==kEnd'.toList)=false:=by rw[show kEnd'.toList=[116,104,101,32,101,110,100]from qab _,hke];simp[h7]
   go_wp2_with fail
   refine(take_no (uh HS3).rd kEnd' t7 (uh HS3).ok).mono ?_
   rintro e w3⟨rfl,K3⟩
   have HB4:Below w.heap.size w w3:=K3.low HB3 HB3.size (by omega)
   rw[if_neg h7]at hrd
   refine leaves_cons (f:=106) (args:=#[.pointer (some ⟨w.heap.size+1,0,none⟩)]) (by simp) (by simp[go_sem]) ?_
   refine(caughtP_C (w.heap.size+1) (F3.ke' K3 (by omega)) (flOf (tk (Pu.toks s 0) k))).mono ?_
   rintro e u' w9⟨rfl,rfl,hB,hb⟩
   obtain⟨c9,_,_⟩:=hB
   have P9:=(B3.ke' K3 (by omega)).same hb.size (hb.block w.heap.size (Nat.lt_succ_self _))
   obtain⟨d9,_,_⟩:=P9
   simp[Leaves,settle,results,Tryz.results49,go_sem,c9,d9]
   refine⟨_,flOf (tk (Pu.toks s 0) k),rfl,HB4.trans (hb.mono (Nat.le_succ _)),?_⟩
   rw[hrd]
   exact⟨rfl,rfl⟩
 .rw[<-et]at h6⊢
  have hst:fin (Pu.toks s 0) (qbr (Pu.toks s 0) (qdz (Pu.toks s 0) (Pu.toks s 0).length) (Pu.toks s 0).length [] 0)=.error (flOf (tk (Pu.toks s 0) 0)):=stall_decls _ _ _ _ 0 h6
  refine leaves_cons (f:=106) (args:=#[.pointer (some ⟨w.heap.size+1,0,none⟩)]) (by simp) (by simp[go_sem]) ?_
  refine(caughtP_C (w.heap.size+1) F1 (flOf (tk (Pu.toks s 0) 0))).mono ?_
  rintro e u' w9⟨rfl,rfl,hB,hb⟩
  obtain⟨c9,_,_⟩:=hB
  have P9:=B1.same hb.size (hb.block w.heap.size (Nat.lt_succ_self _))
  obtain⟨d9,_,_⟩:=P9
  simp[Leaves,settle,results,Tryz.results49,go_sem,c9,d9]
  refine⟨_,flOf (tk (Pu.toks s 0) 0),rfl,HB1.trans (hb.mono (Nat.le_succ _)),?_⟩
  rw[readP_err hs hst]
  exact⟨rfl,rfl⟩
theorem wholeP_any(h:Laid w)(s:BA):Calls Tryz.prog 49 #[.string s,.func (.func 50) #[] #[]] w (ProgPost s w):=by
 by_cases hs:400<s.size
 .exact wholeP_long s hs
 .exact wholeP_C h s hs (by have:=toks_len s 0;omega)
theorem Program_X(h:Laid w)(s:BA):Calls Tryz.prog 24 #[.string s] w (ProgPost s w):=by
 have hb0:Below w.heap.size w ((w.alloc (.cells zPg 49)).alloc (.cells zF 34)):=(bw _).alloc (by simp) _
 have hz0:((w.alloc (.cells zPg 49)).alloc (.cells zF 34)).heap.size=w.heap.size+2:=by simp
 have B0:=ai ((Bx.new w zPg 49).alloc (.cells zF 34))
 have F0:Hid (Bx ((w.alloc (.cells zPg 49)).alloc (.cells zF 34)) (w.heap.size+1) zF):=ai (by have:=Bx.new (w.alloc (.cells zPg 49)) zF 34;simpa using this)
 have HC:=wholeP_any (h.bel hb0) s
 go_enter Tryz.func24,Tryz.ntmps24
 go_wp2_with fail
 refine HC.mono ?_
 rintro e w1⟨u,f,rfl,hb1,hp⟩
 have B1:=(uh B0).below hb1
 have F1:=(uh F0).below hb1
 have B2:=ai ((((B1.setS' 0 u #[u] rfl (by simp)).setO'' (b2:=w.heap.size+1) (by omega) 0 (.int .i64 (f.kind:Int))).setO'' (b2:=w.heap.size+1) (by omega) 1 (.int .i64 (f.frm:Int))).setO'' (b2:=w.heap.size+1) (by omega) 2 (.int .i64 (f.to:Int)))
 have F2:=ai ((F1.setO'' (b2:=w.heap.size) (by omega) 0 u).set3' rfl (.int .i64 (f.kind:Int)) (.int .i64 (f.frm:Int)) (.int .i64 (f.to:Int)))
 have HB2:=ai (((((hb0.trans (hb1.mono hb0.size)).setCell (p:=⟨w.heap.size,0,none⟩) (br _) u).setCell (p:=⟨w.heap.size+1,0,none⟩) (Nat.le_succ _) (.int .i64 (f.kind:Int))).setCell (p:=⟨w.heap.size+1,1,none⟩) (Nat.le_succ _) (.int .i64 (f.frm:Int))).setCell (p:=⟨w.heap.size+1,2,none⟩) (Nat.le_succ _) (.int .i64 (f.to:Int)))
 obtain⟨va,vc,n,hu⟩:∃va vc n,u=.slice va n vc:=by
  cases hr:qcq s with
  |error f'=>rw[hr]at hp;exact⟨_,_,_,hp.2⟩|ok l=>rw[hr]at hp;obtain⟨va,vc,cs,e,_⟩:=hp.2;exact⟨_,_,_,e⟩
 subst hu
 obtain⟨c1,f1,z1⟩:=B1
 obtain⟨c2,f2,z2⟩:=F1
 have Hp:=ai hp
 unfold flV
 clear hp HC
 go_wp2_with fail
 obtain⟨c3,f3,z3⟩:=uh B2
 obtain⟨c4,f4,z4⟩:=uh F2
 refine bodyPost_ret (v:=.tuple #[.agg #[.slice va n vc],flV f]) (by simp[results,Tryz.results24,go_sem,flV,c3,c4]) rfl ⟨.slice va n vc,f,rfl,uh HB2,?_⟩
 have hp:=uh Hp
 cases hr:qcq s with
 |error f'=>rw[hr]at hp;exact hp|ok l=>
  rw[hr]at hp
  rw[hz0]at hp
  have q:∀c,w.heap.size+2<=c->c≠w.heap.size:=fun c h=>by omega
  have q':∀c,w.heap.size+2<=c->c≠w.heap.size+1:=fun c h=>by omega
  exact⟨hp.1,((((hp.2.setC qb9 (b:=w.heap.size) q 0 _).setC qb9 (b:=w.heap.size+1) q' 0 _).setC qb9 (b:=w.heap.size+1) q' 1 _).setC qb9 (b:=w.heap.size+1) q' 2 _).move qb9 (br _) (fun _ _ _=>rfl) (fun b p _=>by have p':w.heap.size+2<=b:=p;show w.heap.size<=b;omega)⟩
end
end
end Go.Proofs.YtoceemjbcgmojaaGreatDoor

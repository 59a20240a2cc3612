import Derived.Test.YtnhnocmpodaggaaGreatDoorQSh0
import Derived.Test.YtnhnocmpodaggaaGreatDoorQSj
import Derived.Test.YtnhnocmpodaggaaGreatDoorQTm
set_option linter.all false
set_option maxRecDepth 100000
set_option maxHeartbeats 8000000
namespace Go.Proofs.YtnhnocmpodaggaaGreatDoor
section
open Go Go.RowKit
section
variable {rb g cap:Nat} {T:List Pu.Tok} {pat expr:M Nd}
def AR (rb g cap:Nat) (T:List Pu.Tok) (pat expr:M Nd) (w0:World) (bx:Nat) (S3:St) (x0:Nd) (gk:Nat) (lv mv:Value) (wr:World):Prop:=
 ∃(σr:St) (xs:List NV) (L:List Nd) (P:Nat→Prop) (mo:Bool) (va:Option Addr) (vc:Nat),mv=.bool mo∧lv=.slice va xs.length vc∧MX rb g cap T w0 bx σr lv xs L P wr∧1≤xs.length∧xs.length≤4000∧
  ((∃k3 k' f,S3=.ok k3∧k3≤k'∧σr=.ok k'∧mo=true∧Hid (gk=T.length-k'+1)∧T.length≤k'+f∧L.length=xs.length∧xs.length≤2*k'+1∧Hid (qcz T pat expr T.length [x0] k3=qcz T pat expr f L k'))∨
   (Hid (σr=nx S3 (qcz T pat expr T.length []))∧(mo=false∨∃fl,σr=.error fl)∧∀k',σr=.ok k'→∃k3,S3=.ok k3∧L.length=xs.length∧qcz T pat expr T.length [x0] k3=.ok (L,k')))
def valOf (σ:St) (m:M Nd):Nd:=match σ with
 |.error _=>.mk 0 ⟨#[]⟩ 0 [] 0 0 0
 |.ok k=>match m k with
  |.ok (a,_)=>a
  |.error _=>.mk 0 ⟨#[]⟩ 0 [] 0 0 0
theorem valOf_ok {σ:St} {m:M Nd} {k k':Nat} {a:Nd} (h:σ=.ok k) (hm:m k=.ok (a,k')):valOf σ m=a:=by subst h;simp [valOf,hm]
theorem mlen {w:World} {σ:St} (h:SS w rb g cap T σ):T.length≤1001:=by
 obtain ⟨k,f,h',_⟩:=h.any
 exact h'.hT
theorem mlt {w:World} {k:Nat} (h:SS w rb g cap T (.ok k)):k<T.length:=by
 have h':RS w rb g cap T k noFl:=h
 exact h'.hk
theorem match_C {n:Nat} (HP:NodeC rb g cap T 251 #[.pointer (some ⟨rb,0,none⟩)] pat n) (HE:NodeC rb g cap T 108 #[.pointer (some ⟨rb,0,none⟩)] expr n) (hmp:Mono pat) (hme:Mono expr):NodeC rb g cap T 176 #[.pointer (some ⟨rb,0,none⟩)] (qel T pat expr) (n+1):=by
 intro w σ h hf
 have hr:=h.hr
 have hg:=h.hg
 have hT:=mlen h
 have HP':=ai HP
 have HE':=ai HE
 have hf':=ai hf
 have hmP:=ai hmp
 have hmE:=ai hme
 have ff:=qd4
 obtain ⟨i0,hi0,hz0,hz1,hz2⟩:=info_parts nodeInfo
 rw [match_nx]
 have H0:=ai (h.alloc (.cells qat 62))
 have K0:=ai ((Ke.refl rb w).alloc (.cells qat 62))
 have B0:=ai (Bx.new w qat 62)
 clear h HP HE hf hmp hme
 go_enter Tryz.func176,Tryz.ntmps176
 go_wp2_with fail
 refine (qb5 (uh H0)).mono ?_
 rintro e w1 ⟨t,rfl,hb,ht⟩
 have Ht:=ai ht
 have H1:=ai ((uh H0).below hb)
 have K1:=ai ((uh K0).trans (Ke.of hb))
 have B1:=ai ((uh B0).below hb)
 have z1:=hb.size
 simp at z1
 clear ht hb H0 K0 B0
 unfold tokV
 go_wp2_with fail
 refine (qch (uh H1) qbc).mono ?_
 rintro e w2 ⟨rfl,hb,hS⟩
 have H2:=ai hS
 have K2:=ai ((uh K1).trans hb)
 have B2:=ai ((uh B1).ke hb (by omega))
 have z2:=hb.size
 clear hS hb H1 K1 B1
 go_wp2_with fail
 refine (uh HE' _ _ (uh H2) (by intro j hj;obtain ⟨k1,_,e1,m1⟩:=qbf hj;have:=uh hf' k1 e1;have:=qah _ _ _ _ m1;omega)).mono ?_
 rintro e w3 ⟨x,rfl,hb,hS,hN⟩
 have z3:=hb.size
 have hb2:Below w3.heap.size w3 ((w3.alloc (.cells x.l.toArray 62)).alloc (.cells x.l.toArray 62)):=(bw _).alloc (by simp) _
 obtain ⟨L0,HL0,MX3⟩:∃L0,Hid (∀k2,nx (nx σ (qag T qbc)) expr=.ok k2→L0=[valOf (nx σ (qag T qbc)) expr])∧Hid (MX rb g cap T w (w3.heap.size+1) (nx (nx σ (qag T qbc)) expr) (.slice (some ⟨w3.heap.size+1,0,none⟩) 1 1) [x] L0 (fun b=>w2.heap.size≤b∧b<w3.heap.size) ((w3.alloc (.cells x.l.toArray 62)).alloc (.cells x.l.toArray 62))):=by
  have core:∀L0,(∀i (h:i<L0.length) (h2:i<[x].length),NR ((w3.alloc (.cells x.l.toArray 62)).alloc (.cells x.l.toArray 62)) (fun b=>w2.heap.size≤b∧b<w3.heap.size) L0[i] [x][i])→MX rb g cap T w (w3.heap.size+1) (nx (nx σ (qag T qbc)) expr) (.slice (some ⟨w3.heap.size+1,0,none⟩) 1 1) [x] L0 (fun b=>w2.heap.size≤b∧b<w3.heap.size) ((w3.alloc (.cells x.l.toArray 62)).alloc (.cells x.l.toArray 62)):=fun L0 nr=>by
   refine ⟨hS.below hb2,((uh K2).trans hb).trans (Ke.of hb2),by simp,((uh B2).ke hb (by omega)).below hb2,?_,?_,?_,nr⟩
   ·refine ⟨by simp [flat,NV.l],Or.inr ⟨w3.heap.size+1,1,x.l.toArray,rfl,br _,?_,by simp,by unfold maxLen;omega,by simp [NV.l],by simp [flat,NV.l]⟩⟩
    have:=heap_alloc_new (w3.alloc (.cells x.l.toArray 62)) (.cells x.l.toArray 62)
    simpa using this
   ·intro b p
    refine ⟨by omega,?_⟩
    have:=hb2.size
    omega
   ·intro b q p hq
    simp [Value.ownBlock] at hq
    omega
  cases hs2:nx (nx σ (qag T qbc)) expr with
  |error fl=>
   rw [hs2] at core
   exact ⟨[],ai (fun k2 h=>by cases h),ai (core [] (fun i hi=>absurd hi (Nat.not_lt_zero _)))⟩
  |ok k2=>
   obtain ⟨k1,a,e1,m1⟩:=qbf hs2
   have hn:=hN k1 a k2 e1 m1
   rw [hs2] at core
   refine ⟨[valOf (nx σ (qag T qbc)) expr],ai (fun _ _=>rfl),ai (core _ (fun i hi h2=>?_))⟩
   have hi0:i=0:=by simpa using hi
   subst hi0
   simp only [List.getElem_cons_zero,valOf_ok e1 m1]
   exact (hn.rng w2.heap.size (fun b hb=>hb)).bel hb2
 clear hS hb hN H2 K2 B2 hb2
 unfold NV.v
 go_wp2_with fail
 refine (qch (uh MX3).ss kWith).mono ?_
 rintro e w4 ⟨rfl,hb,hS⟩
 have MX4:=ai ((uh MX3).kee hr (by omega) hb hS)
 clear hS hb MX3
 go_wp2_with fail
 obtain ⟨S3,HS3⟩:∃S,Hid (S=nx (nx (nx σ (qag T qbc)) expr) (qag T kWith)):=⟨_,ai rfl⟩
 rw [←uh HS3] at MX4
 obtain ⟨x0,HX0⟩:∃x,Hid (x=valOf (nx σ (qag T qbc)) expr):=⟨_,ai rfl⟩
 obtain ⟨gk0,HG0⟩:∃n,Hid (∀k3,S3=.ok k3→n=T.length-k3+1):=by
  cases S3 with
  |error fl=>exact ⟨0,ai (fun _ h=>by cases h)⟩
  |ok k3=>exact ⟨T.length-k3+1,ai (fun _ h=>by cases h;rfl)⟩
 go_loopg [5,6] gk0 (fun gk lv mv wr=>AR rb g cap T pat expr w (w3.heap.size+1) S3 x0 gk lv mv wr)
 case atStart=>
  refine ⟨S3,[x],L0,_,true,some ⟨w3.heap.size+1,0,none⟩,1,rfl,rfl,uh MX4,by simp,by simp,?_⟩
  cases S3 with
  |error fl=>exact Or.inr ⟨ai rfl,Or.inr ⟨fl,rfl⟩,fun k' q=>by cases q⟩
  |ok k3=>
   refine Or.inl ⟨k3,k3,T.length,rfl,br _,rfl,rfl,ai (uh HG0 k3 rfl),by omega,?_,by simp,?_⟩
   ·obtain ⟨k2,a,e2,_⟩:=qbf (uh HS3).symm
    rw [uh HL0 k2 e2]
    rfl
   ·obtain ⟨k2,a,e2,_⟩:=qbf (uh HS3).symm
    rw [uh HL0 k2 e2,uh HX0]
    exact ai rfl
 case round=>
  clear MX4 HL0 HG0
  obtain ⟨σr,xs,L,P,mo,va,vc,rfl,rfl,hMX,hx1,hx2,hk⟩:=hrel
  have MXr:=ai hMX
  clear hMX
  rcases hk with ⟨k3,k',f,hS3,hk3,rfl,rfl,hgk,hfu,hLl,hxk,hA⟩|⟨HSr,hmo,HLr⟩
  ·have HA:=ai (uh hA)
   have hkT:=mlt (uh MXr).ss
   have hf3:T.length≤k3+n:=by
    have e3:=uh HS3
    rw [hS3] at e3
    obtain ⟨k2,_,e2,m2⟩:=qbf e3.symm
    obtain ⟨k1,_,e1,m1⟩:=qbf e2
    obtain ⟨k0,_,e0,m0⟩:=qbf e1
    have:=uh hf' k0 e0
    have:=qah _ _ _ _ m2
    have:=qah _ _ _ _ m0
    have:=uh hmE _ _ _ m1
    omega
   have HS3':=ai hS3
   clear hS3 hA
   go_wp2_with fail
   refine (ok_S (uh MXr).ss).mono ?_
   rintro e w9 ⟨rfl,rfl⟩
   go_wp2_with fail
   refine (uh HP' _ _ (uh MXr).ss (by intro j hj;cases hj;omega)).mono ?_
   rintro e w5 ⟨y,rfl,hb,hS,hN⟩
   have z5:=hb.size
   have hb5:Below w5.heap.size w5 (w5.alloc (.cells y.l.toArray 62)):=bw _
   have MX5:=ai (((uh MXr).kee hr (by omega) hb hS).bel hb5)
   have HNy:=ai (fun a k5 (q:pat k'=.ok (a,k5))=>((hN k' a k5 rfl q).rng w9.heap.size (fun b hb=>hb)).bel hb5)
   have hrow:=ai (fun q hq=>(World.ownsRow.lt (uh MXr).ow q hq).2)
   have BY:=ai (Bx.new w5 #[.int .i64 y.k,.string y.s,.int .i64 y.n,.slice y.la y.ll y.lc,.int .i64 y.f,.int .i64 y.t,.int .i64 y.a] 62)
   have zr:=(uh MXr).zz
   clear hb hS hN MXr hb5
   unfold NV.v
   go_wp2_with fail
   refine (qch (uh MX5).ss kArrow).mono ?_
   rintro e w6 ⟨rfl,hb,hS⟩
   have z6:=hb.size
   simp at z6
   have MX6:=ai ((uh MX5).kee hr (by omega) hb hS)
   have HNy:=ai (fun a k5 (q:pat k'=.ok (a,k5))=>(uh HNy a k5 q).ke hb (fun b p=>by omega))
   have BY:=ai ((uh BY).ke hb (by omega))
   clear hb hS MX5
   go_wp2_with fail
   refine (uh HE' _ _ (uh MX6).ss (by intro j hj;obtain ⟨j1,_,e1,m1⟩:=qbf hj;obtain ⟨j0,_,e0,m0⟩:=qbf e1;cases e0;have:=qah _ _ _ _ m1;have:=uh hmP _ _ _ m0;omega)).mono ?_
   rintro e w7 ⟨z,rfl,hb,hS,hN⟩
   have z7:=hb.size
   obtain ⟨σ7,HS7⟩:∃s,Hid (s=nx (nx (nx (.ok k') pat) (qag T kArrow)) expr):=⟨_,ai rfl⟩
   rw [←uh HS7] at hS
   have hb7:Below w7.heap.size w7 ((w7.alloc (.cells z.l.toArray 62)).alloc (.cells (y.l++z.l).toArray 62)):=(bw _).alloc (by simp) _
   have MX7:=ai (((uh MX6).kee hr (by omega) hb hS).bel hb7)
   have HNy:=ai (fun a k5 (q:pat k'=.ok (a,k5))=>(((uh HNy a k5 q).ke hb (fun b p=>by omega)).bel hb7).move (Q:=fun b=>w9.heap.size≤b∧b<((w7.alloc (.cells z.l.toArray 62)).alloc (.cells (y.l++z.l).toArray 62)).heap.size) (br _) (fun _ _ _=>rfl) (fun b p hz=>⟨p.1,hz⟩))
   have HNz:=ai (fun j a j' (q:nx (nx (.ok k') pat) (qag T kArrow)=.ok j) (r:expr j=.ok (a,j'))=>(((hN j a j' q r).rng w6.heap.size (fun b hb=>hb)).bel hb7).move (Q:=fun b=>w9.heap.size≤b∧b<((w7.alloc (.cells z.l.toArray 62)).alloc (.cells (y.l++z.l).toArray 62)).heap.size) (br _) (fun _ _ _=>rfl) (fun b p hz=>⟨by omega,hz⟩))
   obtain ⟨cy,fy,zy⟩:=((uh BY).ke hb (by omega)).alloc (.cells z.l.toArray 62)
   clear hb hS hN MX6 hb7
   unfold NV.v
   simp only [NV.l] at cy fy zy
   go_wp2_with (at_builtin;go_must (refine wpList_append_own_at _ rfl (.tmp 31) (.tmp 34) 60 rfl (w3.heap.size+1) 62 i0 _ 7 80 qfh hi0 hz0 hz1 hz2 rfl (by decide) _ _ _ rfl (uh MX7).ow ⟨w7.heap.size+1,0,none⟩ 2 2 (y.l++z.l) rfl rfl (qbw _ _ _ _ (by simp)) (by intro u hu;simp [NV.l] at hu;rcases hu with rfl|rfl|rfl|rfl|rfl|rfl|rfl|rfl|rfl|rfl|rfl|rfl|rfl|rfl<;>rfl) (by unfold maxLen;omega) (by omega) (uh MX7).zz ?_);intro v3 w8 hown3 hg3 hnil3 hat3)
   obtain ⟨q3,c3,rfl⟩:=qb6 hown3 (by omega)
   obtain ⟨f2,rfl⟩:∃f2,f=f2+1:=⟨f-1,by omega⟩
   have e1:(xs++[y,z]).length=xs.length+2:=by simp
   have E1:=ai e1
   clear e1 cy fy zy hnil3
   cases σ7 with
   |error fl=>
    have MX8:=ai ((uh MX7).growE hr hg (by omega) hg3 hown3)
    clear MX7 hg3 hown3 hat3
    refine (is_S (uh MX8).ss kBar).mono ?_
    rintro e w10 ⟨rfl,hb⟩
    have MX9:=ai ((uh MX8).bel hb)
    clear MX8 hb
    have hbar:isS T (.error fl) kBar=false:=rfl
    go_wp2_with fail
    go_roundg 0
    case measure=>rw [uh hgk];omega
    case rel=>
     refine ⟨.error fl,xs++[y,z],[],fun _=>False,false,some ⟨q3,0,none⟩,c3,rfl,by rw [uh E1],uh MX9,by rw [uh E1];omega,by rw [uh E1];omega,Or.inr ⟨ai ?_,Or.inl rfl,fun _ q=>by cases q⟩⟩
     rw [uh HS3',arms_nx _ _ [] [x0]]
     exact (qbn ((uh HA).trans (arms_err (uh HS7).symm))).symm
   |ok k7=>
    obtain ⟨p,k5,ee,k6,mp,m6,hk6,me,hstep⟩:=arms_ok (f:=f2) (L:=L) (uh HS7).symm
    have hk5:=uh hmP _ _ _ mp
    have hk7:=uh hmE _ _ _ me
    have MX8:=ai ((uh MX7).grow hr hg (by omega) hg3 hown3 hat3 (lo:=w9.heap.size) (by omega) (uh hrow) hLl (uh HNy p k5 mp) (uh HNz k6 ee k7 m6 me))
    have HST:=ai hstep
    clear MX7 hg3 hown3 hat3 HNy HNz mp m6 me hstep
    refine (is_S (uh MX8).ss kBar).mono ?_
    rintro e w10 ⟨rfl,hb⟩
    have MX9:=ai ((uh MX8).bel hb)
    clear MX8 hb
    have hk7T:=mlt (uh MX9).ss
    cases hbar:isT (tk T k7) kBar with
    |true=>
     have hbs:isS T (.ok k7) kBar=true:=hbar
     have hkind:(tk T k7).kind≠7:=by
      intro q
      unfold isT at hbar
      rw [q] at hbar
      simp at hbar
     have HBR:=ai hbar
     clear hbar
     go_wp2_with fail
     refine (qcp (uh MX9).ss hkind).mono ?_
     rintro e w11 ⟨rfl,hb,hS⟩
     have MX10:=ai ((uh MX9).kee hr (by omega) hb hS)
     clear MX9 hb hS
     go_wp2_with fail
     go_roundg (T.length-(k7+1)+1)
     case measure=>rw [uh hgk];omega
     case rel=>
      refine ⟨.ok (k7+1),xs++[y,z],L++[p,ee],_,true,some ⟨q3,0,none⟩,c3,rfl,by rw [uh E1],uh MX10,by rw [uh E1];omega,by rw [uh E1];omega,Or.inl ⟨k3,k7+1,f2,uh HS3',by omega,rfl,rfl,ai rfl,by omega,by rw [uh E1];simp;omega,by rw [uh E1];omega,ai ?_⟩⟩
      rw [uh HA,uh HST,if_pos (uh HBR)]
    |false=>
     have hbs:isS T (.ok k7) kBar=false:=hbar
     have HBR:=ai hbar
     clear hbar
     go_wp2_with fail
     go_roundg 0
     case measure=>rw [uh hgk];omega
     case rel=>
      have hA2:qcz T pat expr T.length [x0] k3=.ok (L++[p,ee],k7):=by rw [uh HA,uh HST,if_neg (by rw [uh HBR];simp)]
      refine ⟨.ok k7,xs++[y,z],L++[p,ee],_,false,some ⟨q3,0,none⟩,c3,rfl,by rw [uh E1],uh MX9,by rw [uh E1];omega,by rw [uh E1];omega,Or.inr ⟨ai ?_,Or.inl rfl,fun k8 q=>?_⟩⟩
      ·rw [uh HS3',arms_nx _ _ [] [x0]]
       exact (qas hA2).symm
      ·cases q
       exact ⟨k3,uh HS3',by rw [uh E1];simp;omega,hA2⟩
  ·by_cases hm:mo=false
   ·subst hm
    clear hmo
    go_wp2_with fail
    refine (qch (uh MXr).ss kEnd).mono ?_
    rintro e w5 ⟨rfl,hb5,hS5⟩
    have MX5:=ai ((uh MXr).kee hr (by omega) hb5 hS5)
    clear hb5 hS5 MXr
    go_wp2_with fail
    refine (qd1 (uh MX5).ss).mono ?_
    rintro e w6 ⟨m,rfl,hb6,hm6⟩
    have MX6:=ai ((uh MX5).bel hb6)
    have HM6:=ai hm6
    clear hb6 hm6 MX5
    obtain ⟨cr,fr,zr⟩:=(uh MX6).rs
    go_wp2_with fail
    have BF:=(uh MX6).rs.set7 rfl (.int .i64 13) (.string ⟨#[]⟩) (.int .i64 0) (.slice va xs.length vc) (.int .i64 (t.frm:Int)) (.int .i64 (m:Int)) (.int .i64 (t.frm:Int))
    obtain ⟨cF,fF,zF⟩:=BF
    refine bodyPost_ret (v:=NV.v ⟨13,⟨#[]⟩,0,va,xs.length,vc,(t.frm:Int),(m:Int),(t.frm:Int)⟩) (by simp [results,Tryz.results176,go_sem,cF,NV.v];try rfl) rfl ⟨_,rfl,(uh MX6).ke.set7 (br _) _ _ _ _ _ _ _,?_,?_⟩
    ·rw [←uh HS3,←uh HSr]
     exact (uh MX6).ss.set7 (by omega) (by omega) _ _ _ _ _ _ _
    ·intro k a k' hk hq
     unfold qel at hq
     obtain ⟨_,k1,q1,r1⟩:=qad hq
     obtain ⟨x1,k2,q2,r2⟩:=qad r1
     obtain ⟨_,k3,q3,r3⟩:=qad r2
     obtain ⟨l,k4,q4,r4⟩:=qad r3
     obtain ⟨_,k5,q5,r5⟩:=qad r4
     cases r5
     have s1:nx σ (qag T qbc)=.ok k1:=by rw [hk];exact qas q1
     have s2:nx (nx σ (qag T qbc)) expr=.ok k2:=by rw [s1];exact qas q2
     have s3:nx (nx (nx σ (qag T qbc)) expr) (qag T kWith)=.ok k3:=by rw [s2];exact qas q3
     have x0e:valOf (nx σ (qag T qbc)) expr=x1:=valOf_ok s1 q2
     have s4:σr=.ok k4:=by
      rw [uh HSr,uh HS3,s3,arms_nx _ _ [] [x1]]
      exact qas q4
     obtain ⟨k3',e3,hLx,hA⟩:=HLr k4 s4
     rw [uh HS3,s3] at e3
     cases e3
     rw [uh HX0,x0e,q4] at hA
     cases hA
     have ht:t=tk T k:=uh Ht k hk
     have hm:m=qan T k':=uh HM6 k' (by rw [s4];exact qas q5)
     subst ht
     subst hm
     exact (uh MX6).node (by omega) hLx hx1 13 kNo 0 _ _ _ _ _ _ _ _ _ _
   ·have hm1:mo=true:=by cases mo<;>simp_all
    obtain ⟨fl,hfl⟩:=hmo.resolve_left hm
    have hok:okS σr=false:=by rw [hfl];rfl
    subst hm1
    clear hfl hmo hm
    go_wp2_with fail
    refine (ok_S (uh MXr).ss).mono ?_
    rintro e w9 ⟨rfl,rfl⟩
    go_wp2_with fail
    refine (qch (uh MXr).ss kEnd).mono ?_
    rintro e w5 ⟨rfl,hb5,hS5⟩
    have MX5:=ai ((uh MXr).kee hr (by omega) hb5 hS5)
    clear hb5 hS5 MXr
    go_wp2_with fail
    refine (qd1 (uh MX5).ss).mono ?_
    rintro e w6 ⟨m,rfl,hb6,hm6⟩
    have MX6:=ai ((uh MX5).bel hb6)
    have HM6:=ai hm6
    clear hb6 hm6 MX5
    obtain ⟨cr,fr,zr⟩:=(uh MX6).rs
    go_wp2_with fail
    have BF:=(uh MX6).rs.set7 rfl (.int .i64 13) (.string ⟨#[]⟩) (.int .i64 0) (.slice va xs.length vc) (.int .i64 (t.frm:Int)) (.int .i64 (m:Int)) (.int .i64 (t.frm:Int))
    obtain ⟨cF,fF,zF⟩:=BF
    refine bodyPost_ret (v:=NV.v ⟨13,⟨#[]⟩,0,va,xs.length,vc,(t.frm:Int),(m:Int),(t.frm:Int)⟩) (by simp [results,Tryz.results176,go_sem,cF,NV.v];try rfl) rfl ⟨_,rfl,(uh MX6).ke.set7 (br _) _ _ _ _ _ _ _,?_,?_⟩
    ·rw [←uh HS3,←uh HSr]
     exact (uh MX6).ss.set7 (by omega) (by omega) _ _ _ _ _ _ _
    ·intro k a k' hk hq
     unfold qel at hq
     obtain ⟨_,k1,q1,r1⟩:=qad hq
     obtain ⟨x1,k2,q2,r2⟩:=qad r1
     obtain ⟨_,k3,q3,r3⟩:=qad r2
     obtain ⟨l,k4,q4,r4⟩:=qad r3
     obtain ⟨_,k5,q5,r5⟩:=qad r4
     cases r5
     have s1:nx σ (qag T qbc)=.ok k1:=by rw [hk];exact qas q1
     have s2:nx (nx σ (qag T qbc)) expr=.ok k2:=by rw [s1];exact qas q2
     have s3:nx (nx (nx σ (qag T qbc)) expr) (qag T kWith)=.ok k3:=by rw [s2];exact qas q3
     have x0e:valOf (nx σ (qag T qbc)) expr=x1:=valOf_ok s1 q2
     have s4:σr=.ok k4:=by
      rw [uh HSr,uh HS3,s3,arms_nx _ _ [] [x1]]
      exact qas q4
     obtain ⟨k3',e3,hLx,hA⟩:=HLr k4 s4
     rw [uh HS3,s3] at e3
     cases e3
     rw [uh HX0,x0e,q4] at hA
     cases hA
     have ht:t=tk T k:=uh Ht k hk
     have hm:m=qan T k':=uh HM6 k' (by rw [s4];exact qas q5)
     subst ht
     subst hm
     exact (uh MX6).node (by omega) hLx hx1 13 kNo 0 _ _ _ _ _ _ _ _ _ _
end
end
section
open Go Go.RowKit
section
variable {rb g cap:Nat} {T:List Pu.Tok}
theorem less_okD {sum:M Nd} {k k1:Nat} {x:Nd} (h:sum k=.ok (x,k1)) (hl:isT (tk T k1) kLess=true):qe8 T sum k=bnd sum (fun y k'=>.ok (.mk 7 kLess 0 [x,y] (tk T k).frm (qan T k') (tk T k).frm,k')) (k1+1):=by
 unfold qe8
 rw [qcd h]
 simp only [hl,if_true]
theorem less_no' {sum:M Nd} {k k1:Nat} {x:Nd} (h:sum k=.ok (x,k1)) (hl:isT (tk T k1) kLess=false):qe8 T sum k=.ok (x,k1):=by
 unfold qe8
 rw [qcd h]
 simp [hl]
theorem less_bad {sum:M Nd} {k:Nat} {fl:Fl} (h:sum k=.error fl):qe8 T sum k=.error fl:=by
 unfold qe8
 rw [qb8 h]
theorem exprD_C:∀n,NodeC rb g cap T 108 #[.pointer (some ⟨rb,0,none⟩)] (qaq T n) n
 |0=>by
  intro w σ h hf
  cases σ with
  |ok k=>
   have:=hf k rfl
   have:=mlt h
   omega
  |error fl=>
   have H0:=small_C0 (rb:=rb) (g:=g) (cap:=cap) (T:=T) 3 (qam T (qaq T 0) (typM T 0) 3)
   have HS:=sum_C (product_C (call_C H0 (qaw (qdg 0) (qa2 0) 3)) (qd8 (qaw (qdg 0) (qa2 0) 3))) (prod_lts (qd8 (qaw (qdg 0) (qa2 0) 3)))
   refine (less_no HS h (fun k q=>by cases q) rfl rfl rfl rfl rfl).mono ?_
   rintro e w' ⟨x,e1,e2,e3,_⟩
   exact ⟨x,e1,e2,e3,fun k a k' q=>by cases q⟩
 |n+1=>by
  have HE:=exprD_C n
  have hmE:Mono (qaq T n):=qdg n
  have HF:=function_C HE
  have HI:=choice_C HE hmE
  have HM:=match_C (pat_C n) HE (qdk n) hmE
  have HB:=bound_C HE HF
  have hsm:=qaw (T:=T) hmE (qa2 (T:=T) n) 3
  have HS:=sum_C (product_C (call_C (small_C 3 (by simp) (part_expr HE) (fun _=>typ_C n) hmE) hsm) (qd8 hsm)) (prod_lts (qd8 hsm))
  have hsl:∀k a k',sumM T (qby T (qbh T (qam T (qaq T n) (typM T n) 3))) k=.ok (a,k')→k<k':=sum_lts (prod_lts (qd8 hsm))
  intro w σ h hf
  cases σ with
  |error fl=>
   refine (less_no HS h (fun k q=>by cases q) rfl rfl rfl rfl rfl).mono ?_
   rintro e w' ⟨x,e1,e2,e3,_⟩
   exact ⟨x,e1,e2,e3,fun k a k' q=>by cases q⟩
  |ok k=>
   have hk:=hf k rfl
   cases h0:isT (tk T k) kFun with
   |true=>
    have e0:qaq T (n+1) k=funM T (qaq T n) k:=by simp only [qaq,h0,if_true]
    refine (expr_function HF h hf h0).mono ?_
    rintro e w' ⟨x,e1,e2,e3,e4⟩
    refine ⟨x,e1,e2,?_,fun k1 a k' q r=>?_⟩
    ·simp only [nx] at e3⊢;rw [e0];exact e3
    ·cases q;rw [e0] at r;exact e4 k a k' rfl r
   |false=>
    cases h1:isT (tk T k) kIf with
    |true=>
     have e0:qaq T (n+1) k=qdr T (qaq T n) k:=by simp [qaq,h0,h1]
     refine (expr_choice HI h hf h0 h1).mono ?_
     rintro e w' ⟨x,e1,e2,e3,e4⟩
     refine ⟨x,e1,e2,?_,fun k1 a k' q r=>?_⟩
     ·simp only [nx] at e3⊢;rw [e0];exact e3
     ·cases q;rw [e0] at r;exact e4 k a k' rfl r
    |false=>
     cases h2:isT (tk T k) qbc with
     |true=>
      have e0:qaq T (n+1) k=qel T (patM T n) (qaq T n) k:=by simp [qaq,h0,h1,h2]
      refine (expr_match HM h hf h0 h1 h2).mono ?_
      rintro e w' ⟨x,e1,e2,e3,e4⟩
      refine ⟨x,e1,e2,?_,fun k1 a k' q r=>?_⟩
      ·simp only [nx] at e3⊢;rw [e0];exact e3
      ·cases q;rw [e0] at r;exact e4 k a k' rfl r
     |false=>
      cases h3:isT (tk T k) kLet with
      |true=>
       have e0:qaq T (n+1) k=letM T (qaq T n) k:=by simp [qaq,h0,h1,h2,h3]
       refine (expr_let HB HE hmE h hf h0 h1 h2 h3).mono ?_
       rintro e w' ⟨x,e1,e2,e3,e4⟩
       refine ⟨x,e1,e2,?_,fun k1 a k' q r=>?_⟩
       ·simp only [nx] at e3⊢;rw [e0];exact e3
       ·cases q;rw [e0] at r;exact e4 k a k' rfl r
      |false=>
       have e0:qaq T (n+1) k=qe8 T (sumM T (qby T (qbh T (qam T (qaq T n) (typM T n) 3)))) k:=by simp [qaq,h0,h1,h2,h3]
       generalize hsum:sumM T (qby T (qbh T (qam T (qaq T n) (typM T n) 3)))=sum at HS hsl e0
       cases hs:sum k with
       |error fl=>
        refine (less_no HS h hf h0 h1 h2 h3 (by simp [nx,hs,isS])).mono ?_
        rintro e w' ⟨x,e1,e2,e3,e4⟩
        refine ⟨x,e1,e2,?_,fun k1 a k' q r=>?_⟩
        ·simp only [nx,hs] at e3⊢;rw [e0,less_bad hs];exact e3
        ·cases q;rw [e0,less_bad hs] at r;cases r
       |ok p=>
        obtain ⟨x0,k1⟩:=p
        cases hl:isT (tk T k1) kLess with
        |false=>
         refine (less_no HS h hf h0 h1 h2 h3 (by simp [nx,hs,isS,hl])).mono ?_
         rintro e w' ⟨x,e1,e2,e3,e4⟩
         refine ⟨x,e1,e2,?_,fun k2 a k' q r=>?_⟩
         ·simp only [nx,hs] at e3⊢;rw [e0,less_no' hs hl];exact e3
         ·cases q;rw [e0,less_no' hs hl] at r;cases r;exact e4 k x0 k1 rfl hs
        |true=>
         refine (less_yes HS hsl h hk h0 h1 h2 h3 hs hl).mono ?_
         rintro e w' ⟨x,e1,e2,e3,e4⟩
         refine ⟨x,e1,e2,?_,fun k2 a k' q r=>?_⟩
         ·simp only [nx] at e3⊢
          rw [e0,less_okD hs hl]
          cases hs2:sum (k1+1) with
          |error fl=>rw [qb8 hs2];simpa [hs2] using e3
          |ok p2=>obtain ⟨y,k3⟩:=p2;rw [qcd hs2];simpa [hs2] using e3
         ·cases q
          rw [e0,less_okD hs hl] at r
          obtain ⟨y,k3,q1,r1⟩:=qad r
          cases r1
          exact e4 y k' q1
end
end
end Go.Proofs.YtnhnocmpodaggaaGreatDoor

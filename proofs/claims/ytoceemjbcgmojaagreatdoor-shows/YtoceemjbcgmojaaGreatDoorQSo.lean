import Derived.Test.YtoceemjbcgmojaaGreatDoorQTm
set_option linter.all false
set_option maxRecDepth 100000
set_option maxHeartbeats 20000000
namespace Go.Proofs.YtoceemjbcgmojaaGreatDoor
section
open Go Go.RowKit
section
variable {rb g cap:Nat} {T:List Pu.Tok} {σ:St} {w:World}
def ChainR(rb g cap:Nat)(T:List Pu.Tok)(σ:St)(whole:M Nd)(step:Nat->Nat->Nd->M Nd)(frm:Nat)(w:World)(bx:Nat)(gk:Nat)(wr:World):Prop:=
 ∃(σr:St)(x:NV),SS wr rb g cap T σr/\Ke rb w wr/\bx<wr.heap.size/\Bx wr bx (nvA x)/\Bx wr w.heap.size qat/\
  Hid (∀fl,σr=.error fl->nx σ whole=.error fl)/\
  Hid (∀k',σr=.ok k'->T.length-k'<=gk/\∃k nd f,σ=.ok k/\k<k'/\T.length<=k'+f/\whole k=step (tk T k).frm f nd k'/\frm=(tk T k).frm/\NR wr (fun b=>w.heap.size<b/\b≠bx) nd x)
def GrownR(rb g cap:Nat)(T:List Pu.Tok)(σ2:St)(sub:M Nd)(kr K:Nat)(S:BA)(nd:Nd)(frm:Nat)(w:World)(bx:Nat)(wc:World):Prop:=
 ∃x:NV,SS wc rb g cap T σ2/\Ke rb w wc/\bx<wc.heap.size/\Bx wc bx (nvA x)/\Bx wc w.heap.size qat/\
  Hid (∀b k2,sub kr=.ok (b,k2)->NR wc (fun b=>w.heap.size<b/\b≠bx) (.mk K S 0 [nd,b] frm (qan T k2) frm) x)
theorem call_stop{sub:M Nd}{frm f:Nat}{x:Nd}{k:Nat}(h:¬qai (tk T k) 3=true):qd7 T sub frm f x k=.ok (x,k):=by
 cases f with
 |zero=>rfl|succ f=>unfold qd7;rw[if_neg h]
theorem call_step{sub:M Nd}{frm f:Nat}{x b:Nd}{k k2:Nat}(h:qai (tk T k) 3=true)(hs:sub k=.ok (b,k2)):qd7 T sub frm (f+1) x k=qd7 T sub frm f (.mk 8 kNo 0 [x,b] frm (qan T k2) frm) k2:=by
 conv=>lhs;unfold qd7
 rw[if_pos h,qcd hs]
theorem call_err{sub:M Nd}{frm f:Nat}{x:Nd}{k:Nat}{e:Fl}(h:qai (tk T k) 3=true)(hs:sub k=.error e):qd7 T sub frm (f+1) x k=.error e:=by
 unfold qd7
 rw[if_pos h,qb8 hs]
theorem call_rel{sub:M Nd}{frm f2 k kr bx:Nat}{nd:Nd}{wc:World}(hW:qbh T sub k=qd7 T sub (tk T k).frm (f2+1) nd kr)(hc:qai (tk T kr) 3=true)(hfrm:frm=(tk T k).frm)(hm:∀k a k',sub k=.ok (a,k')->k<k')(hkr:k<kr)(hfu:T.length<=kr+(f2+1))(hG:GrownR rb g cap T (nx (.ok kr) sub) sub kr 8 kNo nd frm w bx wc):ChainR rb g cap T (.ok k) (qbh T sub) (fun fr f nd k=>qd7 T sub fr f nd k) frm w bx (T.length-(kr+1)) wc:=by
 obtain⟨x2,S8,K8,z8,X8,R8,N8⟩:=hG
 refine⟨_,x2,S8,K8,z8,X8,R8,ai (fun fl e=>?_),ai (fun k2 e=>?_)⟩
 .cases hq:sub kr with
  |error f3=>rw[qbn hq]at e;cases e;exact qbn (hW.trans (call_err hc hq))|ok p3=>rw[qas (k':=p3.2) (a:=p3.1) hq]at e;cases e
 .obtain⟨_,b,e1,hq⟩:=qbf e
  cases e1
  have hlt:=hm _ _ _ hq
  refine⟨by omega,k,_,f2,rfl,by omega,by omega,hW.trans (call_step hc hq),hfrm,?_⟩
  rw[<-hfrm]
  exact uh N8 b k2 hq
theorem call_C{n:Nat}{sub:M Nd}(HS:NodeC rb g cap T 203 #[.pointer (some ⟨rb,0,none⟩),.int .i64 3] sub n)(hm:∀k a k',sub k=.ok (a,k')->k<k'):NodeC rb g cap T 355 #[.pointer (some ⟨rb,0,none⟩)] (qbh T sub) n:=by
 intro w σ h hf
 have HS':=ai HS
 have hf':=ai hf
 have hm':=ai hm
 have ff:=qd4
 clear HS hf hm
 have hr:=h.hr
 have hg:=h.hg
 have H1:=ai h
 have K2:=ai (Ke.refl rb w)
 clear h
 go_enter Tryz.func355,Tryz.ntmps355
 go_wp2_with fail
 have H3:=ai ((uh H1).alloc (.cells qat 62))
 have K4:=ai ((uh K2).alloc (.cells qat 62))
 have B5:=ai (Bx.at w qat 62 (w.heap.size) (by simp[World.setCell]))
 clear H1 K2
 refine(qb5 (uh H3)).mono ?_
 rintro e w1⟨t,rfl,hb,ht⟩
 have H6:=ai ((uh H3).below hb)
 have K7:=ai ((uh K4).below hb)
 have z8:=hb.size
 try simp[World.setCell]at z8
 have B9:=ai ((uh B5).below hb)
 clear H3 K4 B5 hb
 obtain⟨c10,f11,y12⟩:=uh B9
 have Ht:=ai ht
 clear ht
 unfold tokV
 go_wp2_with fail
 clear c10 f11 y12
 refine(uh HS' _ _ (uh H6) (uh hf')).mono ?_
 rintro e w2⟨x,rfl,hb,hS,hN⟩
 have H16:=ai hS
 have K17:=ai ((uh K7).trans hb)
 have z18:=hb.size
 try simp[World.setCell]at z18
 have B19:=ai ((uh B9).ke hb (by omega))
 clear H6 K7 B9 hb hS
 obtain⟨c20,f21,y22⟩:=uh B19
 have hN1:=ai (fun k a k' (h1:σ=.ok k) (hq:sub k=.ok (a,k'))=>(hN k a k' h1 hq).rng w1.heap.size (fun b hb=>by simpa using hb))
 clear hN
 unfold NV.v
 go_wp2_with fail
 have H23:=ai ((uh H16).alloc (.cells (nvA x) 62))
 have K24:=ai ((uh K17).alloc (.cells (nvA x) 62))
 have B25:=ai ((uh B19).alloc (.cells (nvA x) 62))
 have B26:=ai (Bx.at w2 (nvA x) 62 (w2.heap.size) (by simp[World.setCell]))
 have R27:=ai (fun k a k' h1 hq=>(NR.bel (uh hN1 k a k' h1 hq) (bw (.cells (nvA x) 62))))
 clear H16 K17 B19 hN1 c20 f21 y22
 clear ff
 go_loopg[] T.length (fun gk wr=>ChainR rb g cap T σ (qbh T sub) (fun fr f nd k=>qd7 T sub fr f nd k) t.frm w w2.heap.size gk wr)
 case atStart=>
  refine⟨nx σ sub,x,uh H23,uh K24,by simp,uh B26,uh B25,ai (fun fl e=>?_),ai (fun k1 e=>?_)⟩
  .cases σ with
   |error f=>cases e;rfl|ok k=>
    cases hq:sub k with
    |error f=>rw[qbn hq]at e;cases e;rw[qbn];unfold qbh;exact qb8 hq|ok p=>rw[qas (k':=p.2) (a:=p.1) hq]at e;cases e
  .obtain⟨k,a,rfl,hq⟩:=qbf e
   refine⟨by omega,k,a,T.length,rfl,uh hm' _ _ _ hq,by omega,?_,by rw[uh Ht k rfl],(uh R27 k a k1 rfl hq).move (br _) (fun _ _ _=>rfl) (fun b hb _=>by omega)⟩
   unfold qbh
   exact qcd hq
 case round=>
  clear H23 K24 R27 B25 B26
  obtain⟨σr,y,HR0,KR0,zx,BX0,BR0,hE,hO⟩:=hrel
  have HR:=ai HR0
  have KR:=ai KR0
  have BX:=ai BX0
  have BR:=ai BR0
  clear HR0 KR0 BX0 BR0
  have zr:=(uh KR).size
  unfold nvA at BX
  cases σr with
  |error fl=>
   obtain⟨c0,f0,y0⟩:=uh BX
   obtain⟨c1,f1,y1⟩:=uh BR
   go_wp2_with fail
   refine(ok_S (uh HR)).mono ?_
   rintro e w9⟨rfl,rfl⟩
   go_wp2_with fail
   have H501:=ai ((uh HR).st7 (b:=w.heap.size) (by omega) (by omega) y)
   have K502:=ai ((uh KR).st7 (b:=w.heap.size) (by omega) y)
   have B503:=ai ((uh BR).st7 rfl y)
   have B504:=ai ((uh BX).stO7 (b:=w.heap.size) (by omega) y)
   clear HR KR BR BX c0 f0 y0 c1 f1 y1
   obtain⟨cF,fF,zF⟩:=uh B503
   refine bodyPost_ret (v:=NV.v y) (by simp[results,Tryz.results355,go_sem,cF,NV.v];try rfl) rfl ⟨_,rfl,uh K502,?_,fun k b k' hk hq=>?_⟩
   .rw[uh hE fl rfl];exact uh H501
   .subst hk
    have:=uh hE fl rfl
    rw[qas hq]at this
    cases this
  |ok kr=>
   obtain⟨hgk,k,nd,fu,rfl,hkr,hfu,hW0,hfrm0,hNN0⟩:=uh hO kr rfl
   have hNN:=ai (hNN0.move (Q:=fun b=>w.heap.size<b/\b≠w2.heap.size/\b<wr.heap.size) (br _) (fun _ _ _=>rfl) (fun b hb hz=>⟨hb.1,hb.2,hz⟩))
   have hkT:kr<T.length:=by have h':RS wr rb g cap T kr noFl:=uh HR;exact h'.hk
   have hW:=ai hW0
   have hfrm:=ai hfrm0
   clear hE hO hW0 hfrm0 hNN0
   rcases hbg:qai (tk T kr) 3 with _|_
   .obtain⟨c0,f0,y0⟩:=uh BX
    obtain⟨c1,f1,y1⟩:=uh BR
    go_wp2_with fail
    refine(ok_S (uh HR)).mono ?_
    rintro e w9⟨rfl,rfl⟩
    go_wp2_with fail
    refine(qb5 (uh HR)).mono ?_
    rintro e w3⟨t3,rfl,hb,ht⟩
    have H501:=ai ((uh HR).below hb)
    have K502:=ai ((uh KR).below hb)
    have z503:=hb.size
    try simp[World.setCell]at z503
    have B504:=ai ((uh BR).below hb)
    have B505:=ai ((uh BX).below hb)
    have R506:=ai (NR.bel (uh hNN) hb)
    clear HR KR BR BX hNN hb
    obtain⟨c507,f508,y509⟩:=uh B504
    obtain⟨c510,f511,y512⟩:=uh B505
    have ht':=ht kr rfl
    subst ht'
    clear ht
    unfold tokV
    go_wp2_with fail
    refine(qbt (tk T kr) _ 3 (Or.inr (Or.inr rfl))).mono ?_
    rintro e w4⟨rfl,hb⟩
    have H513:=ai ((uh H501).below hb)
    have K514:=ai ((uh K502).below hb)
    have z515:=hb.size
    try simp[World.setCell]at z515
    have B516:=ai ((uh B504).below hb)
    have B517:=ai ((uh B505).below hb)
    have R518:=ai (NR.bel (uh R506) hb)
    clear H501 K502 B504 B505 R506 hb
    obtain⟨c519,f520,y521⟩:=uh B516
    obtain⟨c522,f523,y524⟩:=uh B517
    go_wp2_with fail
    have hE2:=ai ((uh hW).trans (call_stop (by simp[hbg])))
    clear hW
    have H525:=ai ((uh H513).st7 (b:=w.heap.size) (by omega) (by omega) y)
    have K526:=ai ((uh K514).st7 (b:=w.heap.size) (by omega) y)
    have B527:=ai ((uh B516).st7 rfl y)
    have B528:=ai ((uh B517).stO7 (b:=w.heap.size) (by omega) y)
    have R529:=ai ((NRst7 (uh R518) (b2:=w.heap.size) (fun b hb _=>by omega) y))
    clear H513 K514 B516 B517 R518 c0 f0 y0 c1 f1 y1 c507 f508 y509 c510 f511 y512 c519 f520 y521 c522 f523 y524
    obtain⟨cF,fF,zF⟩:=uh B527
    refine bodyPost_ret (v:=NV.v y) (by simp[results,Tryz.results355,go_sem,cF,NV.v];try rfl) rfl ⟨_,rfl,uh K526,?_,fun k b k' hk hq=>?_⟩
    .rw[qas (uh hE2)];exact uh H525
    .cases hk
     rw[uh hE2]at hq
     cases hq
     exact(uh R529).wide _ (fun b hb=>by omega)
   .obtain⟨f2,rfl⟩:∃f2,fu=f2+1:=⟨fu-1,by omega⟩
    obtain⟨c0,f0,y0⟩:=uh BX
    obtain⟨c1,f1,y1⟩:=uh BR
    go_wp2_with fail
    refine(ok_S (uh HR)).mono ?_
    rintro e w9⟨rfl,rfl⟩
    go_wp2_with fail
    refine(qb5 (uh HR)).mono ?_
    rintro e w3⟨t3,rfl,hb,ht⟩
    have H501:=ai ((uh HR).below hb)
    have K502:=ai ((uh KR).below hb)
    have z503:=hb.size
    try simp[World.setCell]at z503
    have B504:=ai ((uh BR).below hb)
    have B505:=ai ((uh BX).below hb)
    have R506:=ai (NR.bel (uh hNN) hb)
    clear HR KR BR BX hNN hb
    obtain⟨c507,f508,y509⟩:=uh B504
    obtain⟨c510,f511,y512⟩:=uh B505
    have ht':=ht kr rfl
    subst ht'
    clear ht
    unfold tokV
    go_wp2_with fail
    refine(qbt (tk T kr) _ 3 (Or.inr (Or.inr rfl))).mono ?_
    rintro e w4⟨rfl,hb⟩
    have H513:=ai ((uh H501).below hb)
    have K514:=ai ((uh K502).below hb)
    have z515:=hb.size
    try simp[World.setCell]at z515
    have B516:=ai ((uh B504).below hb)
    have B517:=ai ((uh B505).below hb)
    have R518:=ai (NR.bel (uh R506) hb)
    clear H501 K502 B504 B505 R506 hb
    obtain⟨c519,f520,y521⟩:=uh B516
    obtain⟨c522,f523,y524⟩:=uh B517
    go_wp2_with fail
    clear c0 f0 y0 c1 f1 y1 c507 f508 y509 c510 f511 y512 c519 f520 y521 c522 f523 y524
    refine(uh HS' _ _ (uh H513) (by intro j hj;cases hj;have:=uh hf' k rfl;omega)).mono ?_
    rintro e w6⟨z,rfl,hb,hS,hN⟩
    have H529:=ai hS
    have K530:=ai ((uh K514).trans hb)
    have z531:=hb.size
    try simp[World.setCell]at z531
    have B532:=ai ((uh B516).ke hb (by omega))
    have B533:=ai ((uh B517).ke hb (by omega))
    have R534:=ai (NR.ke (uh R518) hb (fun b hb=>by omega))
    clear H513 K514 B516 B517 R518 hb hS
    obtain⟨c535,f536,y537⟩:=uh B532
    obtain⟨c538,f539,y540⟩:=uh B533
    have hNz:=ai (fun b k2 (hq:sub kr=.ok (b,k2))=>(hN _ b k2 rfl hq).rng w4.heap.size (fun b hb=>by simpa using hb))
    clear hN
    unfold NV.v
    go_wp2_with fail
    have H541:=ai ((uh H529).alloc (.cells (nvA z) 62))
    have K542:=ai ((uh K530).alloc (.cells (nvA z) 62))
    have B543:=ai ((uh B532).alloc (.cells (nvA z) 62))
    have B544:=ai ((uh B533).alloc (.cells (nvA z) 62))
    have B545:=ai (Bx.at w6 (nvA z) 62 (w6.heap.size) (by simp[World.setCell]))
    have R546:=ai ((NR.bel (uh R534) (bw (.cells (nvA z) 62))))
    have R547:=ai (fun b k2 hq=>(NR.bel (uh hNz b k2 hq) (bw (.cells (nvA z) 62))))
    clear H529 K530 B532 B533 R534 hNz
    have HX:∀W,(W=(w6.alloc (.cells (nvA z) 62)).drew\/W=((w6.alloc (.cells (nvA z) 62)).alloc (.cells (nvB y z) 62)).drew)->SS W rb g cap T (nx (.ok kr) sub)/\∀w7,Below W.heap.size W w7->SS w7 rb g cap T (nx (.ok kr) sub)/\Ke rb w w7/\Bx w7 (w.heap.size) #[.int .i64 0,.string ⟨#[]⟩,.int .i64 0,.slice none 0 0,.int .i64 0,.int .i64 0,.int .i64 0]/\Bx w7 (w2.heap.size) #[.int .i64 y.k,.string y.s,.int .i64 y.n,.slice y.la y.ll y.lc,.int .i64 y.f,.int .i64 y.t,.int .i64 y.a]/\Bx w7 (w6.heap.size) #[.int .i64 z.k,.string z.s,.int .i64 z.n,.slice z.la z.ll z.lc,.int .i64 z.f,.int .i64 z.t,.int .i64 z.a]/\(W=((w6.alloc (.cells (nvA z) 62)).alloc (.cells (nvB y z) 62)).drew->Bx w7 (w6.heap.size+1) (nvB y z))/\NR w7 (fun b=>w.heap.size<b/\b≠w2.heap.size/\b<w6.heap.size) nd y/\∀b k2,sub kr=.ok (b,k2)->NR w7 (fun b=>w.heap.size<b/\b≠w2.heap.size/\b<w6.heap.size) b z:=by
     rintro W(rfl|rfl)
     .exact⟨(uh H541).drew,fun w7 hb=>⟨((uh H541).drew).below hb,((uh K542).drew).below hb,((uh B543).drew).below hb,((uh B544).drew).below hb,((uh B545).drew).below hb,fun e=>absurd (congrArg (fun w=>w.heap.size) e) (by simp),(((uh R546).move (br _) (fun _ _ _=>rfl) (fun b hb _=>by omega)).bel ((Below.refl _ _).drew)).bel hb,fun b k2 hq=>(((uh R547 b k2 hq).move (br _) (fun _ _ _=>rfl) (fun b hb _=>by omega)).bel ((Below.refl _ _).drew)).bel hb⟩⟩
     .exact⟨((uh H541).alloc (.cells (nvB y z) 62)).drew,fun w7 hb=>⟨(((uh H541).alloc (.cells (nvB y z) 62)).drew).below hb,(((uh K542).alloc (.cells (nvB y z) 62)).drew).below hb,(((uh B543).alloc (.cells (nvB y z) 62)).drew).below hb,(((uh B544).alloc (.cells (nvB y z) 62)).drew).below hb,(((uh B545).alloc (.cells (nvB y z) 62)).drew).below hb,fun _=>((Bx.at _ (nvB y z) 62 (w6.heap.size+1) (by simp)).drew).below hb,(((uh R546).move (br _) (fun _ _ _=>rfl) (fun b hb _=>by omega)).bel ((bw (.cells (nvB y z) 62)).drew)).bel hb,fun b k2 hq=>(((uh R547 b k2 hq).move (br _) (fun _ _ _=>rfl) (fun b hb _=>by omega)).bel ((bw (.cells (nvB y z) 62)).drew)).bel hb⟩⟩
    have HX1:=ai HX
    clear HX
    go_region_with(go_at_call 206;refine(qd1 (uh HX1 _ (by first|exact Or.inl rfl|exact Or.inr rfl)).1).mono ?_;rintro e w7⟨m,rfl,hb,hn⟩;obtain⟨S7,K7,b70,b71,b72,R7,Na7,Nb7⟩:=(uh HX1 _ (by first|exact Or.inl rfl|exact Or.inr rfl)).2 _ hb;have zz:=hb.size;have HB70:=ai b70;obtain⟨q0c,q0f,q0z⟩:=b70;have HB71:=ai b71;obtain⟨q1c,q1f,q1z⟩:=b71;have HB72:=ai b72;obtain⟨q2c,q2f,q2z⟩:=b72;have HS7:=ai S7;have HK7:=ai K7;have HNa:=ai Na7;have HNb:=ai Nb7;have Hn:=ai hn;first|(have hRw:=R7 rfl;have HRow:=ai hRw;clear hRw)|(have HNo:Hid (0=0):=rfl);clear S7 K7 Na7 Nb7 R7 hb hn)
    all_goals
     go_wp2_with fail
     go_roundg(T.length-(kr+1))
     case measure=>omega
     case rel=>
      refine call_rel (uh hW) hbg (uh hfrm) (uh hm') hkr hfu ?_
      first
      |(have hRw:=uh HRow;refine⟨⟨8,kNo,0,some ⟨w6.heap.size+1,0,none⟩,2,2,(t.frm:Int),(m:Int),(t.frm:Int)⟩,?_,?_,?_,?_,?_,ai (fun b k2 hq=>?_)⟩
        .exact((uh HS7).set7 (b:=w2.heap.size) (by omega) (by omega) (.int .i64 8) (.string kNo) (.int .i64 0) (.slice (some ⟨w6.heap.size+1,0,none⟩) 2 2) (.int .i64 (t.frm:Int)) (.int .i64 (m:Int)) (.int .i64 (t.frm:Int)))
        .exact((uh HK7).set7 (b:=w2.heap.size) (by omega) (.int .i64 8) (.string kNo) (.int .i64 0) (.slice (some ⟨w6.heap.size+1,0,none⟩) 2 2) (.int .i64 (t.frm:Int)) (.int .i64 (m:Int)) (.int .i64 (t.frm:Int)))
        .simp[World.setCell];omega
        .exact((uh HB71).set7 rfl (.int .i64 8) (.string kNo) (.int .i64 0) (.slice (some ⟨w6.heap.size+1,0,none⟩) 2 2) (.int .i64 (t.frm:Int)) (.int .i64 (m:Int)) (.int .i64 (t.frm:Int)))
        .exact((uh HB70).setO7 (b:=w2.heap.size) (by omega) (.int .i64 8) (.string kNo) (.int .i64 0) (.slice (some ⟨w6.heap.size+1,0,none⟩) 2 2) (.int .i64 (t.frm:Int)) (.int .i64 (m:Int)) (.int .i64 (t.frm:Int)))
        .rw[<-uh Hn k2 (qas hq)]
         have na:=(qcf (uh HNa) (b2:=w2.heap.size) (fun b hb _=>hb.2.1) (.int .i64 8) (.string kNo) (.int .i64 0) (.slice (some ⟨w6.heap.size+1,0,none⟩) 2 2) (.int .i64 (t.frm:Int)) (.int .i64 (m:Int)) (.int .i64 (t.frm:Int))).move (Q:=fun b=>w.heap.size<b/\b≠w2.heap.size) (br _) (fun _ _ _=>rfl) (fun b hb _=>⟨hb.1,hb.2.1⟩)
         have nb:=(qcf (uh HNb b k2 hq) (b2:=w2.heap.size) (fun b hb _=>hb.2.1) (.int .i64 8) (.string kNo) (.int .i64 0) (.slice (some ⟨w6.heap.size+1,0,none⟩) 2 2) (.int .i64 (t.frm:Int)) (.int .i64 (m:Int)) (.int .i64 (t.frm:Int))).move (Q:=fun b=>w.heap.size<b/\b≠w2.heap.size) (br _) (fun _ _ _=>rfl) (fun b hb _=>⟨hb.1,hb.2.1⟩)
         exact NR.two (P:=fun b=>w.heap.size<b/\b≠w2.heap.size) 8 kNo 0 t.frm m t.frm (hRw.setO7 (b:=w2.heap.size) (by omega) (.int .i64 8) (.string kNo) (.int .i64 0) (.slice (some ⟨w6.heap.size+1,0,none⟩) 2 2) (.int .i64 (t.frm:Int)) (.int .i64 (m:Int)) (.int .i64 (t.frm:Int))) rfl na nb (by omega) 2)
      |(have hNo:=HNo;refine⟨⟨8,kNo,0,some ⟨w7.heap.size,0,none⟩,2,2,(t.frm:Int),(m:Int),(t.frm:Int)⟩,?_,?_,?_,?_,?_,ai (fun b k2 hq=>?_)⟩
        .exact(((uh HS7).set7 (b:=w2.heap.size) (by omega) (by omega) (.int .i64 8) (.string kNo) (.int .i64 0) (.slice (some ⟨w7.heap.size,0,none⟩) 2 2) (.int .i64 (t.frm:Int)) (.int .i64 (m:Int)) (.int .i64 (t.frm:Int))).alloc (.cells (nvB y z) 62))
        .exact(((uh HK7).set7 (b:=w2.heap.size) (by omega) (.int .i64 8) (.string kNo) (.int .i64 0) (.slice (some ⟨w7.heap.size,0,none⟩) 2 2) (.int .i64 (t.frm:Int)) (.int .i64 (m:Int)) (.int .i64 (t.frm:Int))).alloc (.cells (nvB y z) 62))
        .simp[World.setCell];omega
        .exact(((uh HB71).set7 rfl (.int .i64 8) (.string kNo) (.int .i64 0) (.slice (some ⟨w7.heap.size,0,none⟩) 2 2) (.int .i64 (t.frm:Int)) (.int .i64 (m:Int)) (.int .i64 (t.frm:Int))).alloc (.cells (nvB y z) 62))
        .exact(((uh HB70).setO7 (b:=w2.heap.size) (by omega) (.int .i64 8) (.string kNo) (.int .i64 0) (.slice (some ⟨w7.heap.size,0,none⟩) 2 2) (.int .i64 (t.frm:Int)) (.int .i64 (m:Int)) (.int .i64 (t.frm:Int))).alloc (.cells (nvB y z) 62))
        .rw[<-uh Hn k2 (qas hq)]
         have na:=(NR.bel (qcf (uh HNa) (b2:=w2.heap.size) (fun b hb _=>hb.2.1) (.int .i64 8) (.string kNo) (.int .i64 0) (.slice (some ⟨w7.heap.size,0,none⟩) 2 2) (.int .i64 (t.frm:Int)) (.int .i64 (m:Int)) (.int .i64 (t.frm:Int))) (bw (.cells (nvB y z) 62))).move (Q:=fun b=>w.heap.size<b/\b≠w2.heap.size) (br _) (fun _ _ _=>rfl) (fun b hb _=>⟨hb.1,hb.2.1⟩)
         have nb:=(NR.bel (qcf (uh HNb b k2 hq) (b2:=w2.heap.size) (fun b hb _=>hb.2.1) (.int .i64 8) (.string kNo) (.int .i64 0) (.slice (some ⟨w7.heap.size,0,none⟩) 2 2) (.int .i64 (t.frm:Int)) (.int .i64 (m:Int)) (.int .i64 (t.frm:Int))) (bw (.cells (nvB y z) 62))).move (Q:=fun b=>w.heap.size<b/\b≠w2.heap.size) (br _) (fun _ _ _=>rfl) (fun b hb _=>⟨hb.1,hb.2.1⟩)
         exact NR.two (P:=fun b=>w.heap.size<b/\b≠w2.heap.size) 8 kNo 0 t.frm m t.frm (Bx.at _ (nvB y z) 62 (w7.heap.size) (by simp[World.setCell])) rfl na nb (by omega) 2)
end
end
end Go.Proofs.YtoceemjbcgmojaaGreatDoor

import Derived.Test.YtoceemjbcgmojaaGreatDoorQSo
set_option linter.all false
set_option maxRecDepth 100000
set_option maxHeartbeats 20000000
namespace Go.Proofs.YtoceemjbcgmojaaGreatDoor
section
open Go Go.RowKit
section
variable {rb g cap:Nat} {T:List Pu.Tok} {σ:St} {w:World}
theorem sum_stop{sub:M Nd}{frm f:Nat}{x:Nd}{k:Nat}(h:¬(isT (tk T k) kPlus=true\/isT (tk T k) kMinus=true)):sumF T sub frm f x k=.ok (x,k):=by
 cases f with
 |zero=>rfl|succ f=>unfold sumF;rw[if_neg h]
theorem sum_step{sub:M Nd}{frm f:Nat}{x b:Nd}{k k2:Nat}(h:(isT (tk T k) kPlus=true\/isT (tk T k) kMinus=true))(hs:sub (k+1)=.ok (b,k2)):sumF T sub frm (f+1) x k=sumF T sub frm f (.mk 7 (tk T k).text 0 [x,b] frm (qan T k2) frm) k2:=by
 conv=>lhs;unfold sumF
 rw[if_pos h,qcd hs]
theorem sum_err{sub:M Nd}{frm f:Nat}{x:Nd}{k:Nat}{e:Fl}(h:(isT (tk T k) kPlus=true\/isT (tk T k) kMinus=true))(hs:sub (k+1)=.error e):sumF T sub frm (f+1) x k=.error e:=by
 unfold sumF
 rw[if_pos h,qb8 hs]
theorem sum_rel{sub:M Nd}{frm f2 k kr bx:Nat}{nd:Nd}{wc:World}(hW:sumM T sub k=sumF T sub (tk T k).frm (f2+1) nd kr)(hc:(isT (tk T kr) kPlus=true\/isT (tk T kr) kMinus=true))(hfrm:frm=(tk T k).frm)(hm:∀k a k',sub k=.ok (a,k')->k<k')(hkr:k<kr)(hfu:T.length<=kr+(f2+1))(hG:GrownR rb g cap T (nx (.ok (kr+1)) sub) sub (kr+1) 7 (tk T kr).text nd frm w bx wc):ChainR rb g cap T (.ok k) (sumM T sub) (fun fr f nd k=>sumF T sub fr f nd k) frm w bx (T.length-(kr+1)) wc:=by
 obtain⟨x2,S8,K8,z8,X8,R8,N8⟩:=hG
 refine⟨_,x2,S8,K8,z8,X8,R8,ai (fun fl e=>?_),ai (fun k2 e=>?_)⟩
 .cases hq:sub (kr+1)with
  |error f3=>rw[qbn hq]at e;cases e;exact qbn (hW.trans (sum_err hc hq))|ok p3=>rw[qas (k':=p3.2) (a:=p3.1) hq]at e;cases e
 .obtain⟨_,b,e1,hq⟩:=qbf e
  cases e1
  have hlt:=hm _ _ _ hq
  refine⟨by omega,k,_,f2,rfl,by omega,by omega,hW.trans (sum_step hc hq),hfrm,?_⟩
  rw[<-hfrm]
  exact uh N8 b k2 hq
theorem sum_C{n:Nat}{sub:M Nd}(HS:NodeC rb g cap T 307 #[.pointer (some ⟨rb,0,none⟩)] sub n)(hm:∀k a k',sub k=.ok (a,k')->k<k'):NodeC rb g cap T 209 #[.pointer (some ⟨rb,0,none⟩)] (sumM T sub) n:=by
 intro w σ h hf
 have HS':=ai HS
 have hf':=ai hf
 have hm':=ai hm
 have ff:=qd4
 clear HS hf hm
 have hr:=h.hr
 have hg:=h.hg
 have H1:=ai h
 have K2:=ai (Ke.refl rb w)
 clear h
 go_enter Tryz.func209,Tryz.ntmps209
 go_wp2_with fail
 have H3:=ai ((uh H1).alloc (.cells qat 62))
 have K4:=ai ((uh K2).alloc (.cells qat 62))
 have B5:=ai (Bx.at w qat 62 (w.heap.size) (by simp[World.setCell]))
 clear H1 K2
 refine(qb5 (uh H3)).mono ?_
 rintro e w1⟨t,rfl,hb,ht⟩
 have H6:=ai ((uh H3).below hb)
 have K7:=ai ((uh K4).below hb)
 have z8:=hb.size
 try simp[World.setCell]at z8
 have B9:=ai ((uh B5).below hb)
 clear H3 K4 B5 hb
 obtain⟨c10,f11,y12⟩:=uh B9
 have Ht:=ai ht
 clear ht
 unfold tokV
 go_wp2_with fail
 clear c10 f11 y12
 refine(uh HS' _ _ (uh H6) (uh hf')).mono ?_
 rintro e w2⟨x,rfl,hb,hS,hN⟩
 have H16:=ai hS
 have K17:=ai ((uh K7).trans hb)
 have z18:=hb.size
 try simp[World.setCell]at z18
 have B19:=ai ((uh B9).ke hb (by omega))
 clear H6 K7 B9 hb hS
 obtain⟨c20,f21,y22⟩:=uh B19
 have hN1:=ai (fun k a k' (h1:σ=.ok k) (hq:sub k=.ok (a,k'))=>(hN k a k' h1 hq).rng w1.heap.size (fun b hb=>by simpa using hb))
 clear hN
 unfold NV.v
 go_wp2_with fail
 have H23:=ai ((uh H16).alloc (.cells (nvA x) 62))
 have K24:=ai ((uh K17).alloc (.cells (nvA x) 62))
 have B25:=ai ((uh B19).alloc (.cells (nvA x) 62))
 have B26:=ai (Bx.at w2 (nvA x) 62 (w2.heap.size) (by simp[World.setCell]))
 have R27:=ai (fun k a k' h1 hq=>(NR.bel (uh hN1 k a k' h1 hq) (bw (.cells (nvA x) 62))))
 clear H16 K17 B19 hN1 c20 f21 y22
 clear ff
 go_loopg[] T.length (fun gk wr=>ChainR rb g cap T σ (sumM T sub) (fun fr f nd k=>sumF T sub fr f nd k) t.frm w w2.heap.size gk wr)
 case atStart=>
  refine⟨nx σ sub,x,uh H23,uh K24,by simp,uh B26,uh B25,ai (fun fl e=>?_),ai (fun k1 e=>?_)⟩
  .cases σ with
   |error f=>cases e;rfl|ok k=>
    cases hq:sub k with
    |error f=>rw[qbn hq]at e;cases e;rw[qbn];unfold sumM;exact qb8 hq|ok p=>rw[qas (k':=p.2) (a:=p.1) hq]at e;cases e
  .obtain⟨k,a,rfl,hq⟩:=qbf e
   refine⟨by omega,k,a,T.length,rfl,uh hm' _ _ _ hq,by omega,?_,by rw[uh Ht k rfl],(uh R27 k a k1 rfl hq).move (br _) (fun _ _ _=>rfl) (fun b hb _=>by omega)⟩
   unfold sumM
   exact qcd hq
 case round=>
  clear H23 K24 R27 B25 B26
  obtain⟨σr,y,HR0,KR0,zx,BX0,BR0,hE,hO⟩:=hrel
  have HR:=ai HR0
  have KR:=ai KR0
  have BX:=ai BX0
  have BR:=ai BR0
  clear HR0 KR0 BX0 BR0
  have zr:=(uh KR).size
  unfold nvA at BX
  cases σr with
  |error fl=>
   obtain⟨c0,f0,y0⟩:=uh BX
   obtain⟨c1,f1,y1⟩:=uh BR
   have hikPlus:isS T (.error fl) kPlus=false:=rfl
   have hikMinus:isS T (.error fl) kMinus=false:=rfl
   go_wp2_with fail
   refine(is_S (uh HR) kPlus).mono ?_
   rintro e w3⟨rfl,hb⟩
   have H501:=ai ((uh HR).below hb)
   have K502:=ai ((uh KR).below hb)
   have z503:=hb.size
   try simp[World.setCell]at z503
   have B504:=ai ((uh BR).below hb)
   have B505:=ai ((uh BX).below hb)
   clear HR KR BR BX hb
   obtain⟨c506,f507,y508⟩:=uh B504
   obtain⟨c509,f510,y511⟩:=uh B505
   go_wp2_with fail
   refine(is_S (uh H501) kMinus).mono ?_
   rintro e w4⟨rfl,hb⟩
   have H512:=ai ((uh H501).below hb)
   have K513:=ai ((uh K502).below hb)
   have z514:=hb.size
   try simp[World.setCell]at z514
   have B515:=ai ((uh B504).below hb)
   have B516:=ai ((uh B505).below hb)
   clear H501 K502 B504 B505 hb
   obtain⟨c517,f518,y519⟩:=uh B515
   obtain⟨c520,f521,y522⟩:=uh B516
   go_wp2_with fail
   have H523:=ai ((uh H512).st7 (b:=w.heap.size) (by omega) (by omega) y)
   have K524:=ai ((uh K513).st7 (b:=w.heap.size) (by omega) y)
   have B525:=ai ((uh B515).st7 rfl y)
   have B526:=ai ((uh B516).stO7 (b:=w.heap.size) (by omega) y)
   clear H512 K513 B515 B516 c0 f0 y0 c1 f1 y1 c506 f507 y508 c509 f510 y511 c517 f518 y519 c520 f521 y522
   obtain⟨cF,fF,zF⟩:=uh B525
   refine bodyPost_ret (v:=NV.v y) (by simp[results,Tryz.results209,go_sem,cF,NV.v];try rfl) rfl ⟨_,rfl,uh K524,?_,fun k b k' hk hq=>?_⟩
   .rw[uh hE fl rfl];exact uh H523
   .subst hk
    have:=uh hE fl rfl
    rw[qas hq]at this
    cases this
  |ok kr=>
   obtain⟨hgk,k,nd,fu,rfl,hkr,hfu,hW0,hfrm0,hNN0⟩:=uh hO kr rfl
   have hNN:=ai (hNN0.move (Q:=fun b=>w.heap.size<b/\b≠w2.heap.size/\b<wr.heap.size) (br _) (fun _ _ _=>rfl) (fun b hb hz=>⟨hb.1,hb.2,hz⟩))
   have hkT:kr<T.length:=by have h':RS wr rb g cap T kr noFl:=uh HR;exact h'.hk
   have hW:=ai hW0
   have hfrm:=ai hfrm0
   clear hE hO hW0 hfrm0 hNN0
   rcases hpl:isT (tk T kr) kPlus with _|_
   .rcases hmi:isT (tk T kr) kMinus with _|_
    .obtain⟨c0,f0,y0⟩:=uh BX
     obtain⟨c1,f1,y1⟩:=uh BR
     have hi:isS T (.ok kr) kPlus=false:=hpl
     have hj:isS T (.ok kr) kMinus=false:=hmi
     go_wp2_with fail
     refine(is_S (uh HR) kPlus).mono ?_
     rintro e w3⟨rfl,hb⟩
     have H501:=ai ((uh HR).below hb)
     have K502:=ai ((uh KR).below hb)
     have z503:=hb.size
     try simp[World.setCell]at z503
     have B504:=ai ((uh BR).below hb)
     have B505:=ai ((uh BX).below hb)
     have R506:=ai (NR.bel (uh hNN) hb)
     clear HR KR BR BX hNN hb
     obtain⟨c507,f508,y509⟩:=uh B504
     obtain⟨c510,f511,y512⟩:=uh B505
     go_wp2_with fail
     refine(is_S (uh H501) kMinus).mono ?_
     rintro e w4⟨rfl,hb⟩
     have H513:=ai ((uh H501).below hb)
     have K514:=ai ((uh K502).below hb)
     have z515:=hb.size
     try simp[World.setCell]at z515
     have B516:=ai ((uh B504).below hb)
     have B517:=ai ((uh B505).below hb)
     have R518:=ai (NR.bel (uh R506) hb)
     clear H501 K502 B504 B505 R506 hb
     obtain⟨c519,f520,y521⟩:=uh B516
     obtain⟨c522,f523,y524⟩:=uh B517
     go_wp2_with fail
     have hE2:=ai ((uh hW).trans (sum_stop (by simp[hpl,hmi])))
     clear hW
     have H525:=ai ((uh H513).st7 (b:=w.heap.size) (by omega) (by omega) y)
     have K526:=ai ((uh K514).st7 (b:=w.heap.size) (by omega) y)
     have B527:=ai ((uh B516).st7 rfl y)
     have B528:=ai ((uh B517).stO7 (b:=w.heap.size) (by omega) y)
     have R529:=ai ((NRst7 (uh R518) (b2:=w.heap.size) (fun b hb _=>by omega) y))
     clear H513 K514 B516 B517 R518 c0 f0 y0 c1 f1 y1 c507 f508 y509 c510 f511 y512 c519 f520 y521 c522 f523 y524
     obtain⟨cF,fF,zF⟩:=uh B527
     refine bodyPost_ret (v:=NV.v y) (by simp[results,Tryz.results209,go_sem,cF,NV.v];try rfl) rfl ⟨_,rfl,uh K526,?_,fun k b k' hk hq=>?_⟩
     .rw[qas (uh hE2)];exact uh H525
     .cases hk
      rw[uh hE2]at hq
      cases hq
      exact(uh R529).wide _ (fun b hb=>by omega)
    .obtain⟨f2,rfl⟩:∃f2,fu=f2+1:=⟨fu-1,by omega⟩
     obtain⟨c0,f0,y0⟩:=uh BX
     obtain⟨c1,f1,y1⟩:=uh BR
     have hi:isS T (.ok kr) kPlus=false:=hpl
     have hj:isS T (.ok kr) kMinus=true:=hmi
     have h7:(tk T kr).kind≠7:=by have:=qbe hmi;omega
     have hst2:Hid (isT (tk T kr) kPlus=true\/isT (tk T kr) kMinus=true):=Or.inr hmi
     clear hpl hmi
     go_wp2_with fail
     refine(is_S (uh HR) kPlus).mono ?_
     rintro e w3⟨rfl,hb⟩
     have H501:=ai ((uh HR).below hb)
     have K502:=ai ((uh KR).below hb)
     have z503:=hb.size
     try simp[World.setCell]at z503
     have B504:=ai ((uh BR).below hb)
     have B505:=ai ((uh BX).below hb)
     have R506:=ai (NR.bel (uh hNN) hb)
     clear HR KR BR BX hNN hb
     obtain⟨c507,f508,y509⟩:=uh B504
     obtain⟨c510,f511,y512⟩:=uh B505
     go_wp2_with fail
     refine(is_S (uh H501) kMinus).mono ?_
     rintro e w4⟨rfl,hb⟩
     have H513:=ai ((uh H501).below hb)
     have K514:=ai ((uh K502).below hb)
     have z515:=hb.size
     try simp[World.setCell]at z515
     have B516:=ai ((uh B504).below hb)
     have B517:=ai ((uh B505).below hb)
     have R518:=ai (NR.bel (uh R506) hb)
     clear H501 K502 B504 B505 R506 hb
     obtain⟨c519,f520,y521⟩:=uh B516
     obtain⟨c522,f523,y524⟩:=uh B517
     go_wp2_with fail
     clear c0 f0 y0 c1 f1 y1 c507 f508 y509 c510 f511 y512 c519 f520 y521 c522 f523 y524
     refine(qcp (uh H513) h7).mono ?_
     rintro e w5⟨rfl,hb,hS⟩
     have H529:=ai hS
     have K530:=ai ((uh K514).trans hb)
     have z531:=hb.size
     try simp[World.setCell]at z531
     have B532:=ai ((uh B516).ke hb (by omega))
     have B533:=ai ((uh B517).ke hb (by omega))
     have R534:=ai (NR.ke (uh R518) hb (fun b hb=>by omega))
     clear H513 K514 B516 B517 R518 hb hS
     obtain⟨c535,f536,y537⟩:=uh B532
     obtain⟨c538,f539,y540⟩:=uh B533
     unfold tokV
     go_wp2_with fail
     have H541:=ai ((uh H529).alloc (.cells #[.int .i64 ((tk T kr).kind:Int),.string (tk T kr).text,.int .i64 ((tk T kr).frm:Int),.int .i64 ((tk T kr).to:Int)] 58))
     have K542:=ai ((uh K530).alloc (.cells #[.int .i64 ((tk T kr).kind:Int),.string (tk T kr).text,.int .i64 ((tk T kr).frm:Int),.int .i64 ((tk T kr).to:Int)] 58))
     have B543:=ai ((uh B532).alloc (.cells #[.int .i64 ((tk T kr).kind:Int),.string (tk T kr).text,.int .i64 ((tk T kr).frm:Int),.int .i64 ((tk T kr).to:Int)] 58))
     have B544:=ai ((uh B533).alloc (.cells #[.int .i64 ((tk T kr).kind:Int),.string (tk T kr).text,.int .i64 ((tk T kr).frm:Int),.int .i64 ((tk T kr).to:Int)] 58))
     have B545:=ai (Bx.at w5 #[.int .i64 ((tk T kr).kind:Int),.string (tk T kr).text,.int .i64 ((tk T kr).frm:Int),.int .i64 ((tk T kr).to:Int)] 58 (w5.heap.size) (by simp[World.setCell]))
     have R546:=ai ((NR.bel (uh R534) (bw (.cells #[.int .i64 ((tk T kr).kind:Int),.string (tk T kr).text,.int .i64 ((tk T kr).frm:Int),.int .i64 ((tk T kr).to:Int)] 58))))
     clear H529 K530 B532 B533 R534 c535 f536 y537 c538 f539 y540
     refine(uh HS' _ _ (uh H541) (by intro j hj;cases hj;have:=uh hf' k rfl;omega)).mono ?_
     rintro e w6⟨z,rfl,hb,hS,hN⟩
     have H547:=ai hS
     have K548:=ai ((uh K542).trans hb)
     have z549:=hb.size
     try simp[World.setCell]at z549
     have B550:=ai ((uh B543).ke hb (by omega))
     have B551:=ai ((uh B544).ke hb (by omega))
     have B552:=ai ((uh B545).ke hb (by omega))
     have R553:=ai (NR.ke (uh R546) hb (fun b hb=>by omega))
     clear H541 K542 B543 B544 B545 R546 hb hS
     obtain⟨c554,f555,y556⟩:=uh B550
     obtain⟨c557,f558,y559⟩:=uh B551
     obtain⟨c560,f561,y562⟩:=uh B552
     have hNz:=ai (fun b k2 (hq:sub (kr+1)=.ok (b,k2))=>(hN _ b k2 rfl hq).rng w5.heap.size (fun b hb=>by have h5:=hb;simp at h5;omega))
     clear hN
     unfold NV.v
     go_wp2_with fail
     have H563:=ai ((uh H547).alloc (.cells (nvA z) 62))
     have K564:=ai ((uh K548).alloc (.cells (nvA z) 62))
     have B565:=ai ((uh B550).alloc (.cells (nvA z) 62))
     have B566:=ai ((uh B551).alloc (.cells (nvA z) 62))
     have B567:=ai ((uh B552).alloc (.cells (nvA z) 62))
     have B568:=ai (Bx.at w6 (nvA z) 62 (w6.heap.size) (by simp[World.setCell]))
     have R569:=ai ((NR.bel (uh R553) (bw (.cells (nvA z) 62))))
     have R570:=ai (fun b k2 hq=>(NR.bel (uh hNz b k2 hq) (bw (.cells (nvA z) 62))))
     clear H547 K548 B550 B551 B552 R553 hNz
     have HX:∀W,(W=(w6.alloc (.cells (nvA z) 62)).drew\/W=((w6.alloc (.cells (nvA z) 62)).alloc (.cells (nvB y z) 62)).drew)->SS W rb g cap T (nx (.ok (kr+1)) sub)/\∀w7,Below W.heap.size W w7->SS w7 rb g cap T (nx (.ok (kr+1)) sub)/\Ke rb w w7/\Bx w7 (w.heap.size) #[.int .i64 0,.string ⟨#[]⟩,.int .i64 0,.slice none 0 0,.int .i64 0,.int .i64 0,.int .i64 0]/\Bx w7 (w2.heap.size) #[.int .i64 y.k,.string y.s,.int .i64 y.n,.slice y.la y.ll y.lc,.int .i64 y.f,.int .i64 y.t,.int .i64 y.a]/\Bx w7 (w5.heap.size) #[.int .i64 ((tk T kr).kind:Int),.string (tk T kr).text,.int .i64 ((tk T kr).frm:Int),.int .i64 ((tk T kr).to:Int)]/\Bx w7 (w6.heap.size) #[.int .i64 z.k,.string z.s,.int .i64 z.n,.slice z.la z.ll z.lc,.int .i64 z.f,.int .i64 z.t,.int .i64 z.a]/\(W=((w6.alloc (.cells (nvA z) 62)).alloc (.cells (nvB y z) 62)).drew->Bx w7 (w6.heap.size+1) (nvB y z))/\NR w7 (fun b=>w.heap.size<b/\b≠w2.heap.size/\b<w6.heap.size) nd y/\∀b k2,sub (kr+1)=.ok (b,k2)->NR w7 (fun b=>w.heap.size<b/\b≠w2.heap.size/\b<w6.heap.size) b z:=by
      rintro W(rfl|rfl)
      .exact⟨(uh H563).drew,fun w7 hb=>⟨((uh H563).drew).below hb,((uh K564).drew).below hb,((uh B565).drew).below hb,((uh B566).drew).below hb,((uh B567).drew).below hb,((uh B568).drew).below hb,fun e=>absurd (congrArg (fun w=>w.heap.size) e) (by simp),(((uh R569).move (br _) (fun _ _ _=>rfl) (fun b hb _=>by omega)).bel ((Below.refl _ _).drew)).bel hb,fun b k2 hq=>(((uh R570 b k2 hq).move (br _) (fun _ _ _=>rfl) (fun b hb _=>by omega)).bel ((Below.refl _ _).drew)).bel hb⟩⟩
      .exact⟨((uh H563).alloc (.cells (nvB y z) 62)).drew,fun w7 hb=>⟨(((uh H563).alloc (.cells (nvB y z) 62)).drew).below hb,(((uh K564).alloc (.cells (nvB y z) 62)).drew).below hb,(((uh B565).alloc (.cells (nvB y z) 62)).drew).below hb,(((uh B566).alloc (.cells (nvB y z) 62)).drew).below hb,(((uh B567).alloc (.cells (nvB y z) 62)).drew).below hb,(((uh B568).alloc (.cells (nvB y z) 62)).drew).below hb,fun _=>((Bx.at _ (nvB y z) 62 (w6.heap.size+1) (by simp)).drew).below hb,(((uh R569).move (br _) (fun _ _ _=>rfl) (fun b hb _=>by omega)).bel ((bw (.cells (nvB y z) 62)).drew)).bel hb,fun b k2 hq=>(((uh R570 b k2 hq).move (br _) (fun _ _ _=>rfl) (fun b hb _=>by omega)).bel ((bw (.cells (nvB y z) 62)).drew)).bel hb⟩⟩
     have HX1:=ai HX
     clear HX
     go_region_with(go_at_call 206;refine(qd1 (uh HX1 _ (by first|exact Or.inl rfl|exact Or.inr rfl)).1).mono ?_;rintro e w7⟨m,rfl,hb,hn⟩;obtain⟨S7,K7,b70,b71,b72,b73,R7,Na7,Nb7⟩:=(uh HX1 _ (by first|exact Or.inl rfl|exact Or.inr rfl)).2 _ hb;have zz:=hb.size;have HB70:=ai b70;obtain⟨q0c,q0f,q0z⟩:=b70;have HB71:=ai b71;obtain⟨q1c,q1f,q1z⟩:=b71;have HB72:=ai b72;obtain⟨q2c,q2f,q2z⟩:=b72;have HB73:=ai b73;obtain⟨q3c,q3f,q3z⟩:=b73;have HS7:=ai S7;have HK7:=ai K7;have HNa:=ai Na7;have HNb:=ai Nb7;have Hn:=ai hn;first|(have hRw:=R7 rfl;have HRow:=ai hRw;clear hRw)|(have HNo:Hid (0=0):=rfl);clear S7 K7 Na7 Nb7 R7 hb hn)
     all_goals
      go_wp2_with fail
      go_roundg(T.length-(kr+1))
      case measure=>omega
      case rel=>
       refine sum_rel (uh hW) (uh hst2) (uh hfrm) (uh hm') hkr hfu ?_
       first
       |(have hRw:=uh HRow;refine⟨⟨7,(tk T kr).text,0,some ⟨w6.heap.size+1,0,none⟩,2,2,(t.frm:Int),(m:Int),(t.frm:Int)⟩,?_,?_,?_,?_,?_,ai (fun b k2 hq=>?_)⟩
         .exact((uh HS7).set7 (b:=w2.heap.size) (by omega) (by omega) (.int .i64 7) (.string (tk T kr).text) (.int .i64 0) (.slice (some ⟨w6.heap.size+1,0,none⟩) 2 2) (.int .i64 (t.frm:Int)) (.int .i64 (m:Int)) (.int .i64 (t.frm:Int)))
         .exact((uh HK7).set7 (b:=w2.heap.size) (by omega) (.int .i64 7) (.string (tk T kr).text) (.int .i64 0) (.slice (some ⟨w6.heap.size+1,0,none⟩) 2 2) (.int .i64 (t.frm:Int)) (.int .i64 (m:Int)) (.int .i64 (t.frm:Int)))
         .simp[World.setCell];omega
         .exact((uh HB71).set7 rfl (.int .i64 7) (.string (tk T kr).text) (.int .i64 0) (.slice (some ⟨w6.heap.size+1,0,none⟩) 2 2) (.int .i64 (t.frm:Int)) (.int .i64 (m:Int)) (.int .i64 (t.frm:Int)))
         .exact((uh HB70).setO7 (b:=w2.heap.size) (by omega) (.int .i64 7) (.string (tk T kr).text) (.int .i64 0) (.slice (some ⟨w6.heap.size+1,0,none⟩) 2 2) (.int .i64 (t.frm:Int)) (.int .i64 (m:Int)) (.int .i64 (t.frm:Int)))
         .rw[<-uh Hn k2 (qas hq)]
          have na:=(qcf (uh HNa) (b2:=w2.heap.size) (fun b hb _=>hb.2.1) (.int .i64 7) (.string (tk T kr).text) (.int .i64 0) (.slice (some ⟨w6.heap.size+1,0,none⟩) 2 2) (.int .i64 (t.frm:Int)) (.int .i64 (m:Int)) (.int .i64 (t.frm:Int))).move (Q:=fun b=>w.heap.size<b/\b≠w2.heap.size) (br _) (fun _ _ _=>rfl) (fun b hb _=>⟨hb.1,hb.2.1⟩)
          have nb:=(qcf (uh HNb b k2 hq) (b2:=w2.heap.size) (fun b hb _=>hb.2.1) (.int .i64 7) (.string (tk T kr).text) (.int .i64 0) (.slice (some ⟨w6.heap.size+1,0,none⟩) 2 2) (.int .i64 (t.frm:Int)) (.int .i64 (m:Int)) (.int .i64 (t.frm:Int))).move (Q:=fun b=>w.heap.size<b/\b≠w2.heap.size) (br _) (fun _ _ _=>rfl) (fun b hb _=>⟨hb.1,hb.2.1⟩)
          exact NR.two (P:=fun b=>w.heap.size<b/\b≠w2.heap.size) 7 (tk T kr).text 0 t.frm m t.frm (hRw.setO7 (b:=w2.heap.size) (by omega) (.int .i64 7) (.string (tk T kr).text) (.int .i64 0) (.slice (some ⟨w6.heap.size+1,0,none⟩) 2 2) (.int .i64 (t.frm:Int)) (.int .i64 (m:Int)) (.int .i64 (t.frm:Int))) rfl na nb (by omega) 2)
       |(have hNo:=HNo;refine⟨⟨7,(tk T kr).text,0,some ⟨w7.heap.size,0,none⟩,2,2,(t.frm:Int),(m:Int),(t.frm:Int)⟩,?_,?_,?_,?_,?_,ai (fun b k2 hq=>?_)⟩
         .exact(((uh HS7).set7 (b:=w2.heap.size) (by omega) (by omega) (.int .i64 7) (.string (tk T kr).text) (.int .i64 0) (.slice (some ⟨w7.heap.size,0,none⟩) 2 2) (.int .i64 (t.frm:Int)) (.int .i64 (m:Int)) (.int .i64 (t.frm:Int))).alloc (.cells (nvB y z) 62))
         .exact(((uh HK7).set7 (b:=w2.heap.size) (by omega) (.int .i64 7) (.string (tk T kr).text) (.int .i64 0) (.slice (some ⟨w7.heap.size,0,none⟩) 2 2) (.int .i64 (t.frm:Int)) (.int .i64 (m:Int)) (.int .i64 (t.frm:Int))).alloc (.cells (nvB y z) 62))
         .simp[World.setCell];omega
         .exact(((uh HB71).set7 rfl (.int .i64 7) (.string (tk T kr).text) (.int .i64 0) (.slice (some ⟨w7.heap.size,0,none⟩) 2 2) (.int .i64 (t.frm:Int)) (.int .i64 (m:Int)) (.int .i64 (t.frm:Int))).alloc (.cells (nvB y z) 62))
         .exact(((uh HB70).setO7 (b:=w2.heap.size) (by omega) (.int .i64 7) (.string (tk T kr).text) (.int .i64 0) (.slice (some ⟨w7.heap.size,0,none⟩) 2 2) (.int .i64 (t.frm:Int)) (.int .i64 (m:Int)) (.int .i64 (t.frm:Int))).alloc (.cells (nvB y z) 62))
         .rw[<-uh Hn k2 (qas hq)]
          have na:=(NR.bel (qcf (uh HNa) (b2:=w2.heap.size) (fun b hb _=>hb.2.1) (.int .i64 7) (.string (tk T kr).text) (.int .i64 0) (.slice (some ⟨w7.heap.size,0,none⟩) 2 2) (.int .i64 (t.frm:Int)) (.int .i64 (m:Int)) (.int .i64 (t.frm:Int))) (bw (.cells (nvB y z) 62))).move (Q:=fun b=>w.heap.size<b/\b≠w2.heap.size) (br _) (fun _ _ _=>rfl) (fun b hb _=>⟨hb.1,hb.2.1⟩)
          have nb:=(NR.bel (qcf (uh HNb b k2 hq) (b2:=w2.heap.size) (fun b hb _=>hb.2.1) (.int .i64 7) (.string (tk T kr).text) (.int .i64 0) (.slice (some ⟨w7.heap.size,0,none⟩) 2 2) (.int .i64 (t.frm:Int)) (.int .i64 (m:Int)) (.int .i64 (t.frm:Int))) (bw (.cells (nvB y z) 62))).move (Q:=fun b=>w.heap.size<b/\b≠w2.heap.size) (br _) (fun _ _ _=>rfl) (fun b hb _=>⟨hb.1,hb.2.1⟩)
          exact NR.two (P:=fun b=>w.heap.size<b/\b≠w2.heap.size) 7 (tk T kr).text 0 t.frm m t.frm (Bx.at _ (nvB y z) 62 (w7.heap.size) (by simp[World.setCell])) rfl na nb (by omega) 2)
   .obtain⟨f2,rfl⟩:∃f2,fu=f2+1:=⟨fu-1,by omega⟩
    obtain⟨c0,f0,y0⟩:=uh BX
    obtain⟨c1,f1,y1⟩:=uh BR
    have hi:isS T (.ok kr) kPlus=true:=hpl
    have h7:(tk T kr).kind≠7:=by have:=qbe hpl;omega
    have hst2:Hid (isT (tk T kr) kPlus=true\/isT (tk T kr) kMinus=true):=Or.inl hpl
    clear hpl
    go_wp2_with fail
    refine(is_S (uh HR) kPlus).mono ?_
    rintro e w3⟨rfl,hb⟩
    have H501:=ai ((uh HR).below hb)
    have K502:=ai ((uh KR).below hb)
    have z503:=hb.size
    try simp[World.setCell]at z503
    have B504:=ai ((uh BR).below hb)
    have B505:=ai ((uh BX).below hb)
    have R506:=ai (NR.bel (uh hNN) hb)
    clear HR KR BR BX hNN hb
    obtain⟨c507,f508,y509⟩:=uh B504
    obtain⟨c510,f511,y512⟩:=uh B505
    go_wp2_with fail
    clear c0 f0 y0 c1 f1 y1 c507 f508 y509 c510 f511 y512
    refine(qcp (uh H501) h7).mono ?_
    rintro e w5⟨rfl,hb,hS⟩
    have H517:=ai hS
    have K518:=ai ((uh K502).trans hb)
    have z519:=hb.size
    try simp[World.setCell]at z519
    have B520:=ai ((uh B504).ke hb (by omega))
    have B521:=ai ((uh B505).ke hb (by omega))
    have R522:=ai (NR.ke (uh R506) hb (fun b hb=>by omega))
    clear H501 K502 B504 B505 R506 hb hS
    obtain⟨c523,f524,y525⟩:=uh B520
    obtain⟨c526,f527,y528⟩:=uh B521
    unfold tokV
    go_wp2_with fail
    have H529:=ai ((uh H517).alloc (.cells #[.int .i64 ((tk T kr).kind:Int),.string (tk T kr).text,.int .i64 ((tk T kr).frm:Int),.int .i64 ((tk T kr).to:Int)] 58))
    have K530:=ai ((uh K518).alloc (.cells #[.int .i64 ((tk T kr).kind:Int),.string (tk T kr).text,.int .i64 ((tk T kr).frm:Int),.int .i64 ((tk T kr).to:Int)] 58))
    have B531:=ai ((uh B520).alloc (.cells #[.int .i64 ((tk T kr).kind:Int),.string (tk T kr).text,.int .i64 ((tk T kr).frm:Int),.int .i64 ((tk T kr).to:Int)] 58))
    have B532:=ai ((uh B521).alloc (.cells #[.int .i64 ((tk T kr).kind:Int),.string (tk T kr).text,.int .i64 ((tk T kr).frm:Int),.int .i64 ((tk T kr).to:Int)] 58))
    have B533:=ai (Bx.at w5 #[.int .i64 ((tk T kr).kind:Int),.string (tk T kr).text,.int .i64 ((tk T kr).frm:Int),.int .i64 ((tk T kr).to:Int)] 58 (w5.heap.size) (by simp[World.setCell]))
    have R534:=ai ((NR.bel (uh R522) (bw (.cells #[.int .i64 ((tk T kr).kind:Int),.string (tk T kr).text,.int .i64 ((tk T kr).frm:Int),.int .i64 ((tk T kr).to:Int)] 58))))
    clear H517 K518 B520 B521 R522 c523 f524 y525 c526 f527 y528
    refine(uh HS' _ _ (uh H529) (by intro j hj;cases hj;have:=uh hf' k rfl;omega)).mono ?_
    rintro e w6⟨z,rfl,hb,hS,hN⟩
    have H535:=ai hS
    have K536:=ai ((uh K530).trans hb)
    have z537:=hb.size
    try simp[World.setCell]at z537
    have B538:=ai ((uh B531).ke hb (by omega))
    have B539:=ai ((uh B532).ke hb (by omega))
    have B540:=ai ((uh B533).ke hb (by omega))
    have R541:=ai (NR.ke (uh R534) hb (fun b hb=>by omega))
    clear H529 K530 B531 B532 B533 R534 hb hS
    obtain⟨c542,f543,y544⟩:=uh B538
    obtain⟨c545,f546,y547⟩:=uh B539
    obtain⟨c548,f549,y550⟩:=uh B540
    have hNz:=ai (fun b k2 (hq:sub (kr+1)=.ok (b,k2))=>(hN _ b k2 rfl hq).rng w5.heap.size (fun b hb=>by have h5:=hb;simp at h5;omega))
    clear hN
    unfold NV.v
    go_wp2_with fail
    have H551:=ai ((uh H535).alloc (.cells (nvA z) 62))
    have K552:=ai ((uh K536).alloc (.cells (nvA z) 62))
    have B553:=ai ((uh B538).alloc (.cells (nvA z) 62))
    have B554:=ai ((uh B539).alloc (.cells (nvA z) 62))
    have B555:=ai ((uh B540).alloc (.cells (nvA z) 62))
    have B556:=ai (Bx.at w6 (nvA z) 62 (w6.heap.size) (by simp[World.setCell]))
    have R557:=ai ((NR.bel (uh R541) (bw (.cells (nvA z) 62))))
    have R558:=ai (fun b k2 hq=>(NR.bel (uh hNz b k2 hq) (bw (.cells (nvA z) 62))))
    clear H535 K536 B538 B539 B540 R541 hNz
    have HX:∀W,(W=(w6.alloc (.cells (nvA z) 62)).drew\/W=((w6.alloc (.cells (nvA z) 62)).alloc (.cells (nvB y z) 62)).drew)->SS W rb g cap T (nx (.ok (kr+1)) sub)/\∀w7,Below W.heap.size W w7->SS w7 rb g cap T (nx (.ok (kr+1)) sub)/\Ke rb w w7/\Bx w7 (w.heap.size) #[.int .i64 0,.string ⟨#[]⟩,.int .i64 0,.slice none 0 0,.int .i64 0,.int .i64 0,.int .i64 0]/\Bx w7 (w2.heap.size) #[.int .i64 y.k,.string y.s,.int .i64 y.n,.slice y.la y.ll y.lc,.int .i64 y.f,.int .i64 y.t,.int .i64 y.a]/\Bx w7 (w5.heap.size) #[.int .i64 ((tk T kr).kind:Int),.string (tk T kr).text,.int .i64 ((tk T kr).frm:Int),.int .i64 ((tk T kr).to:Int)]/\Bx w7 (w6.heap.size) #[.int .i64 z.k,.string z.s,.int .i64 z.n,.slice z.la z.ll z.lc,.int .i64 z.f,.int .i64 z.t,.int .i64 z.a]/\(W=((w6.alloc (.cells (nvA z) 62)).alloc (.cells (nvB y z) 62)).drew->Bx w7 (w6.heap.size+1) (nvB y z))/\NR w7 (fun b=>w.heap.size<b/\b≠w2.heap.size/\b<w6.heap.size) nd y/\∀b k2,sub (kr+1)=.ok (b,k2)->NR w7 (fun b=>w.heap.size<b/\b≠w2.heap.size/\b<w6.heap.size) b z:=by
     rintro W(rfl|rfl)
     .exact⟨(uh H551).drew,fun w7 hb=>⟨((uh H551).drew).below hb,((uh K552).drew).below hb,((uh B553).drew).below hb,((uh B554).drew).below hb,((uh B555).drew).below hb,((uh B556).drew).below hb,fun e=>absurd (congrArg (fun w=>w.heap.size) e) (by simp),(((uh R557).move (br _) (fun _ _ _=>rfl) (fun b hb _=>by omega)).bel ((Below.refl _ _).drew)).bel hb,fun b k2 hq=>(((uh R558 b k2 hq).move (br _) (fun _ _ _=>rfl) (fun b hb _=>by omega)).bel ((Below.refl _ _).drew)).bel hb⟩⟩
     .exact⟨((uh H551).alloc (.cells (nvB y z) 62)).drew,fun w7 hb=>⟨(((uh H551).alloc (.cells (nvB y z) 62)).drew).below hb,(((uh K552).alloc (.cells (nvB y z) 62)).drew).below hb,(((uh B553).alloc (.cells (nvB y z) 62)).drew).below hb,(((uh B554).alloc (.cells (nvB y z) 62)).drew).below hb,(((uh B555).alloc (.cells (nvB y z) 62)).drew).below hb,(((uh B556).alloc (.cells (nvB y z) 62)).drew).below hb,fun _=>((Bx.at _ (nvB y z) 62 (w6.heap.size+1) (by simp)).drew).below hb,(((uh R557).move (br _) (fun _ _ _=>rfl) (fun b hb _=>by omega)).bel ((bw (.cells (nvB y z) 62)).drew)).bel hb,fun b k2 hq=>(((uh R558 b k2 hq).move (br _) (fun _ _ _=>rfl) (fun b hb _=>by omega)).bel ((bw (.cells (nvB y z) 62)).drew)).bel hb⟩⟩
    have HX1:=ai HX
    clear HX
    go_region_with(go_at_call 206;refine(qd1 (uh HX1 _ (by first|exact Or.inl rfl|exact Or.inr rfl)).1).mono ?_;rintro e w7⟨m,rfl,hb,hn⟩;obtain⟨S7,K7,b70,b71,b72,b73,R7,Na7,Nb7⟩:=(uh HX1 _ (by first|exact Or.inl rfl|exact Or.inr rfl)).2 _ hb;have zz:=hb.size;have HB70:=ai b70;obtain⟨q0c,q0f,q0z⟩:=b70;have HB71:=ai b71;obtain⟨q1c,q1f,q1z⟩:=b71;have HB72:=ai b72;obtain⟨q2c,q2f,q2z⟩:=b72;have HB73:=ai b73;obtain⟨q3c,q3f,q3z⟩:=b73;have HS7:=ai S7;have HK7:=ai K7;have HNa:=ai Na7;have HNb:=ai Nb7;have Hn:=ai hn;first|(have hRw:=R7 rfl;have HRow:=ai hRw;clear hRw)|(have HNo:Hid (0=0):=rfl);clear S7 K7 Na7 Nb7 R7 hb hn)
    all_goals
     go_wp2_with fail
     go_roundg(T.length-(kr+1))
     case measure=>omega
     case rel=>
      refine sum_rel (uh hW) (uh hst2) (uh hfrm) (uh hm') hkr hfu ?_
      first
      |(have hRw:=uh HRow;refine⟨⟨7,(tk T kr).text,0,some ⟨w6.heap.size+1,0,none⟩,2,2,(t.frm:Int),(m:Int),(t.frm:Int)⟩,?_,?_,?_,?_,?_,ai (fun b k2 hq=>?_)⟩
        .exact((uh HS7).set7 (b:=w2.heap.size) (by omega) (by omega) (.int .i64 7) (.string (tk T kr).text) (.int .i64 0) (.slice (some ⟨w6.heap.size+1,0,none⟩) 2 2) (.int .i64 (t.frm:Int)) (.int .i64 (m:Int)) (.int .i64 (t.frm:Int)))
        .exact((uh HK7).set7 (b:=w2.heap.size) (by omega) (.int .i64 7) (.string (tk T kr).text) (.int .i64 0) (.slice (some ⟨w6.heap.size+1,0,none⟩) 2 2) (.int .i64 (t.frm:Int)) (.int .i64 (m:Int)) (.int .i64 (t.frm:Int)))
        .simp[World.setCell];omega
        .exact((uh HB71).set7 rfl (.int .i64 7) (.string (tk T kr).text) (.int .i64 0) (.slice (some ⟨w6.heap.size+1,0,none⟩) 2 2) (.int .i64 (t.frm:Int)) (.int .i64 (m:Int)) (.int .i64 (t.frm:Int)))
        .exact((uh HB70).setO7 (b:=w2.heap.size) (by omega) (.int .i64 7) (.string (tk T kr).text) (.int .i64 0) (.slice (some ⟨w6.heap.size+1,0,none⟩) 2 2) (.int .i64 (t.frm:Int)) (.int .i64 (m:Int)) (.int .i64 (t.frm:Int)))
        .rw[<-uh Hn k2 (qas hq)]
         have na:=(qcf (uh HNa) (b2:=w2.heap.size) (fun b hb _=>hb.2.1) (.int .i64 7) (.string (tk T kr).text) (.int .i64 0) (.slice (some ⟨w6.heap.size+1,0,none⟩) 2 2) (.int .i64 (t.frm:Int)) (.int .i64 (m:Int)) (.int .i64 (t.frm:Int))).move (Q:=fun b=>w.heap.size<b/\b≠w2.heap.size) (br _) (fun _ _ _=>rfl) (fun b hb _=>⟨hb.1,hb.2.1⟩)
         have nb:=(qcf (uh HNb b k2 hq) (b2:=w2.heap.size) (fun b hb _=>hb.2.1) (.int .i64 7) (.string (tk T kr).text) (.int .i64 0) (.slice (some ⟨w6.heap.size+1,0,none⟩) 2 2) (.int .i64 (t.frm:Int)) (.int .i64 (m:Int)) (.int .i64 (t.frm:Int))).move (Q:=fun b=>w.heap.size<b/\b≠w2.heap.size) (br _) (fun _ _ _=>rfl) (fun b hb _=>⟨hb.1,hb.2.1⟩)
         exact NR.two (P:=fun b=>w.heap.size<b/\b≠w2.heap.size) 7 (tk T kr).text 0 t.frm m t.frm (hRw.setO7 (b:=w2.heap.size) (by omega) (.int .i64 7) (.string (tk T kr).text) (.int .i64 0) (.slice (some ⟨w6.heap.size+1,0,none⟩) 2 2) (.int .i64 (t.frm:Int)) (.int .i64 (m:Int)) (.int .i64 (t.frm:Int))) rfl na nb (by omega) 2)
      |(have hNo:=HNo;refine⟨⟨7,(tk T kr).text,0,some ⟨w7.heap.size,0,none⟩,2,2,(t.frm:Int),(m:Int),(t.frm:Int)⟩,?_,?_,?_,?_,?_,ai (fun b k2 hq=>?_)⟩
        .exact(((uh HS7).set7 (b:=w2.heap.size) (by omega) (by omega) (.int .i64 7) (.string (tk T kr).text) (.int .i64 0) (.slice (some ⟨w7.heap.size,0,none⟩) 2 2) (.int .i64 (t.frm:Int)) (.int .i64 (m:Int)) (.int .i64 (t.frm:Int))).alloc (.cells (nvB y z) 62))
        .exact(((uh HK7).set7 (b:=w2.heap.size) (by omega) (.int .i64 7) (.string (tk T kr).text) (.int .i64 0) (.slice (some ⟨w7.heap.size,0,none⟩) 2 2) (.int .i64 (t.frm:Int)) (.int .i64 (m:Int)) (.int .i64 (t.frm:Int))).alloc (.cells (nvB y z) 62))
        .simp[World.setCell];omega
        .exact(((uh HB71).set7 rfl (.int .i64 7) (.string (tk T kr).text) (.int .i64 0) (.slice (some ⟨w7.heap.size,0,none⟩) 2 2) (.int .i64 (t.frm:Int)) (.int .i64 (m:Int)) (.int .i64 (t.frm:Int))).alloc (.cells (nvB y z) 62))
        .exact(((uh HB70).setO7 (b:=w2.heap.size) (by omega) (.int .i64 7) (.string (tk T kr).text) (.int .i64 0) (.slice (some ⟨w7.heap.size,0,none⟩) 2 2) (.int .i64 (t.frm:Int)) (.int .i64 (m:Int)) (.int .i64 (t.frm:Int))).alloc (.cells (nvB y z) 62))
        .rw[<-uh Hn k2 (qas hq)]
         have na:=(NR.bel (qcf (uh HNa) (b2:=w2.heap.size) (fun b hb _=>hb.2.1) (.int .i64 7) (.string (tk T kr).text) (.int .i64 0) (.slice (some ⟨w7.heap.size,0,none⟩) 2 2) (.int .i64 (t.frm:Int)) (.int .i64 (m:Int)) (.int .i64 (t.frm:Int))) (bw (.cells (nvB y z) 62))).move (Q:=fun b=>w.heap.size<b/\b≠w2.heap.size) (br _) (fun _ _ _=>rfl) (fun b hb _=>⟨hb.1,hb.2.1⟩)
         have nb:=(NR.bel (qcf (uh HNb b k2 hq) (b2:=w2.heap.size) (fun b hb _=>hb.2.1) (.int .i64 7) (.string (tk T kr).text) (.int .i64 0) (.slice (some ⟨w7.heap.size,0,none⟩) 2 2) (.int .i64 (t.frm:Int)) (.int .i64 (m:Int)) (.int .i64 (t.frm:Int))) (bw (.cells (nvB y z) 62))).move (Q:=fun b=>w.heap.size<b/\b≠w2.heap.size) (br _) (fun _ _ _=>rfl) (fun b hb _=>⟨hb.1,hb.2.1⟩)
         exact NR.two (P:=fun b=>w.heap.size<b/\b≠w2.heap.size) 7 (tk T kr).text 0 t.frm m t.frm (Bx.at _ (nvB y z) 62 (w7.heap.size) (by simp[World.setCell])) rfl na nb (by omega) 2)
end
end
end Go.Proofs.YtoceemjbcgmojaaGreatDoor

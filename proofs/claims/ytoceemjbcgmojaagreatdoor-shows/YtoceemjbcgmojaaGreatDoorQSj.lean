import Derived.Deep.RegionHeld3
import Derived.Test.YtoceemjbcgmojaaGreatDoorQSh0
set_option linter.all false
set_option maxRecDepth 100000
set_option maxHeartbeats 4000000
namespace Go.Proofs.YtoceemjbcgmojaaGreatDoor
section
open Go Go.RowKit
section
variable {rb g cap:Nat} {T:List Pu.Tok} {σ:St} {w:World}
theorem qd4(a0 a1 a2 a3:Value)(w:World):(Instr.field 58 (.agg #[a0,a1,a2,a3]) 2).run Tryz.prog w=.ok a2 w:=by kernel_rfl
theorem typed_no{n:Nat}{head:M Nd}(h:SS w rb g cap T σ)(hf:∀k,σ=.ok k->T.length<=k+n)(HH:NodeC rb g cap T 118 #[.pointer (some ⟨rb,0,none⟩),.int .i64 1] head n)(hk:isS T (nx σ head) kArrow=false):
 Calls Tryz.prog 135 #[.pointer (some ⟨rb,0,none⟩)] w fun e w'=>∃x:NV,e=.returned x.v/\Ke rb w w'/\SS w' rb g cap T (nx σ head)/\∀k a k',σ=.ok k->head k=.ok (a,k')->NR w' (fun b=>w.heap.size<=b) a x:=by
 have HH':=ai HH
 have hf':=ai hf
 have ff:=qd4
 clear HH hf
 have hr:=h.hr
 have hg:=h.hg
 have H1:=ai h
 have K2:=ai (Ke.refl rb w)
 clear h
 go_enter Tryz.func135,Tryz.ntmps135
 go_wp2_with fail
 have H3:=ai ((uh H1).alloc (.cells qat 62))
 have K4:=ai ((uh K2).alloc (.cells qat 62))
 have B5:=ai (Bx.at w qat 62 (w.heap.size) (by simp[World.setCell]))
 clear H1 K2
 refine(qb5 (uh H3)).mono ?_
 rintro e w1⟨t,rfl,hb,ht⟩
 have H6:=ai ((uh H3).below hb)
 have K7:=ai ((uh K4).below hb)
 have z8:=hb.size
 try simp[World.setCell]at z8
 have B9:=ai ((uh B5).below hb)
 clear H3 K4 B5 hb
 obtain⟨c10,f11,y12⟩:=uh B9
 clear ht
 unfold tokV
 go_wp2_with fail
 clear c10 f11 y12
 refine(uh HH' _ _ (uh H6) (uh hf')).mono ?_
 rintro e w2⟨x,rfl,hb,hS,hN⟩
 have H16:=ai hS
 have K17:=ai ((uh K7).trans hb)
 have z18:=hb.size
 try simp[World.setCell]at z18
 have B19:=ai ((uh B9).ke hb (by omega))
 clear H6 K7 B9 hb hS
 obtain⟨c20,f21,y22⟩:=uh B19
 have hN1:=ai (fun k a k' (h1:σ=.ok k) (hq:head k=.ok (a,k'))=>(hN k a k' h1 hq).rng w1.heap.size (fun b hb=>by simpa using hb))
 clear hN
 unfold NV.v
 go_wp2_with fail
 have H23:=ai ((uh H16).alloc (.cells (nvA x) 62))
 have K24:=ai ((uh K17).alloc (.cells (nvA x) 62))
 have B25:=ai ((uh B19).alloc (.cells (nvA x) 62))
 have B26:=ai (Bx.at w2 (nvA x) 62 (w2.heap.size) (by simp[World.setCell]))
 have R27:=ai (fun k a k' h1 hq=>(NR.bel (uh hN1 k a k' h1 hq) (bw (.cells (nvA x) 62))))
 clear H16 K17 B19 hN1 c20 f21 y22
 refine(is_S (uh H23) kArrow).mono ?_
 rintro e w3⟨rfl,hb⟩
 have H28:=ai ((uh H23).below hb)
 have K29:=ai ((uh K24).below hb)
 have z30:=hb.size
 try simp[World.setCell]at z30
 have B31:=ai ((uh B25).below hb)
 have B32:=ai ((uh B26).below hb)
 have R33:=ai (fun k a k' h1 hq=>NR.bel (uh R27 k a k' h1 hq) hb)
 clear H23 K24 B25 B26 R27 hb
 obtain⟨c34,f35,y36⟩:=uh B31
 obtain⟨c37,f38,y39⟩:=uh B32
 go_wp2_with fail
 have H40:=ai ((uh H28).st7 (b:=w.heap.size) (by omega) (by omega) x)
 have K41:=ai ((uh K29).st7 (b:=w.heap.size) (by omega) x)
 have B42:=ai ((uh B31).st7 rfl x)
 have B43:=ai ((uh B32).stO7 (b:=w.heap.size) (by omega) x)
 have R44:=ai (fun k a k' h1 hq=>(NRst7 (uh R33 k a k' h1 hq) (b2:=w.heap.size) (fun b hb _=>by omega) x))
 clear H28 K29 B31 B32 R33 c34 f35 y36 c37 f38 y39
 obtain⟨cF,fF,zF⟩:=uh B42
 refine bodyPost_ret (v:=NV.v x) (by simp[results,Tryz.results135,go_sem,cF,NV.v];try rfl) rfl ⟨_,rfl,uh K41,uh H40,fun k a k' h1 hq=>?_⟩
 exact(uh R44 k a k' h1 hq).wide _ (fun b hb=>by omega)
theorem typed_yes{n k:Nat}{head typ:M Nd}(h:SS w rb g cap T (.ok k))(hf:T.length<=k+(n+1))(HH:NodeC rb g cap T 118 #[.pointer (some ⟨rb,0,none⟩),.int .i64 1] head (n+1))(HT:NodeC rb g cap T 135 #[.pointer (some ⟨rb,0,none⟩)] typ n){a:Nd}{k1:Nat}(hp:head k=.ok (a,k1))(hlt:k<k1)(hk:isT (tk T k1) kArrow=true):
 Calls Tryz.prog 135 #[.pointer (some ⟨rb,0,none⟩)] w fun e w'=>∃x:NV,e=.returned x.v/\Ke rb w w'/\SS w' rb g cap T (nx (.ok (k1+1)) typ)/\∀b k',typ (k1+1)=.ok (b,k')->NR w' (fun b=>w.heap.size<=b) (.mk 17 kNo 0 [a,b] (tk T k).frm (qan T k') (tk T k).frm) x:=by
 have HH':=ai HH
 have HT':=ai HT
 have hp':=ai hp
 have ff:=qd4
 have h7:(tk T k1).kind≠7:=by have:=qbe hk;omega
 have hD:isS T (.ok k1) kArrow=true:=hk
 clear HH HT hp hk
 have hr:=h.hr
 have hg:=h.hg
 have H1:=ai h
 have K2:=ai (Ke.refl rb w)
 clear h
 go_enter Tryz.func135,Tryz.ntmps135
 go_wp2_with fail
 have H3:=ai ((uh H1).alloc (.cells qat 62))
 have K4:=ai ((uh K2).alloc (.cells qat 62))
 have B5:=ai (Bx.at w qat 62 (w.heap.size) (by simp[World.setCell]))
 clear H1 K2
 refine(qb5 (uh H3)).mono ?_
 rintro e w1⟨t,rfl,hb,ht⟩
 have H6:=ai ((uh H3).below hb)
 have K7:=ai ((uh K4).below hb)
 have z8:=hb.size
 try simp[World.setCell]at z8
 have B9:=ai ((uh B5).below hb)
 clear H3 K4 B5 hb
 obtain⟨c10,f11,y12⟩:=uh B9
 have ht':=ht k rfl
 subst ht'
 clear ht
 unfold tokV
 go_wp2_with fail
 clear c10 f11 y12
 refine(uh HH' _ _ (uh H6) (by intro j hj;cases hj;omega)).mono ?_
 rintro e w2⟨x,rfl,hb,hS,hN⟩
 have H16:=ai hS
 have K17:=ai ((uh K7).trans hb)
 have z18:=hb.size
 try simp[World.setCell]at z18
 have B19:=ai ((uh B9).ke hb (by omega))
 clear H6 K7 B9 hb hS
 obtain⟨c20,f21,y22⟩:=uh B19
 have hN1:=ai ((hN _ _ _ rfl (uh hp')).rng w1.heap.size (fun b hb=>by simpa using hb))
 clear hN
 rw[qas (uh hp')]at H16
 unfold NV.v
 go_wp2_with fail
 have H23:=ai ((uh H16).alloc (.cells (nvA x) 62))
 have K24:=ai ((uh K17).alloc (.cells (nvA x) 62))
 have B25:=ai ((uh B19).alloc (.cells (nvA x) 62))
 have B26:=ai (Bx.at w2 (nvA x) 62 (w2.heap.size) (by simp[World.setCell]))
 have R27:=ai ((NR.bel (uh hN1) (bw (.cells (nvA x) 62))))
 clear H16 K17 B19 hN1 c20 f21 y22
 refine(is_S (uh H23) kArrow).mono ?_
 rintro e w3⟨rfl,hb⟩
 have H28:=ai ((uh H23).below hb)
 have K29:=ai ((uh K24).below hb)
 have z30:=hb.size
 try simp[World.setCell]at z30
 have B31:=ai ((uh B25).below hb)
 have B32:=ai ((uh B26).below hb)
 have R33:=ai (NR.bel (uh R27) hb)
 clear H23 K24 B25 B26 R27 hb
 obtain⟨c34,f35,y36⟩:=uh B31
 obtain⟨c37,f38,y39⟩:=uh B32
 go_wp2_with fail
 clear c34 f35 y36 c37 f38 y39
 refine(qcp (uh H28) h7).mono ?_
 rintro e w4⟨rfl,hb,hS⟩
 have H44:=ai hS
 have K45:=ai ((uh K29).trans hb)
 have z46:=hb.size
 try simp[World.setCell]at z46
 have B47:=ai ((uh B31).ke hb (by omega))
 have B48:=ai ((uh B32).ke hb (by omega))
 have R49:=ai (NR.ke (uh R33) hb (fun b hb=>by omega))
 clear H28 K29 B31 B32 R33 hb hS
 obtain⟨c50,f51,y52⟩:=uh B47
 obtain⟨c53,f54,y55⟩:=uh B48
 go_wp2_with fail
 clear c50 f51 y52 c53 f54 y55
 refine(uh HT' _ _ (uh H44) (by intro j hj;cases hj;omega)).mono ?_
 rintro e w5⟨y,rfl,hb,hS,hN⟩
 have H60:=ai hS
 have K61:=ai ((uh K45).trans hb)
 have z62:=hb.size
 try simp[World.setCell]at z62
 have B63:=ai ((uh B47).ke hb (by omega))
 have B64:=ai ((uh B48).ke hb (by omega))
 have R65:=ai (NR.ke (uh R49) hb (fun b hb=>by omega))
 clear H44 K45 B47 B48 R49 hb hS
 obtain⟨c66,f67,y68⟩:=uh B63
 obtain⟨c69,f70,y71⟩:=uh B64
 have hN2:=ai (fun b k' (hq:typ (k1+1)=.ok (b,k'))=>(hN _ b k' rfl hq).rng w4.heap.size (fun b hb=>by simpa using hb))
 clear hN
 unfold NV.v
 go_wp2_with fail
 have H72:=ai ((uh H60).alloc (.cells (nvA y) 62))
 have K73:=ai ((uh K61).alloc (.cells (nvA y) 62))
 have B74:=ai ((uh B63).alloc (.cells (nvA y) 62))
 have B75:=ai ((uh B64).alloc (.cells (nvA y) 62))
 have B76:=ai (Bx.at w5 (nvA y) 62 (w5.heap.size) (by simp[World.setCell]))
 have R77:=ai ((NR.bel (uh R65) (bw (.cells (nvA y) 62))))
 have R78:=ai (fun b k' hq=>(NR.bel (uh hN2 b k' hq) (bw (.cells (nvA y) 62))))
 clear H60 K61 B63 B64 R65 hN2
 have HX:∀W,(W=(w5.alloc (.cells (nvA y) 62)).drew\/W=((w5.alloc (.cells (nvA y) 62)).alloc (.cells (nvB x y) 62)).drew)->SS W rb g cap T (nx (.ok (k1+1)) typ)/\∀w6,Below W.heap.size W w6->SS w6 rb g cap T (nx (.ok (k1+1)) typ)/\Ke rb w w6/\Bx w6 (w.heap.size) #[.int .i64 0,.string ⟨#[]⟩,.int .i64 0,.slice none 0 0,.int .i64 0,.int .i64 0,.int .i64 0]/\Bx w6 (w2.heap.size) #[.int .i64 x.k,.string x.s,.int .i64 x.n,.slice x.la x.ll x.lc,.int .i64 x.f,.int .i64 x.t,.int .i64 x.a]/\Bx w6 (w5.heap.size) #[.int .i64 y.k,.string y.s,.int .i64 y.n,.slice y.la y.ll y.lc,.int .i64 y.f,.int .i64 y.t,.int .i64 y.a]/\NR w6 (fun b=>w.heap.size<b/\b<w5.heap.size) a x/\(∀b k',typ (k1+1)=.ok (b,k')->NR w6 (fun b=>w.heap.size<b/\b<w5.heap.size) b y)/\(W=((w5.alloc (.cells (nvA y) 62)).alloc (.cells (nvB x y) 62)).drew->Bx w6 (w5.heap.size+1) (nvB x y)):=by
  rintro W(rfl|rfl)
  .exact⟨(uh H72).drew,fun w6 hb=>⟨((uh H72).drew).below hb,((uh K73).drew).below hb,((uh B74).drew).below hb,((uh B75).drew).below hb,((uh B76).drew).below hb,(((uh R77).move (br _) (fun _ _ _=>rfl) (fun b hb _=>by omega)).bel ((Below.refl _ _).drew)).bel hb,fun b k' hq=>(((uh R78 b k' hq).move (br _) (fun _ _ _=>rfl) (fun b hb _=>by omega)).bel ((Below.refl _ _).drew)).bel hb,fun e=>absurd (congrArg (fun w=>w.heap.size) e) (by simp)⟩⟩
  .exact⟨((uh H72).alloc (.cells (nvB x y) 62)).drew,fun w6 hb=>⟨(((uh H72).alloc (.cells (nvB x y) 62)).drew).below hb,(((uh K73).alloc (.cells (nvB x y) 62)).drew).below hb,(((uh B74).alloc (.cells (nvB x y) 62)).drew).below hb,(((uh B75).alloc (.cells (nvB x y) 62)).drew).below hb,(((uh B76).alloc (.cells (nvB x y) 62)).drew).below hb,(((uh R77).move (br _) (fun _ _ _=>rfl) (fun b hb _=>by omega)).bel ((bw (.cells (nvB x y) 62)).drew)).bel hb,fun b k' hq=>(((uh R78 b k' hq).move (br _) (fun _ _ _=>rfl) (fun b hb _=>by omega)).bel ((bw (.cells (nvB x y) 62)).drew)).bel hb,fun _=>((Bx.at _ (nvB x y) 62 (w5.heap.size+1) (by simp)).drew).below hb⟩⟩
 have HX1:=ai HX
 clear HX
 have ne1:¬w.heap.size=w2.heap.size:=by omega
 have ne2:¬w.heap.size=w5.heap.size:=by omega
 go_region_held3(fun w'=>w'.cell? ⟨w2.heap.size,0,none⟩=some (.int .i64 x.k)/\w'.cell? ⟨w2.heap.size,1,none⟩=some (.string x.s)/\w'.cell? ⟨w2.heap.size,2,none⟩=some (.int .i64 x.n)/\w'.cell? ⟨w2.heap.size,3,none⟩=some (.slice x.la x.ll x.lc)/\w'.cell? ⟨w2.heap.size,4,none⟩=some (.int .i64 x.f)/\w'.cell? ⟨w2.heap.size,5,none⟩=some (.int .i64 x.t)/\w'.cell? ⟨w2.heap.size,6,none⟩=some (.int .i64 x.a)/\w'.cell? ⟨w5.heap.size,0,none⟩=some (.int .i64 y.k)/\w'.cell? ⟨w5.heap.size,1,none⟩=some (.string y.s)/\w'.cell? ⟨w5.heap.size,2,none⟩=some (.int .i64 y.n)/\w'.cell? ⟨w5.heap.size,3,none⟩=some (.slice y.la y.ll y.lc)/\w'.cell? ⟨w5.heap.size,4,none⟩=some (.int .i64 y.f)/\w'.cell? ⟨w5.heap.size,5,none⟩=some (.int .i64 y.t)/\w'.cell? ⟨w5.heap.size,6,none⟩=some (.int .i64 y.a)) (first|go_keep|(simp[World.cell?_setCell_other,ne1,ne2,ac,bc])) (first|(go_at_call 206;refine(qd1 (uh HX1 _ (by first|exact Or.inl rfl|exact Or.inr rfl)).1).mono ?_;rintro e w6⟨m,rfl,hb,hn⟩;obtain⟨S6,K6,r6,a6,b6,Na6,Nb6,R6⟩:=(uh HX1 _ (by first|exact Or.inl rfl|exact Or.inr rfl)).2 _ hb;have zz:=hb.size;obtain⟨rc,rf,rz⟩:=r6;obtain⟨ac,af,az⟩:=a6;obtain⟨bc,bf,bz⟩:=b6;have HS6:=ai S6;have HK6:=ai K6;have HNa:=ai Na6;have HNb:=ai Nb6;have HR6:=ai R6;have Hn:=ai hn;clear S6 K6 Na6 Nb6 R6 hb hn))
 .go_wp2_with fail
  refine bodyPost_ret (v:=NV.v ⟨17,kNo,0,some ⟨w5.heap.size+1,0,none⟩,2,2,((tk T k).frm:Int),(m:Int),((tk T k).frm:Int)⟩) (by simp[results,Tryz.results135,go_sem,rc,rz,NV.v];try rfl) rfl ⟨_,rfl,?_,?_,fun b k' hq=>?_⟩
  .exact(uh HK6).set7 (br _) _ _ _ _ _ _ _
  .exact(uh HS6).set7 (by omega) (by omega) _ _ _ _ _ _ _
  .obtain rfl:m=qan T k':=uh Hn k' (qas hq)
   exact NR.two (P:=fun b=>w.heap.size<=b) 17 kNo 0 (tk T k).frm (qan T k') (tk T k).frm ((uh HR6 (by first|trivial|rfl)).setO7 (b:=w.heap.size) (by omega) _ _ _ _ _ _ _) rfl ((((((((((uh HNa).set (b2:=w.heap.size) (fun b hb _=>by omega) 0 _).set (b2:=w.heap.size) (fun b hb _=>by omega) 1 _).set (b2:=w.heap.size) (fun b hb _=>by omega) 2 _).set (b2:=w.heap.size) (fun b hb _=>by omega) 3 _).set (b2:=w.heap.size) (fun b hb _=>by omega) 4 _).set (b2:=w.heap.size) (fun b hb _=>by omega) 5 _).set (b2:=w.heap.size) (fun b hb _=>by omega) 6 _)).wide _ (fun b hb=>by omega)) ((((((((((uh HNb b k' hq).set (b2:=w.heap.size) (fun b hb _=>by omega) 0 _).set (b2:=w.heap.size) (fun b hb _=>by omega) 1 _).set (b2:=w.heap.size) (fun b hb _=>by omega) 2 _).set (b2:=w.heap.size) (fun b hb _=>by omega) 3 _).set (b2:=w.heap.size) (fun b hb _=>by omega) 4 _).set (b2:=w.heap.size) (fun b hb _=>by omega) 5 _).set (b2:=w.heap.size) (fun b hb _=>by omega) 6 _)).wide _ (fun b hb=>by omega)) (by omega) 2
 .go_wp2_with fail
  refine bodyPost_ret (v:=NV.v ⟨17,kNo,0,some ⟨w6.heap.size,0,none⟩,2,2,((tk T k).frm:Int),(m:Int),((tk T k).frm:Int)⟩) (by simp[results,Tryz.results135,go_sem,rc,rz,NV.v];try rfl) rfl ⟨_,rfl,?_,?_,fun b k' hq=>?_⟩
  .exact((uh HK6).set7 (br _) _ _ _ _ _ _ _).alloc _
  .exact((uh HS6).set7 (by omega) (by omega) _ _ _ _ _ _ _).alloc _
  .obtain rfl:m=qan T k':=uh Hn k' (qas hq)
   exact NR.two (P:=fun b=>w.heap.size<=b) 17 kNo 0 (tk T k).frm (qan T k') (tk T k).frm (Bx.at _ _ _ _ (by simp[World.setCell])) rfl (NR.bel ((((((((((uh HNa).set (b2:=w.heap.size) (fun b hb _=>by omega) 0 _).set (b2:=w.heap.size) (fun b hb _=>by omega) 1 _).set (b2:=w.heap.size) (fun b hb _=>by omega) 2 _).set (b2:=w.heap.size) (fun b hb _=>by omega) 3 _).set (b2:=w.heap.size) (fun b hb _=>by omega) 4 _).set (b2:=w.heap.size) (fun b hb _=>by omega) 5 _).set (b2:=w.heap.size) (fun b hb _=>by omega) 6 _)).wide _ (fun b hb=>by omega)) (bw _)) (NR.bel ((((((((((uh HNb b k' hq).set (b2:=w.heap.size) (fun b hb _=>by omega) 0 _).set (b2:=w.heap.size) (fun b hb _=>by omega) 1 _).set (b2:=w.heap.size) (fun b hb _=>by omega) 2 _).set (b2:=w.heap.size) (fun b hb _=>by omega) 3 _).set (b2:=w.heap.size) (fun b hb _=>by omega) 4 _).set (b2:=w.heap.size) (fun b hb _=>by omega) 5 _).set (b2:=w.heap.size) (fun b hb _=>by omega) 6 _)).wide _ (fun b hb=>by omega)) (bw _)) (by omega) 2
end
end
section
open Go Go.RowKit
section
variable {rb g cap:Nat} {T:List Pu.Tok} {σ:St} {w:World}
theorem part_typed{n:Nat}{m:M Nd}(HG:NodeC rb g cap T 135 #[.pointer (some ⟨rb,0,none⟩)] m n):NodeC rb g cap T 305 #[.pointer (some ⟨rb,0,none⟩),.int .i64 1] m n:=by
 intro w σ h hf
 have HG':=ai HG
 have hf':=ai hf
 clear HG hf
 have hr:=h.hr
 have hg:=h.hg
 have H1:=ai h
 have K2:=ai (Ke.refl rb w)
 clear h
 go_enter Tryz.func305,Tryz.ntmps305
 go_wp2_with fail
 have H3:=ai ((uh H1).alloc (.cells qat 62))
 have K4:=ai ((uh K2).alloc (.cells qat 62))
 have B5:=ai (Bx.at w qat 62 (w.heap.size) (by simp[World.setCell]))
 clear H1 K2
 refine(uh HG' _ _ (uh H3) (uh hf')).mono ?_
 rintro e w1⟨x,rfl,hb,hS,hN⟩
 have H6:=ai hS
 have K7:=ai ((uh K4).trans hb)
 have z8:=hb.size
 try simp[World.setCell]at z8
 have B9:=ai ((uh B5).ke hb (by omega))
 clear H3 K4 B5 hb hS
 obtain⟨c10,f11,y12⟩:=uh B9
 have hN1:=ai (fun k a k' (h1:σ=.ok k) (hq:m k=.ok (a,k'))=>(hN k a k' h1 hq).rng (w.heap.size+1) (fun b hb=>by simpa using hb))
 clear hN
 unfold NV.v
 go_wp2_with fail
 have H13:=ai ((uh H6).st7 (b:=w.heap.size) (by omega) (by omega) x)
 have K14:=ai ((uh K7).st7 (b:=w.heap.size) (by omega) x)
 have B15:=ai ((uh B9).st7 rfl x)
 have R16:=ai (fun k a k' h1 hq=>(NRst7 (uh hN1 k a k' h1 hq) (b2:=w.heap.size) (fun b hb _=>by omega) x))
 clear H6 K7 B9 hN1 c10 f11 y12
 obtain⟨cF,fF,zF⟩:=uh B15
 refine bodyPost_ret (v:=NV.v x) (by simp[results,Tryz.results305,go_sem,cF,NV.v];try rfl) rfl ⟨_,rfl,uh K14,uh H13,fun k a k' h1 hq=>?_⟩
 exact(uh R16 k a k' h1 hq).wide _ (fun b hb=>by omega)
theorem part_pattern{n:Nat}{m:M Nd}(HG:NodeC rb g cap T 306 #[.pointer (some ⟨rb,0,none⟩)] m n):NodeC rb g cap T 305 #[.pointer (some ⟨rb,0,none⟩),.int .i64 2] m n:=by
 intro w σ h hf
 have HG':=ai HG
 have hf':=ai hf
 clear HG hf
 have hr:=h.hr
 have hg:=h.hg
 have H1:=ai h
 have K2:=ai (Ke.refl rb w)
 clear h
 go_enter Tryz.func305,Tryz.ntmps305
 go_wp2_with fail
 have H3:=ai ((uh H1).alloc (.cells qat 62))
 have K4:=ai ((uh K2).alloc (.cells qat 62))
 have B5:=ai (Bx.at w qat 62 (w.heap.size) (by simp[World.setCell]))
 clear H1 K2
 refine(uh HG' _ _ (uh H3) (uh hf')).mono ?_
 rintro e w1⟨x,rfl,hb,hS,hN⟩
 have H6:=ai hS
 have K7:=ai ((uh K4).trans hb)
 have z8:=hb.size
 try simp[World.setCell]at z8
 have B9:=ai ((uh B5).ke hb (by omega))
 clear H3 K4 B5 hb hS
 obtain⟨c10,f11,y12⟩:=uh B9
 have hN1:=ai (fun k a k' (h1:σ=.ok k) (hq:m k=.ok (a,k'))=>(hN k a k' h1 hq).rng (w.heap.size+1) (fun b hb=>by simpa using hb))
 clear hN
 unfold NV.v
 go_wp2_with fail
 have H13:=ai ((uh H6).st7 (b:=w.heap.size) (by omega) (by omega) x)
 have K14:=ai ((uh K7).st7 (b:=w.heap.size) (by omega) x)
 have B15:=ai ((uh B9).st7 rfl x)
 have R16:=ai (fun k a k' h1 hq=>(NRst7 (uh hN1 k a k' h1 hq) (b2:=w.heap.size) (fun b hb _=>by omega) x))
 clear H6 K7 B9 hN1 c10 f11 y12
 obtain⟨cF,fF,zF⟩:=uh B15
 refine bodyPost_ret (v:=NV.v x) (by simp[results,Tryz.results305,go_sem,cF,NV.v];try rfl) rfl ⟨_,rfl,uh K14,uh H13,fun k a k' h1 hq=>?_⟩
 exact(uh R16 k a k' h1 hq).wide _ (fun b hb=>by omega)
theorem part_expr{n:Nat}{m:M Nd}(HG:NodeC rb g cap T 120 #[.pointer (some ⟨rb,0,none⟩)] m n):NodeC rb g cap T 305 #[.pointer (some ⟨rb,0,none⟩),.int .i64 3] m n:=by
 intro w σ h hf
 have HG':=ai HG
 have hf':=ai hf
 clear HG hf
 have hr:=h.hr
 have hg:=h.hg
 have H1:=ai h
 have K2:=ai (Ke.refl rb w)
 clear h
 go_enter Tryz.func305,Tryz.ntmps305
 go_wp2_with fail
 have H3:=ai ((uh H1).alloc (.cells qat 62))
 have K4:=ai ((uh K2).alloc (.cells qat 62))
 have B5:=ai (Bx.at w qat 62 (w.heap.size) (by simp[World.setCell]))
 clear H1 K2
 refine(uh HG' _ _ (uh H3) (uh hf')).mono ?_
 rintro e w1⟨x,rfl,hb,hS,hN⟩
 have H6:=ai hS
 have K7:=ai ((uh K4).trans hb)
 have z8:=hb.size
 try simp[World.setCell]at z8
 have B9:=ai ((uh B5).ke hb (by omega))
 clear H3 K4 B5 hb hS
 obtain⟨c10,f11,y12⟩:=uh B9
 have hN1:=ai (fun k a k' (h1:σ=.ok k) (hq:m k=.ok (a,k'))=>(hN k a k' h1 hq).rng (w.heap.size+1) (fun b hb=>by simpa using hb))
 clear hN
 unfold NV.v
 go_wp2_with fail
 have H13:=ai ((uh H6).st7 (b:=w.heap.size) (by omega) (by omega) x)
 have K14:=ai ((uh K7).st7 (b:=w.heap.size) (by omega) x)
 have B15:=ai ((uh B9).st7 rfl x)
 have R16:=ai (fun k a k' h1 hq=>(NRst7 (uh hN1 k a k' h1 hq) (b2:=w.heap.size) (fun b hb _=>by omega) x))
 clear H6 K7 B9 hN1 c10 f11 y12
 obtain⟨cF,fF,zF⟩:=uh B15
 refine bodyPost_ret (v:=NV.v x) (by simp[results,Tryz.results305,go_sem,cF,NV.v];try rfl) rfl ⟨_,rfl,uh K14,uh H13,fun k a k' h1 hq=>?_⟩
 exact(uh R16 k a k' h1 hq).wide _ (fun b hb=>by omega)
theorem pattern_head{n:Nat}{m:M Nd}(HG:NodeC rb g cap T 118 #[.pointer (some ⟨rb,0,none⟩),.int .i64 2] m n):NodeC rb g cap T 306 #[.pointer (some ⟨rb,0,none⟩)] m n:=by
 intro w σ h hf
 have HG':=ai HG
 have hf':=ai hf
 clear HG hf
 have hr:=h.hr
 have hg:=h.hg
 have H1:=ai h
 have K2:=ai (Ke.refl rb w)
 clear h
 go_enter Tryz.func306,Tryz.ntmps306
 go_wp2_with fail
 have H3:=ai ((uh H1).alloc (.cells qat 62))
 have K4:=ai ((uh K2).alloc (.cells qat 62))
 have B5:=ai (Bx.at w qat 62 (w.heap.size) (by simp[World.setCell]))
 clear H1 K2
 refine(uh HG' _ _ (uh H3) (uh hf')).mono ?_
 rintro e w1⟨x,rfl,hb,hS,hN⟩
 have H6:=ai hS
 have K7:=ai ((uh K4).trans hb)
 have z8:=hb.size
 try simp[World.setCell]at z8
 have B9:=ai ((uh B5).ke hb (by omega))
 clear H3 K4 B5 hb hS
 obtain⟨c10,f11,y12⟩:=uh B9
 have hN1:=ai (fun k a k' (h1:σ=.ok k) (hq:m k=.ok (a,k'))=>(hN k a k' h1 hq).rng (w.heap.size+1) (fun b hb=>by simpa using hb))
 clear hN
 unfold NV.v
 go_wp2_with fail
 have H13:=ai ((uh H6).st7 (b:=w.heap.size) (by omega) (by omega) x)
 have K14:=ai ((uh K7).st7 (b:=w.heap.size) (by omega) x)
 have B15:=ai ((uh B9).st7 rfl x)
 have R16:=ai (fun k a k' h1 hq=>(NRst7 (uh hN1 k a k' h1 hq) (b2:=w.heap.size) (fun b hb _=>by omega) x))
 clear H6 K7 B9 hN1 c10 f11 y12
 obtain⟨cF,fF,zF⟩:=uh B15
 refine bodyPost_ret (v:=NV.v x) (by simp[results,Tryz.results306,go_sem,cF,NV.v];try rfl) rfl ⟨_,rfl,uh K14,uh H13,fun k a k' h1 hq=>?_⟩
 exact(uh R16 k a k' h1 hq).wide _ (fun b hb=>by omega)
theorem NodeC.zero{F:FuncId}{args:Array Value}{m m':M Nd}(h:NodeC rb g cap T F args m 0):NodeC rb g cap T F args m' 0:=by
 intro w σ hS hf
 cases σ with
 |ok k=>have h':RS w rb g cap T k noFl:=hS;have:=h'.hk;have:=hf k rfl;omega|error f=>
  refine(h w (.error f) hS (fun k hk=>by cases hk)).mono ?_
  rintro e w'⟨x,he,hK,hS',-⟩
  exact⟨x,he,hK,hS',fun k a k' hk=>by cases hk⟩
theorem small_C0(sort:Nat)(m:M Nd):NodeC rb g cap T 203 #[.pointer (some ⟨rb,0,none⟩),.int .i64 (sort:Int)] m 0:=by
 intro w σ hS hf
 cases σ with
 |ok k=>have h':RS w rb g cap T k noFl:=hS;have:=h'.hk;have:=hf k rfl;omega|error f=>
  refine(small_bad hS sort).mono ?_
  rintro e w'⟨rfl,hK,hS'⟩
  exact⟨_,rfl,hK,hS',fun k a k' hk=>by cases hk⟩
theorem head_C0(sort:Nat)(hs:sort=1\/sort=2\/sort=3)(m:M Nd):NodeC rb g cap T 118 #[.pointer (some ⟨rb,0,none⟩),.int .i64 (sort:Int)] m 0:=
 (head_C sort hs (small_C0 sort (qam T (qb1 T) (qb1 T) sort)) (qaw qdd qdd sort) (qfy sort)).zero
theorem typed_C{n:Nat}{head typ:M Nd}(HH:NodeC rb g cap T 118 #[.pointer (some ⟨rb,0,none⟩),.int .i64 1] head (n+1))(HT:NodeC rb g cap T 135 #[.pointer (some ⟨rb,0,none⟩)] typ n)(hm:∀k a k',head k=.ok (a,k')->k<k'):
 NodeC rb g cap T 135 #[.pointer (some ⟨rb,0,none⟩)] (fun k=>bnd head (qfc T typ (tk T k).frm) k) (n+1):=by
 intro w σ h hf
 rcases hk:isS T (nx σ head) kArrow with _|_
 .refine(typed_no h hf HH hk).mono ?_
  rintro e w'⟨x,he,hK,hS,hN⟩
  have hE:∀k,σ=.ok k->∀r,head k=r->bnd head (qfc T typ (tk T k).frm) k=r:=by
   intro k hs r hr
   subst hs
   cases r with
   |error f=>rw[qb8 hr]|ok p=>
    obtain⟨a,k1⟩:=p
    rw[qcd hr]
    rw[qas hr]at hk
    unfold qfc
    rw[if_neg (by rw[show isT (tk T k1) kArrow=false from hk];simp)]
  refine⟨x,he,hK,?_,fun k a k' hs hq=>hN k a k' hs ?_⟩
  .cases σ with
   |error f=>exact hS|ok k=>simp only[nx]at hS⊢;rw[hE k rfl _ rfl];exact hS
  .rw[<-hE k hs _ rfl];exact hq
 .obtain⟨k1,hs1,hk1,-⟩:=isS_yes hk
  cases σ with
  |error f=>cases hs1|ok k=>
   rcases hp:head k with f|⟨a,k2⟩
   .rw[qbn hp]at hs1;cases hs1
   .rw[qas hp]at hs1
    cases hs1
    have hE:bnd head (qfc T typ (tk T k).frm) k=bnd typ (fun b k'=>.ok (.mk 17 kNo 0 [a,b] (tk T k).frm (qan T k') (tk T k).frm,k')) (k1+1):=by
     rw[qcd hp];unfold qfc;rw[if_pos hk1]
    refine(typed_yes h (hf k rfl) HH HT hp (hm _ _ _ hp) hk1).mono ?_
    rintro e w'⟨x,he,hK,hS,hN⟩
    refine⟨x,he,hK,?_,fun j b k' hj hq=>?_⟩
    .simp only[nx]at hS⊢
     rw[hE]
     unfold bnd
     cases h3:typ (k1+1)with
     |error f=>rw[h3]at hS;exact hS|ok p=>rw[h3]at hS;exact hS
    .cases hj
     obtain⟨b1,k3,h3,h4⟩:=qad (hE.symm.trans hq)
     cases h4
     exact hN b1 k' h3
theorem typ_C:∀n,NodeC rb g cap T 135 #[.pointer (some ⟨rb,0,none⟩)] (typM T n) n:=by
 intro n
 induction n with
 |zero=>
  intro w σ h hf
  cases σ with
  |ok k=>have h':RS w rb g cap T k noFl:=h;have:=h'.hk;have:=hf k rfl;omega|error f=>
   refine(typed_no (head:=qb1 T) h hf (head_C0 1 (Or.inl rfl) (qb1 T)) rfl).mono ?_
   rintro e w'⟨x,he,hK,hS,-⟩
   exact⟨x,he,hK,hS,fun k a k' hk=>by cases hk⟩
 |succ n ih=>
  have hS:=small_C (T:=T) (typ:=typM T n) 1 (Or.inl rfl) (part_typed ih) (fun h=>by omega) (qa2 n)
  have hH:=head_C (T:=T) 1 (Or.inl rfl) hS (qaw (qa2 n) (qa2 n) 1) (qfy 1)
  exact typed_C hH ih (qfe (qaw (qa2 n) (qa2 n) 1) 1)
theorem pat_C:∀n,NodeC rb g cap T 306 #[.pointer (some ⟨rb,0,none⟩)] (patM T n) n:=by
 intro n
 induction n with
 |zero=>exact(pattern_head (head_C0 2 (Or.inr (Or.inl rfl)) (qb1 T))).zero|succ n ih=>
  have hS:=small_C (T:=T) (typ:=qb1 T) 2 (Or.inr (Or.inl rfl)) (part_pattern ih) (fun h=>by omega) (qdk n)
  exact pattern_head (head_C (T:=T) 2 (Or.inr (Or.inl rfl)) hS (qaw (qdk n) qdd 2) (qfy 2))
end
end
section
open Go Go.RowKit
section
variable {rb g cap:Nat} {T:List Pu.Tok} {σ:St} {w:World}
theorem qbf{α:Type}{m:M α}{σ:St}{k':Nat}(h:nx σ m=.ok k'):∃k a,σ=.ok k/\m k=.ok (a,k'):=by
 cases σ with
 |error f=>simp[nx]at h|ok k=>
  simp only[nx]at h
  cases e:m k with
  |error f=>rw[e]at h;simp at h|ok p=>obtain⟨a,k1⟩:=p;rw[e]at h;simp at h;subst h;exact⟨k,a,rfl,e⟩
theorem name_one(h:SS w rb g cap T σ):Calls Tryz.prog 115 #[.pointer (some ⟨rb,0,none⟩),.int .i64 1] w fun e w'=>∃t,e=.returned (tokV t)/\Ke rb w w'/\SS w' rb g cap T (nx σ (qa7 T 1))/\(∀k a k',σ=.ok k->qa7 T 1 k=.ok (a,k')->t=a):=name_S h 1 (by decide)
theorem NR.one{w:World}{P:Nat->Prop}(k:Nat)(s:BA)(n:Nat)(f t a:Nat){u:Nd}{x:NV}{g:Nat}{C:Array Value}(hB:Bx w g C)(hC:C=(flat [x]).toArray)(hu:NR w P u x)(hP:P g)(cap:Nat):
 NR w P (.mk k s n [u] f t a) ⟨k,s,n,some ⟨g,0,none⟩,1,cap,f,t,a⟩:=
 NR.ofBx k s n f t a [u] [x] (by simp) rfl hB hC (fun i hi=>by
  match i,hi with
  |0,_=>exact hu) hP cap
theorem NR.three{w:World}{P:Nat->Prop}(k:Nat)(s:BA)(n:Nat)(f t a:Nat){u v z:Nd}{x y q:NV}{g:Nat}{C:Array Value}(hB:Bx w g C)(hC:C=(flat [x,y,q]).toArray)(hu:NR w P u x)(hv:NR w P v y)(hz:NR w P z q)(hP:P g)(cap:Nat):
 NR w P (.mk k s n [u,v,z] f t a) ⟨k,s,n,some ⟨g,0,none⟩,3,cap,f,t,a⟩:=
 NR.ofBx k s n f t a [u,v,z] [x,y,q] (by simp) rfl hB hC (fun i hi=>by
  match i,hi with
  |0,_=>exact hu|1,_=>exact hv|2,_=>exact hz) hP cap
theorem fun_nx(σ:St)(expr:M Nd):nx σ (funM T expr)=nx (nx (nx (nx σ (qag T kFun)) (qa7 T 1)) (qag T kArrow)) expr:=by
 cases σ with
 |error f=>rfl|ok k=>
  simp only[nx,funM,bnd]
  cases e1:qag T kFun k with
  |error f=>rfl|ok p1=>
   simp only
   cases e2:qa7 T 1 p1.2 with
   |error f=>rfl|ok p2=>
    simp only
    cases e3:qag T kArrow p2.2 with
    |error f=>rfl|ok p3=>
     simp only
     cases e4:expr p3.2 with
     |error f=>rfl|ok p4=>rfl
theorem function_C{n:Nat}{expr:M Nd}(HE:NodeC rb g cap T 120 #[.pointer (some ⟨rb,0,none⟩)] expr n):NodeC rb g cap T 119 #[.pointer (some ⟨rb,0,none⟩)] (funM T expr) (n+1):=by
 intro w σ h hf
 have HE':=ai HE
 have hf':=ai hf
 have ff:=qd4
 rw[fun_nx]
 clear HE hf
 have hr:=h.hr
 have hg:=h.hg
 have H1:=ai h
 have K2:=ai (Ke.refl rb w)
 clear h
 go_enter Tryz.func119,Tryz.ntmps119
 go_wp2_with fail
 have H3:=ai ((uh H1).alloc (.cells qat 62))
 have K4:=ai ((uh K2).alloc (.cells qat 62))
 have B5:=ai (Bx.at w qat 62 (w.heap.size) (by simp[World.setCell]))
 clear H1 K2
 refine(qb5 (uh H3)).mono ?_
 rintro e w1⟨t,rfl,hb,ht⟩
 have H6:=ai ((uh H3).below hb)
 have K7:=ai ((uh K4).below hb)
 have z8:=hb.size
 try simp[World.setCell]at z8
 have B9:=ai ((uh B5).below hb)
 clear H3 K4 B5 hb
 obtain⟨c10,f11,y12⟩:=uh B9
 have Ht:=ai ht
 clear ht
 unfold tokV
 go_wp2_with fail
 clear c10 f11 y12
 refine(qch (uh H6) kFun).mono ?_
 rintro e w2⟨rfl,hb,hS⟩
 have H16:=ai hS
 have K17:=ai ((uh K7).trans hb)
 have z18:=hb.size
 try simp[World.setCell]at z18
 have B19:=ai ((uh B9).ke hb (by omega))
 clear H6 K7 B9 hb hS
 obtain⟨c20,f21,y22⟩:=uh B19
 go_wp2_with fail
 clear c20 f21 y22
 refine(name_one (uh H16)).mono ?_
 rintro e w3⟨tn,rfl,hb,hS,hn⟩
 have H26:=ai hS
 have K27:=ai ((uh K17).trans hb)
 have z28:=hb.size
 try simp[World.setCell]at z28
 have B29:=ai ((uh B19).ke hb (by omega))
 clear H16 K17 B19 hb hS
 obtain⟨c30,f31,y32⟩:=uh B29
 have Hn:=ai hn
 clear hn
 unfold tokV
 go_wp2_with fail
 have H33:=ai ((uh H26).alloc (.cells #[.int .i64 (tn.kind:Int),.string tn.text,.int .i64 (tn.frm:Int),.int .i64 (tn.to:Int)] 58))
 have K34:=ai ((uh K27).alloc (.cells #[.int .i64 (tn.kind:Int),.string tn.text,.int .i64 (tn.frm:Int),.int .i64 (tn.to:Int)] 58))
 have B35:=ai ((uh B29).alloc (.cells #[.int .i64 (tn.kind:Int),.string tn.text,.int .i64 (tn.frm:Int),.int .i64 (tn.to:Int)] 58))
 have B36:=ai (Bx.at w3 #[.int .i64 (tn.kind:Int),.string tn.text,.int .i64 (tn.frm:Int),.int .i64 (tn.to:Int)] 58 (w3.heap.size) (by simp[World.setCell]))
 clear H26 K27 B29 c30 f31 y32
 refine(qch (uh H33) kArrow).mono ?_
 rintro e w4⟨rfl,hb,hS⟩
 have H37:=ai hS
 have K38:=ai ((uh K34).trans hb)
 have z39:=hb.size
 try simp[World.setCell]at z39
 have B40:=ai ((uh B35).ke hb (by omega))
 have B41:=ai ((uh B36).ke hb (by omega))
 clear H33 K34 B35 B36 hb hS
 obtain⟨c42,f43,y44⟩:=uh B40
 obtain⟨c45,f46,y47⟩:=uh B41
 go_wp2_with fail
 clear c42 f43 y44 c45 f46 y47
 refine(uh HE' _ _ (uh H37) (by intro j hj;obtain⟨k3,_,e3,m3⟩:=qbf hj;obtain⟨k2,_,e2,m2⟩:=qbf e3;obtain⟨k1,_,e1,m1⟩:=qbf e2;have:=uh hf' k1 e1;have:=qah _ _ _ _ m3;have:=qbk _ _ _ _ m2;have:=qah _ _ _ _ m1;omega)).mono ?_
 rintro e w5⟨x,rfl,hb,hS,hN⟩
 have H52:=ai hS
 have K53:=ai ((uh K38).trans hb)
 have z54:=hb.size
 try simp[World.setCell]at z54
 have B55:=ai ((uh B40).ke hb (by omega))
 have B56:=ai ((uh B41).ke hb (by omega))
 clear H37 K38 B40 B41 hb hS
 obtain⟨c57,f58,y59⟩:=uh B55
 obtain⟨c60,f61,y62⟩:=uh B56
 have hN1:=ai (fun k a k' (h1:(nx (nx (nx σ (qag T kFun)) (qa7 T 1)) (qag T kArrow))=.ok k) (hq:expr k=.ok (a,k'))=>(hN k a k' h1 hq).rng w4.heap.size (fun b hb=>by simpa using hb))
 clear hN
 unfold NV.v
 go_wp2_with fail
 have H63:=ai ((uh H52).alloc (.cells (nvA x) 62))
 have K64:=ai ((uh K53).alloc (.cells (nvA x) 62))
 have B65:=ai ((uh B55).alloc (.cells (nvA x) 62))
 have B66:=ai ((uh B56).alloc (.cells (nvA x) 62))
 have B67:=ai (Bx.at w5 (nvA x) 62 (w5.heap.size) (by simp[World.setCell]))
 have R68:=ai (fun k a k' h1 hq=>(NR.bel (uh hN1 k a k' h1 hq) (bw (.cells (nvA x) 62))))
 clear H52 K53 B55 B56 hN1
 have HX:∀W,(W=(w5.alloc (.cells (nvA x) 62)).drew\/W=((w5.alloc (.cells (nvA x) 62)).alloc (.cells (nvA x) 62)).drew)->SS W rb g cap T (nx (nx (nx (nx σ (qag T kFun)) (qa7 T 1)) (qag T kArrow)) expr)/\∀w6,Below W.heap.size W w6->SS w6 rb g cap T (nx (nx (nx (nx σ (qag T kFun)) (qa7 T 1)) (qag T kArrow)) expr)/\Ke rb w w6/\Bx w6 (w.heap.size) #[.int .i64 0,.string ⟨#[]⟩,.int .i64 0,.slice none 0 0,.int .i64 0,.int .i64 0,.int .i64 0]/\Bx w6 (w3.heap.size) #[.int .i64 (tn.kind:Int),.string tn.text,.int .i64 (tn.frm:Int),.int .i64 (tn.to:Int)]/\Bx w6 (w5.heap.size) #[.int .i64 x.k,.string x.s,.int .i64 x.n,.slice x.la x.ll x.lc,.int .i64 x.f,.int .i64 x.t,.int .i64 x.a]/\(∀k a k',(nx (nx (nx σ (qag T kFun)) (qa7 T 1)) (qag T kArrow))=.ok k->expr k=.ok (a,k')->NR w6 (fun b=>w.heap.size<b/\b<w5.heap.size) a x)/\(W=((w5.alloc (.cells (nvA x) 62)).alloc (.cells (nvA x) 62)).drew->Bx w6 (w5.heap.size+1) #[.int .i64 x.k,.string x.s,.int .i64 x.n,.slice x.la x.ll x.lc,.int .i64 x.f,.int .i64 x.t,.int .i64 x.a]):=by
  rintro W(rfl|rfl)
  .exact⟨(uh H63).drew,fun w6 hb=>⟨((uh H63).drew).below hb,((uh K64).drew).below hb,((uh B65).drew).below hb,((uh B66).drew).below hb,((uh B67).drew).below hb,fun k a k' h1 hq=>((((uh R68 k a k' h1 hq)).move (br _) (fun _ _ _=>rfl) (fun b hb _=>by omega)).bel ((Below.refl _ _).drew)).bel hb,fun e=>absurd (congrArg (fun w=>w.heap.size) e) (by simp)⟩⟩
  .exact⟨((uh H63).alloc (.cells (nvA x) 62)).drew,fun w6 hb=>⟨(((uh H63).alloc (.cells (nvA x) 62)).drew).below hb,(((uh K64).alloc (.cells (nvA x) 62)).drew).below hb,(((uh B65).alloc (.cells (nvA x) 62)).drew).below hb,(((uh B66).alloc (.cells (nvA x) 62)).drew).below hb,(((uh B67).alloc (.cells (nvA x) 62)).drew).below hb,fun k a k' h1 hq=>((((uh R68 k a k' h1 hq)).move (br _) (fun _ _ _=>rfl) (fun b hb _=>by omega)).bel ((bw (.cells (nvA x) 62)).drew)).bel hb,fun _=>((Bx.at _ (nvA x) 62 (w5.heap.size+1) (by simp)).drew).below hb⟩⟩
 have HX1:=ai HX
 clear HX
 have ne0:¬w.heap.size=w3.heap.size:=by omega
 have ne1:¬w.heap.size=w5.heap.size:=by omega
 go_region_held3(fun w'=>w'.cell? ⟨w3.heap.size,0,none⟩=some (.int .i64 (tn.kind:Int))/\w'.cell? ⟨w3.heap.size,1,none⟩=some (.string tn.text)/\w'.cell? ⟨w3.heap.size,2,none⟩=some (.int .i64 (tn.frm:Int))/\w'.cell? ⟨w3.heap.size,3,none⟩=some (.int .i64 (tn.to:Int))/\w'.cell? ⟨w5.heap.size,0,none⟩=some (.int .i64 x.k)/\w'.cell? ⟨w5.heap.size,1,none⟩=some (.string x.s)/\w'.cell? ⟨w5.heap.size,2,none⟩=some (.int .i64 x.n)/\w'.cell? ⟨w5.heap.size,3,none⟩=some (.slice x.la x.ll x.lc)/\w'.cell? ⟨w5.heap.size,4,none⟩=some (.int .i64 x.f)/\w'.cell? ⟨w5.heap.size,5,none⟩=some (.int .i64 x.t)/\w'.cell? ⟨w5.heap.size,6,none⟩=some (.int .i64 x.a)) (first|go_keep|(simp[World.cell?_setCell_other,ne0,ne1,q1c,q2c])) (first|(go_at_call 206;refine(qd1 (uh HX1 _ (by first|exact Or.inl rfl|exact Or.inr rfl)).1).mono ?_;rintro e w6⟨m,rfl,hb,hn⟩;obtain⟨S6,K6,b60,b61,b62,n60,R6⟩:=(uh HX1 _ (by first|exact Or.inl rfl|exact Or.inr rfl)).2 _ hb;have zz:=hb.size;obtain⟨q0c,q0f,q0z⟩:=b60;obtain⟨q1c,q1f,q1z⟩:=b61;obtain⟨q2c,q2f,q2z⟩:=b62;have HS6:=ai S6;have HK6:=ai K6;have HN0:=ai n60;have HR6:=ai R6;have Hlast:=ai hn;clear S6 K6 n60 R6 hb hn))
 .go_wp2_with fail
  refine bodyPost_ret (v:=NV.v ⟨9,tn.text,0,some ⟨w5.heap.size+1,0,none⟩,1,1,(t.frm:Int),(m:Int),(tn.frm:Int)⟩) (by simp[results,Tryz.results119,go_sem,q0c,q0z,NV.v];try rfl) rfl ⟨_,rfl,?_,?_,?_⟩
  .exact(uh HK6).set7 (br _) _ _ _ _ _ _ _
  .exact(uh HS6).set7 (by omega) (by omega) _ _ _ _ _ _ _
  .intro k a k' hk hq
   obtain⟨_,k1,q1,r1⟩:=qad hq
   obtain⟨t2,k2,q2,r2⟩:=qad r1
   obtain⟨_,k3,q3,r3⟩:=qad r2
   obtain⟨b,k4,q4,r4⟩:=qad r3
   cases r4
   obtain rfl:=uh Ht k hk
   have h2:nx σ (qag T kFun)=.ok k1:=by rw[hk];exact qas q1
   obtain rfl:=uh Hn k1 t2 k2 h2 q2
   have h4:(nx (nx (nx σ (qag T kFun)) (qa7 T 1)) (qag T kArrow))=.ok k3:=by rw[h2,qas q2];exact qas q3
   obtain rfl:m=qan T k':=uh Hlast k' (by rw[h4];exact qas q4)
   exact NR.one (P:=fun b=>w.heap.size<=b) 9 tn.text 0 (tk T k).frm (qan T k') tn.frm ((uh HR6 (by first|trivial|rfl)).setO7 (b:=w.heap.size) (by omega) _ _ _ _ _ _ _) rfl ((((((((((uh HN0 k3 b k' h4 q4).set (b2:=w.heap.size) (fun b hb _=>by omega) 0 _).set (b2:=w.heap.size) (fun b hb _=>by omega) 1 _).set (b2:=w.heap.size) (fun b hb _=>by omega) 2 _).set (b2:=w.heap.size) (fun b hb _=>by omega) 3 _).set (b2:=w.heap.size) (fun b hb _=>by omega) 4 _).set (b2:=w.heap.size) (fun b hb _=>by omega) 5 _).set (b2:=w.heap.size) (fun b hb _=>by omega) 6 _)).wide _ (fun b hb=>by omega)) (by omega) 1
 .go_wp2_with fail
  refine bodyPost_ret (v:=NV.v ⟨9,tn.text,0,some ⟨w6.heap.size,0,none⟩,1,1,(t.frm:Int),(m:Int),(tn.frm:Int)⟩) (by simp[results,Tryz.results119,go_sem,q0c,q0z,NV.v];try rfl) rfl ⟨_,rfl,?_,?_,?_⟩
  .exact((uh HK6).set7 (br _) _ _ _ _ _ _ _).alloc _
  .exact((uh HS6).set7 (by omega) (by omega) _ _ _ _ _ _ _).alloc _
  .intro k a k' hk hq
   obtain⟨_,k1,q1,r1⟩:=qad hq
   obtain⟨t2,k2,q2,r2⟩:=qad r1
   obtain⟨_,k3,q3,r3⟩:=qad r2
   obtain⟨b,k4,q4,r4⟩:=qad r3
   cases r4
   obtain rfl:=uh Ht k hk
   have h2:nx σ (qag T kFun)=.ok k1:=by rw[hk];exact qas q1
   obtain rfl:=uh Hn k1 t2 k2 h2 q2
   have h4:(nx (nx (nx σ (qag T kFun)) (qa7 T 1)) (qag T kArrow))=.ok k3:=by rw[h2,qas q2];exact qas q3
   obtain rfl:m=qan T k':=uh Hlast k' (by rw[h4];exact qas q4)
   exact NR.one (P:=fun b=>w.heap.size<=b) 9 tn.text 0 (tk T k).frm (qan T k') tn.frm (Bx.at _ _ _ _ (by simp[World.setCell])) rfl (NR.bel ((((((((((uh HN0 k3 b k' h4 q4).set (b2:=w.heap.size) (fun b hb _=>by omega) 0 _).set (b2:=w.heap.size) (fun b hb _=>by omega) 1 _).set (b2:=w.heap.size) (fun b hb _=>by omega) 2 _).set (b2:=w.heap.size) (fun b hb _=>by omega) 3 _).set (b2:=w.heap.size) (fun b hb _=>by omega) 4 _).set (b2:=w.heap.size) (fun b hb _=>by omega) 5 _).set (b2:=w.heap.size) (fun b hb _=>by omega) 6 _)).wide _ (fun b hb=>by omega)) (bw _)) (by omega) 1
end
end
section
open Go Go.RowKit
section
variable {rb g cap:Nat} {T:List Pu.Tok} {σ:St} {w:World}
theorem choice_nx(σ:St)(expr:M Nd):nx σ (qdr T expr)=(nx (nx (nx (nx (nx (nx σ (qag T kIf)) expr) (qag T qdo)) expr) (qag T qer)) expr):=by
 cases σ with
 |error f=>rfl|ok k=>
  simp only[nx,qdr,bnd]
  cases e0:qag T kIf k with
  |error f=>rfl|ok p0=>
   simp only
   cases e1:expr p0.2 with
   |error f=>rfl|ok p1=>
    simp only
    cases e2:qag T qdo p1.2 with
    |error f=>rfl|ok p2=>
     simp only
     cases e3:expr p2.2 with
     |error f=>rfl|ok p3=>
      simp only
      cases e4:qag T qer p3.2 with
      |error f=>rfl|ok p4=>
       simp only
       cases e5:expr p4.2 with
       |error f=>rfl|ok p5=>
        rfl
theorem choice_C{n:Nat}{expr:M Nd}(HE:NodeC rb g cap T 120 #[.pointer (some ⟨rb,0,none⟩)] expr n)(hm:Mono expr):NodeC rb g cap T 207 #[.pointer (some ⟨rb,0,none⟩)] (qdr T expr) (n+1):=by
 intro w σ h hf
 have HE':=ai HE
 have hf':=ai hf
 have hmo:=ai hm
 have ff:=qd4
 rw[choice_nx]
 clear HE hf hm
 have hr:=h.hr
 have hg:=h.hg
 have H1:=ai h
 have K2:=ai (Ke.refl rb w)
 clear h
 go_enter Tryz.func207,Tryz.ntmps207
 go_wp2_with fail
 have H3:=ai ((uh H1).alloc (.cells qat 62))
 have K4:=ai ((uh K2).alloc (.cells qat 62))
 have B5:=ai (Bx.at w qat 62 (w.heap.size) (by simp[World.setCell]))
 clear H1 K2
 refine(qb5 (uh H3)).mono ?_
 rintro e w1⟨t,rfl,hb,ht⟩
 have H6:=ai ((uh H3).below hb)
 have K7:=ai ((uh K4).below hb)
 have z8:=hb.size
 try simp[World.setCell]at z8
 have B9:=ai ((uh B5).below hb)
 clear H3 K4 B5 hb
 obtain⟨c10,f11,y12⟩:=uh B9
 have Ht:=ai ht
 clear ht
 unfold tokV
 go_wp2_with fail
 clear c10 f11 y12
 refine(qch (uh H6) kIf).mono ?_
 rintro e w2⟨rfl,hb,hS⟩
 have H16:=ai hS
 have K17:=ai ((uh K7).trans hb)
 have z18:=hb.size
 try simp[World.setCell]at z18
 have B19:=ai ((uh B9).ke hb (by omega))
 clear H6 K7 B9 hb hS
 obtain⟨c20,f21,y22⟩:=uh B19
 go_wp2_with fail
 clear c20 f21 y22
 refine(uh HE' _ _ (uh H16) (by intro j hj;obtain⟨k0,_,e0,m0⟩:=qbf hj;have:=uh hf' _ e0;have:=qah _ _ _ _ m0;omega)).mono ?_
 rintro e w3⟨x,rfl,hb,hS,hN⟩
 have H26:=ai hS
 have K27:=ai ((uh K17).trans hb)
 have z28:=hb.size
 try simp[World.setCell]at z28
 have B29:=ai ((uh B19).ke hb (by omega))
 clear H16 K17 B19 hb hS
 obtain⟨c30,f31,y32⟩:=uh B29
 have hN0:=ai (fun k a k' (h1:(nx σ (qag T kIf))=.ok k) (hq:expr k=.ok (a,k'))=>(hN k a k' h1 hq).rng w2.heap.size (fun b hb=>by simpa using hb))
 clear hN
 unfold NV.v
 go_wp2_with fail
 have H33:=ai ((uh H26).alloc (.cells (nvA x) 62))
 have K34:=ai ((uh K27).alloc (.cells (nvA x) 62))
 have B35:=ai ((uh B29).alloc (.cells (nvA x) 62))
 have B36:=ai (Bx.at w3 (nvA x) 62 (w3.heap.size) (by simp[World.setCell]))
 have R37:=ai (fun k a k' h1 hq=>(NR.bel (uh hN0 k a k' h1 hq) (bw (.cells (nvA x) 62))))
 clear H26 K27 B29 hN0 c30 f31 y32
 refine(qch (uh H33) qdo).mono ?_
 rintro e w4⟨rfl,hb,hS⟩
 have H38:=ai hS
 have K39:=ai ((uh K34).trans hb)
 have z40:=hb.size
 try simp[World.setCell]at z40
 have B41:=ai ((uh B35).ke hb (by omega))
 have B42:=ai ((uh B36).ke hb (by omega))
 have R43:=ai (fun k a k' h1 hq=>NR.ke (uh R37 k a k' h1 hq) hb (fun b hb=>by omega))
 clear H33 K34 B35 B36 R37 hb hS
 obtain⟨c44,f45,y46⟩:=uh B41
 obtain⟨c47,f48,y49⟩:=uh B42
 go_wp2_with fail
 clear c44 f45 y46 c47 f48 y49
 refine(uh HE' _ _ (uh H38) (by intro j hj;obtain⟨k0,_,e0,m0⟩:=qbf hj;obtain⟨k1,_,e1,m1⟩:=qbf e0;obtain⟨k2,_,e2,m2⟩:=qbf e1;have:=uh hf' _ e2;have:=qah _ _ _ _ m0;have:=uh hmo _ _ _ m1;have:=qah _ _ _ _ m2;omega)).mono ?_
 rintro e w5⟨y,rfl,hb,hS,hN⟩
 have H54:=ai hS
 have K55:=ai ((uh K39).trans hb)
 have z56:=hb.size
 try simp[World.setCell]at z56
 have B57:=ai ((uh B41).ke hb (by omega))
 have B58:=ai ((uh B42).ke hb (by omega))
 have R59:=ai (fun k a k' h1 hq=>NR.ke (uh R43 k a k' h1 hq) hb (fun b hb=>by omega))
 clear H38 K39 B41 B42 R43 hb hS
 obtain⟨c60,f61,y62⟩:=uh B57
 obtain⟨c63,f64,y65⟩:=uh B58
 have hN1:=ai (fun k a k' (h1:(nx (nx (nx σ (qag T kIf)) expr) (qag T qdo))=.ok k) (hq:expr k=.ok (a,k'))=>(hN k a k' h1 hq).rng w4.heap.size (fun b hb=>by simpa using hb))
 clear hN
 unfold NV.v
 go_wp2_with fail
 have H66:=ai ((uh H54).alloc (.cells (nvA y) 62))
 have K67:=ai ((uh K55).alloc (.cells (nvA y) 62))
 have B68:=ai ((uh B57).alloc (.cells (nvA y) 62))
 have B69:=ai ((uh B58).alloc (.cells (nvA y) 62))
 have B70:=ai (Bx.at w5 (nvA y) 62 (w5.heap.size) (by simp[World.setCell]))
 have R71:=ai (fun k a k' h1 hq=>(NR.bel (uh R59 k a k' h1 hq) (bw (.cells (nvA y) 62))))
 have R72:=ai (fun k a k' h1 hq=>(NR.bel (uh hN1 k a k' h1 hq) (bw (.cells (nvA y) 62))))
 clear H54 K55 B57 B58 R59 hN1 c60 f61 y62 c63 f64 y65
 refine(qch (uh H66) qer).mono ?_
 rintro e w6⟨rfl,hb,hS⟩
 have H73:=ai hS
 have K74:=ai ((uh K67).trans hb)
 have z75:=hb.size
 try simp[World.setCell]at z75
 have B76:=ai ((uh B68).ke hb (by omega))
 have B77:=ai ((uh B69).ke hb (by omega))
 have B78:=ai ((uh B70).ke hb (by omega))
 have R79:=ai (fun k a k' h1 hq=>NR.ke (uh R71 k a k' h1 hq) hb (fun b hb=>by omega))
 have R80:=ai (fun k a k' h1 hq=>NR.ke (uh R72 k a k' h1 hq) hb (fun b hb=>by omega))
 clear H66 K67 B68 B69 B70 R71 R72 hb hS
 obtain⟨c81,f82,y83⟩:=uh B76
 obtain⟨c84,f85,y86⟩:=uh B77
 obtain⟨c87,f88,y89⟩:=uh B78
 go_wp2_with fail
 clear c81 f82 y83 c84 f85 y86 c87 f88 y89
 refine(uh HE' _ _ (uh H73) (by intro j hj;obtain⟨k0,_,e0,m0⟩:=qbf hj;obtain⟨k1,_,e1,m1⟩:=qbf e0;obtain⟨k2,_,e2,m2⟩:=qbf e1;obtain⟨k3,_,e3,m3⟩:=qbf e2;obtain⟨k4,_,e4,m4⟩:=qbf e3;have:=uh hf' _ e4;have:=qah _ _ _ _ m0;have:=uh hmo _ _ _ m1;have:=qah _ _ _ _ m2;have:=uh hmo _ _ _ m3;have:=qah _ _ _ _ m4;omega)).mono ?_
 rintro e w7⟨z,rfl,hb,hS,hN⟩
 have H95:=ai hS
 have K96:=ai ((uh K74).trans hb)
 have z97:=hb.size
 try simp[World.setCell]at z97
 have B98:=ai ((uh B76).ke hb (by omega))
 have B99:=ai ((uh B77).ke hb (by omega))
 have B100:=ai ((uh B78).ke hb (by omega))
 have R101:=ai (fun k a k' h1 hq=>NR.ke (uh R79 k a k' h1 hq) hb (fun b hb=>by omega))
 have R102:=ai (fun k a k' h1 hq=>NR.ke (uh R80 k a k' h1 hq) hb (fun b hb=>by omega))
 clear H73 K74 B76 B77 B78 R79 R80 hb hS
 obtain⟨c103,f104,y105⟩:=uh B98
 obtain⟨c106,f107,y108⟩:=uh B99
 obtain⟨c109,f110,y111⟩:=uh B100
 have hN2:=ai (fun k a k' (h1:(nx (nx (nx (nx (nx σ (qag T kIf)) expr) (qag T qdo)) expr) (qag T qer))=.ok k) (hq:expr k=.ok (a,k'))=>(hN k a k' h1 hq).rng w6.heap.size (fun b hb=>by simpa using hb))
 clear hN
 unfold NV.v
 go_wp2_with fail
 have H112:=ai ((uh H95).alloc (.cells (nvA z) 62))
 have K113:=ai ((uh K96).alloc (.cells (nvA z) 62))
 have B114:=ai ((uh B98).alloc (.cells (nvA z) 62))
 have B115:=ai ((uh B99).alloc (.cells (nvA z) 62))
 have B116:=ai ((uh B100).alloc (.cells (nvA z) 62))
 have B117:=ai (Bx.at w7 (nvA z) 62 (w7.heap.size) (by simp[World.setCell]))
 have R118:=ai (fun k a k' h1 hq=>(NR.bel (uh R101 k a k' h1 hq) (bw (.cells (nvA z) 62))))
 have R119:=ai (fun k a k' h1 hq=>(NR.bel (uh R102 k a k' h1 hq) (bw (.cells (nvA z) 62))))
 have R120:=ai (fun k a k' h1 hq=>(NR.bel (uh hN2 k a k' h1 hq) (bw (.cells (nvA z) 62))))
 clear H95 K96 B98 B99 B100 R101 R102 hN2
 have HX:∀W,(W=(w7.alloc (.cells (nvA z) 62)).drew\/W=((w7.alloc (.cells (nvA z) 62)).alloc (.cells (nvT x y z) 62)).drew)->SS W rb g cap T (nx (nx (nx (nx (nx (nx σ (qag T kIf)) expr) (qag T qdo)) expr) (qag T qer)) expr)/\∀w6,Below W.heap.size W w6->SS w6 rb g cap T (nx (nx (nx (nx (nx (nx σ (qag T kIf)) expr) (qag T qdo)) expr) (qag T qer)) expr)/\Ke rb w w6/\Bx w6 (w.heap.size) #[.int .i64 0,.string ⟨#[]⟩,.int .i64 0,.slice none 0 0,.int .i64 0,.int .i64 0,.int .i64 0]/\Bx w6 (w3.heap.size) #[.int .i64 x.k,.string x.s,.int .i64 x.n,.slice x.la x.ll x.lc,.int .i64 x.f,.int .i64 x.t,.int .i64 x.a]/\Bx w6 (w5.heap.size) #[.int .i64 y.k,.string y.s,.int .i64 y.n,.slice y.la y.ll y.lc,.int .i64 y.f,.int .i64 y.t,.int .i64 y.a]/\Bx w6 (w7.heap.size) #[.int .i64 z.k,.string z.s,.int .i64 z.n,.slice z.la z.ll z.lc,.int .i64 z.f,.int .i64 z.t,.int .i64 z.a]/\(∀k a k',(nx σ (qag T kIf))=.ok k->expr k=.ok (a,k')->NR w6 (fun b=>w.heap.size<b/\b<w7.heap.size) a x)/\(∀k a k',(nx (nx (nx σ (qag T kIf)) expr) (qag T qdo))=.ok k->expr k=.ok (a,k')->NR w6 (fun b=>w.heap.size<b/\b<w7.heap.size) a y)/\(∀k a k',(nx (nx (nx (nx (nx σ (qag T kIf)) expr) (qag T qdo)) expr) (qag T qer))=.ok k->expr k=.ok (a,k')->NR w6 (fun b=>w.heap.size<b/\b<w7.heap.size) a z)/\(W=((w7.alloc (.cells (nvA z) 62)).alloc (.cells (nvT x y z) 62)).drew->Bx w6 (w7.heap.size+1) (nvT x y z)):=by
  rintro W(rfl|rfl)
  .exact⟨(uh H112).drew,fun w6 hb=>⟨((uh H112).drew).below hb,((uh K113).drew).below hb,((uh B114).drew).below hb,((uh B115).drew).below hb,((uh B116).drew).below hb,((uh B117).drew).below hb,fun k a k' h1 hq=>((((uh R118 k a k' h1 hq)).move (br _) (fun _ _ _=>rfl) (fun b hb _=>by omega)).bel ((Below.refl _ _).drew)).bel hb,fun k a k' h1 hq=>((((uh R119 k a k' h1 hq)).move (br _) (fun _ _ _=>rfl) (fun b hb _=>by omega)).bel ((Below.refl _ _).drew)).bel hb,fun k a k' h1 hq=>((((uh R120 k a k' h1 hq)).move (br _) (fun _ _ _=>rfl) (fun b hb _=>by omega)).bel ((Below.refl _ _).drew)).bel hb,fun e=>absurd (congrArg (fun w=>w.heap.size) e) (by simp)⟩⟩
  .exact⟨((uh H112).alloc (.cells (nvT x y z) 62)).drew,fun w6 hb=>⟨(((uh H112).alloc (.cells (nvT x y z) 62)).drew).below hb,(((uh K113).alloc (.cells (nvT x y z) 62)).drew).below hb,(((uh B114).alloc (.cells (nvT x y z) 62)).drew).below hb,(((uh B115).alloc (.cells (nvT x y z) 62)).drew).below hb,(((uh B116).alloc (.cells (nvT x y z) 62)).drew).below hb,(((uh B117).alloc (.cells (nvT x y z) 62)).drew).below hb,fun k a k' h1 hq=>((((uh R118 k a k' h1 hq)).move (br _) (fun _ _ _=>rfl) (fun b hb _=>by omega)).bel ((bw (.cells (nvT x y z) 62)).drew)).bel hb,fun k a k' h1 hq=>((((uh R119 k a k' h1 hq)).move (br _) (fun _ _ _=>rfl) (fun b hb _=>by omega)).bel ((bw (.cells (nvT x y z) 62)).drew)).bel hb,fun k a k' h1 hq=>((((uh R120 k a k' h1 hq)).move (br _) (fun _ _ _=>rfl) (fun b hb _=>by omega)).bel ((bw (.cells (nvT x y z) 62)).drew)).bel hb,fun _=>((Bx.at _ (nvT x y z) 62 (w7.heap.size+1) (by simp)).drew).below hb⟩⟩
 have HX1:=ai HX
 clear HX
 have ne0:¬w.heap.size=w3.heap.size:=by omega
 have ne1:¬w.heap.size=w5.heap.size:=by omega
 have ne2:¬w.heap.size=w7.heap.size:=by omega
 go_region_held3(fun w'=>w'.cell? ⟨w3.heap.size,0,none⟩=some (.int .i64 x.k)/\w'.cell? ⟨w3.heap.size,1,none⟩=some (.string x.s)/\w'.cell? ⟨w3.heap.size,2,none⟩=some (.int .i64 x.n)/\w'.cell? ⟨w3.heap.size,3,none⟩=some (.slice x.la x.ll x.lc)/\w'.cell? ⟨w3.heap.size,4,none⟩=some (.int .i64 x.f)/\w'.cell? ⟨w3.heap.size,5,none⟩=some (.int .i64 x.t)/\w'.cell? ⟨w3.heap.size,6,none⟩=some (.int .i64 x.a)/\w'.cell? ⟨w5.heap.size,0,none⟩=some (.int .i64 y.k)/\w'.cell? ⟨w5.heap.size,1,none⟩=some (.string y.s)/\w'.cell? ⟨w5.heap.size,2,none⟩=some (.int .i64 y.n)/\w'.cell? ⟨w5.heap.size,3,none⟩=some (.slice y.la y.ll y.lc)/\w'.cell? ⟨w5.heap.size,4,none⟩=some (.int .i64 y.f)/\w'.cell? ⟨w5.heap.size,5,none⟩=some (.int .i64 y.t)/\w'.cell? ⟨w5.heap.size,6,none⟩=some (.int .i64 y.a)/\w'.cell? ⟨w7.heap.size,0,none⟩=some (.int .i64 z.k)/\w'.cell? ⟨w7.heap.size,1,none⟩=some (.string z.s)/\w'.cell? ⟨w7.heap.size,2,none⟩=some (.int .i64 z.n)/\w'.cell? ⟨w7.heap.size,3,none⟩=some (.slice z.la z.ll z.lc)/\w'.cell? ⟨w7.heap.size,4,none⟩=some (.int .i64 z.f)/\w'.cell? ⟨w7.heap.size,5,none⟩=some (.int .i64 z.t)/\w'.cell? ⟨w7.heap.size,6,none⟩=some (.int .i64 z.a)) (first|go_keep|(simp[World.cell?_setCell_other,ne0,ne1,ne2,q1c,q2c,q3c])) (first|(go_at_call 206;refine(qd1 (uh HX1 _ (by first|exact Or.inl rfl|exact Or.inr rfl)).1).mono ?_;rintro e w6⟨m,rfl,hb,hn⟩;obtain⟨S6,K6,b60,b61,b62,b63,n60,n61,n62,R6⟩:=(uh HX1 _ (by first|exact Or.inl rfl|exact Or.inr rfl)).2 _ hb;have zz:=hb.size;obtain⟨q0c,q0f,q0z⟩:=b60;obtain⟨q1c,q1f,q1z⟩:=b61;obtain⟨q2c,q2f,q2z⟩:=b62;obtain⟨q3c,q3f,q3z⟩:=b63;have HS6:=ai S6;have HK6:=ai K6;have HN0:=ai n60;have HN1:=ai n61;have HN2:=ai n62;have HR6:=ai R6;have Hlast:=ai hn;clear S6 K6 n60 n61 n62 R6 hb hn))
 .go_wp2_with fail
  refine bodyPost_ret (v:=NV.v ⟨12,kNo,0,some ⟨w7.heap.size+1,0,none⟩,3,3,(t.frm:Int),(m:Int),(t.frm:Int)⟩) (by simp[results,Tryz.results207,go_sem,q0c,q0z,NV.v];try rfl) rfl ⟨_,rfl,?_,?_,?_⟩
  .exact(uh HK6).set7 (br _) _ _ _ _ _ _ _
  .exact(uh HS6).set7 (by omega) (by omega) _ _ _ _ _ _ _
  .intro k a k' hk hq
   obtain⟨_,k1,q1,r1⟩:=qad hq
   obtain⟨b1,k2,q2,r2⟩:=qad r1
   obtain⟨_,k3,q3,r3⟩:=qad r2
   obtain⟨b2,k4,q4,r4⟩:=qad r3
   obtain⟨_,k5,q5,r5⟩:=qad r4
   obtain⟨b3,k6,q6,r6⟩:=qad r5
   cases r6
   obtain rfl:=uh Ht k hk
   have h1:(nx σ (qag T kIf))=.ok k1:=by rw[hk];exact qas q1
   have h2:(nx (nx σ (qag T kIf)) expr)=.ok k2:=by rw[h1];exact qas q2
   have h3:(nx (nx (nx σ (qag T kIf)) expr) (qag T qdo))=.ok k3:=by rw[h2];exact qas q3
   have h4:(nx (nx (nx (nx σ (qag T kIf)) expr) (qag T qdo)) expr)=.ok k4:=by rw[h3];exact qas q4
   have h5:(nx (nx (nx (nx (nx σ (qag T kIf)) expr) (qag T qdo)) expr) (qag T qer))=.ok k5:=by rw[h4];exact qas q5
   obtain rfl:m=qan T k':=uh Hlast k' (by rw[h5];exact qas q6)
   exact NR.three (P:=fun b=>w.heap.size<=b) 12 kNo 0 (tk T k).frm (qan T k') (tk T k).frm ((uh HR6 (by first|trivial|rfl)).setO7 (b:=w.heap.size) (by omega) _ _ _ _ _ _ _) rfl ((((((((((uh HN0 k1 b1 k2 h1 q2).set (b2:=w.heap.size) (fun b hb _=>by omega) 0 _).set (b2:=w.heap.size) (fun b hb _=>by omega) 1 _).set (b2:=w.heap.size) (fun b hb _=>by omega) 2 _).set (b2:=w.heap.size) (fun b hb _=>by omega) 3 _).set (b2:=w.heap.size) (fun b hb _=>by omega) 4 _).set (b2:=w.heap.size) (fun b hb _=>by omega) 5 _).set (b2:=w.heap.size) (fun b hb _=>by omega) 6 _)).wide _ (fun b hb=>by omega)) ((((((((((uh HN1 k3 b2 k4 h3 q4).set (b2:=w.heap.size) (fun b hb _=>by omega) 0 _).set (b2:=w.heap.size) (fun b hb _=>by omega) 1 _).set (b2:=w.heap.size) (fun b hb _=>by omega) 2 _).set (b2:=w.heap.size) (fun b hb _=>by omega) 3 _).set (b2:=w.heap.size) (fun b hb _=>by omega) 4 _).set (b2:=w.heap.size) (fun b hb _=>by omega) 5 _).set (b2:=w.heap.size) (fun b hb _=>by omega) 6 _)).wide _ (fun b hb=>by omega)) ((((((((((uh HN2 k5 b3 k' h5 q6).set (b2:=w.heap.size) (fun b hb _=>by omega) 0 _).set (b2:=w.heap.size) (fun b hb _=>by omega) 1 _).set (b2:=w.heap.size) (fun b hb _=>by omega) 2 _).set (b2:=w.heap.size) (fun b hb _=>by omega) 3 _).set (b2:=w.heap.size) (fun b hb _=>by omega) 4 _).set (b2:=w.heap.size) (fun b hb _=>by omega) 5 _).set (b2:=w.heap.size) (fun b hb _=>by omega) 6 _)).wide _ (fun b hb=>by omega)) (by omega) 3
 .go_wp2_with fail
  refine bodyPost_ret (v:=NV.v ⟨12,kNo,0,some ⟨w6.heap.size,0,none⟩,3,3,(t.frm:Int),(m:Int),(t.frm:Int)⟩) (by simp[results,Tryz.results207,go_sem,q0c,q0z,NV.v];try rfl) rfl ⟨_,rfl,?_,?_,?_⟩
  .exact((uh HK6).set7 (br _) _ _ _ _ _ _ _).alloc _
  .exact((uh HS6).set7 (by omega) (by omega) _ _ _ _ _ _ _).alloc _
  .intro k a k' hk hq
   obtain⟨_,k1,q1,r1⟩:=qad hq
   obtain⟨b1,k2,q2,r2⟩:=qad r1
   obtain⟨_,k3,q3,r3⟩:=qad r2
   obtain⟨b2,k4,q4,r4⟩:=qad r3
   obtain⟨_,k5,q5,r5⟩:=qad r4
   obtain⟨b3,k6,q6,r6⟩:=qad r5
   cases r6
   obtain rfl:=uh Ht k hk
   have h1:(nx σ (qag T kIf))=.ok k1:=by rw[hk];exact qas q1
   have h2:(nx (nx σ (qag T kIf)) expr)=.ok k2:=by rw[h1];exact qas q2
   have h3:(nx (nx (nx σ (qag T kIf)) expr) (qag T qdo))=.ok k3:=by rw[h2];exact qas q3
   have h4:(nx (nx (nx (nx σ (qag T kIf)) expr) (qag T qdo)) expr)=.ok k4:=by rw[h3];exact qas q4
   have h5:(nx (nx (nx (nx (nx σ (qag T kIf)) expr) (qag T qdo)) expr) (qag T qer))=.ok k5:=by rw[h4];exact qas q5
   obtain rfl:m=qan T k':=uh Hlast k' (by rw[h5];exact qas q6)
   exact NR.three (P:=fun b=>w.heap.size<=b) 12 kNo 0 (tk T k).frm (qan T k') (tk T k).frm (Bx.at _ _ _ _ (by simp[World.setCell])) rfl (NR.bel ((((((((((uh HN0 k1 b1 k2 h1 q2).set (b2:=w.heap.size) (fun b hb _=>by omega) 0 _).set (b2:=w.heap.size) (fun b hb _=>by omega) 1 _).set (b2:=w.heap.size) (fun b hb _=>by omega) 2 _).set (b2:=w.heap.size) (fun b hb _=>by omega) 3 _).set (b2:=w.heap.size) (fun b hb _=>by omega) 4 _).set (b2:=w.heap.size) (fun b hb _=>by omega) 5 _).set (b2:=w.heap.size) (fun b hb _=>by omega) 6 _)).wide _ (fun b hb=>by omega)) (bw _)) (NR.bel ((((((((((uh HN1 k3 b2 k4 h3 q4).set (b2:=w.heap.size) (fun b hb _=>by omega) 0 _).set (b2:=w.heap.size) (fun b hb _=>by omega) 1 _).set (b2:=w.heap.size) (fun b hb _=>by omega) 2 _).set (b2:=w.heap.size) (fun b hb _=>by omega) 3 _).set (b2:=w.heap.size) (fun b hb _=>by omega) 4 _).set (b2:=w.heap.size) (fun b hb _=>by omega) 5 _).set (b2:=w.heap.size) (fun b hb _=>by omega) 6 _)).wide _ (fun b hb=>by omega)) (bw _)) (NR.bel ((((((((((uh HN2 k5 b3 k' h5 q6).set (b2:=w.heap.size) (fun b hb _=>by omega) 0 _).set (b2:=w.heap.size) (fun b hb _=>by omega) 1 _).set (b2:=w.heap.size) (fun b hb _=>by omega) 2 _).set (b2:=w.heap.size) (fun b hb _=>by omega) 3 _).set (b2:=w.heap.size) (fun b hb _=>by omega) 4 _).set (b2:=w.heap.size) (fun b hb _=>by omega) 5 _).set (b2:=w.heap.size) (fun b hb _=>by omega) 6 _)).wide _ (fun b hb=>by omega)) (bw _)) (by omega) 3
end
end
section
open Go Go.RowKit
section
variable {rb g cap:Nat} {T:List Pu.Tok} {σ:St} {w:World}
theorem isS_inv{s:BA}{σ:St}(h:isS T σ s=true):∃k,σ=.ok k/\isT (tk T k) s=true:=by
 cases σ with
 |error f=>simp[isS]at h|ok k=>exact⟨k,rfl,h⟩
def BoundC(rb g cap:Nat)(T:List Pu.Tok)(m:M (Nat×Pu.Tok×Nd))(n:Nat):Prop:=
 ∀(w:World)(σ:St),SS w rb g cap T σ->(∀k,σ=.ok k->T.length<=k+n)->
  Calls Tryz.prog 59 #[.pointer (some ⟨rb,0,none⟩)] w fun e w'=>∃(kd:Nat)(t:Pu.Tok)(x:NV),e=.returned (.tuple #[.int .i64 (kd:Int),tokV t,x.v])/\Ke rb w w'/\SS w' rb g cap T (nx σ m)/\
   ∀k b k',σ=.ok k->m k=.ok (b,k')->kd=b.1/\t=b.2.1/\NR w' (fun b=>w.heap.size<=b) b.2.2 x
theorem bound_rec{k k1:Nat}{expr:M Nd}(h:qag T kLet k=.ok ((),k1))(hr:isT (tk T k1) kRec=true):nx (.ok k) (qbg T expr)=nx (nx (nx (.ok (k1+1)) (qa7 T 1)) (qag T kEq)) (funM T expr):=by
 simp only[nx,qbg,bnd,h,hr,if_true]
 cases e1:qa7 T 1 (k1+1)with
 |error f=>rfl|ok p1=>
  simp only
  cases e2:qag T kEq p1.2 with
  |error f=>rfl|ok p2=>
   simp only
   cases e3:funM T expr p2.2 with
   |error f=>rfl|ok p3=>rfl
theorem bound_let{σ:St}{expr:M Nd}(hr:isS T (nx σ (qag T kLet)) kRec=false):nx σ (qbg T expr)=nx (nx (nx (nx σ (qag T kLet)) (qa7 T 1)) (qag T kEq)) expr:=by
 cases σ with
 |error f=>rfl|ok k=>
  simp only[nx,qbg,bnd]at hr⊢
  cases e0:qag T kLet k with
  |error f=>rfl|ok p0=>
   rw[e0]at hr
   simp only[isS]at hr
   simp only[hr,Bool.false_eq_true,if_false]
   cases e1:qa7 T 1 p0.2 with
   |error f=>rfl|ok p1=>
    simp only
    cases e2:qag T kEq p1.2 with
    |error f=>rfl|ok p2=>
     simp only
     cases e3:expr p2.2 with
     |error f=>rfl|ok p3=>rfl
theorem bound_yes{n:Nat}{expr:M Nd}(HE:NodeC rb g cap T 119 #[.pointer (some ⟨rb,0,none⟩)] (funM T expr) (n+1)){k k1:Nat}(h:SS w rb g cap T (.ok k))(hf:T.length<=k+(n+1))(hl:qag T kLet k=.ok ((),k1))(hr:isT (tk T k1) kRec=true):
 Calls Tryz.prog 59 #[.pointer (some ⟨rb,0,none⟩)] w fun e w'=>∃(t:Pu.Tok)(x:NV),e=.returned (.tuple #[.int .i64 11,tokV t,x.v])/\Ke rb w w'/\SS w' rb g cap T (nx (nx (nx (.ok (k1+1):St) (qa7 T 1)) (qag T kEq)) (funM T expr))/\
  (∀k a k',(.ok (k1+1):St)=.ok k->qa7 T 1 k=.ok (a,k')->t=a)/\∀k a k',(nx (nx (.ok (k1+1):St) (qa7 T 1)) (qag T kEq))=.ok k->(funM T expr) k=.ok (a,k')->NR w' (fun b=>w.heap.size<=b) a x:=by
 have HE':=ai HE
 have hf':=ai hf
 clear HE hf
 have hl':=ai hl
 have h7:(tk T k1).kind≠7:=by have:=qbe hr;omega
 have hR:isS T (.ok k1) kRec=true:=hr
 have hk1:=ai (qah _ _ _ _ hl)
 clear hl hr
 have hr:=h.hr
 have hg:=h.hg
 have H1:=ai h
 have K2:=ai (Ke.refl rb w)
 clear h
 go_enter Tryz.func59,Tryz.ntmps59
 go_wp2_with fail
 have H3:=ai (((uh H1).alloc (.cells #[.int .i64 0,.string ⟨#[]⟩,.int .i64 0,.int .i64 0] 58)).alloc (.cells qat 62))
 have K4:=ai (((uh K2).alloc (.cells #[.int .i64 0,.string ⟨#[]⟩,.int .i64 0,.int .i64 0] 58)).alloc (.cells qat 62))
 have B5:=ai ((Bx.at w #[.int .i64 0,.string ⟨#[]⟩,.int .i64 0,.int .i64 0] 58 (w.heap.size) (by simp[World.setCell])).alloc (.cells qat 62))
 have B6:=ai (Bx.at (w.alloc (.cells #[.int .i64 0,.string ⟨#[]⟩,.int .i64 0,.int .i64 0] 58)) #[.int .i64 0,.string ⟨#[]⟩,.int .i64 0,.slice none 0 0,.int .i64 0,.int .i64 0,.int .i64 0] 62 (w.heap.size+1) (by simp[World.setCell]))
 clear H1 K2
 refine(qch (uh H3) kLet).mono ?_
 rintro e w1⟨rfl,hb,hS⟩
 have H7:=ai hS
 have K8:=ai ((uh K4).trans hb)
 have z9:=hb.size
 try simp[World.setCell]at z9
 have B10:=ai ((uh B5).ke hb (by omega))
 have B11:=ai ((uh B6).ke hb (by omega))
 clear H3 K4 B5 B6 hb hS
 obtain⟨c12,f13,y14⟩:=uh B10
 obtain⟨c15,f16,y17⟩:=uh B11
 rw[qas (uh hl')]at H7
 go_wp2_with fail
 clear c12 f13 y14 c15 f16 y17
 refine(is_S (uh H7) kRec).mono ?_
 rintro e w2⟨rfl,hb⟩
 have H22:=ai ((uh H7).below hb)
 have K23:=ai ((uh K8).below hb)
 have z24:=hb.size
 try simp[World.setCell]at z24
 have B25:=ai ((uh B10).below hb)
 have B26:=ai ((uh B11).below hb)
 clear H7 K8 B10 B11 hb
 obtain⟨c27,f28,y29⟩:=uh B25
 obtain⟨c30,f31,y32⟩:=uh B26
 go_wp2_with fail
 clear c27 f28 y29 c30 f31 y32
 refine(qcp (uh H22) h7).mono ?_
 rintro e w3⟨rfl,hb,hS⟩
 have H37:=ai hS
 have K38:=ai ((uh K23).trans hb)
 have z39:=hb.size
 try simp[World.setCell]at z39
 have B40:=ai ((uh B25).ke hb (by omega))
 have B41:=ai ((uh B26).ke hb (by omega))
 clear H22 K23 B25 B26 hb hS
 obtain⟨c42,f43,y44⟩:=uh B40
 obtain⟨c45,f46,y47⟩:=uh B41
 go_wp2_with fail
 clear c42 f43 y44 c45 f46 y47
 refine(name_one (uh H37)).mono ?_
 rintro e w4⟨tn,rfl,hb,hS,hn⟩
 have H52:=ai hS
 have K53:=ai ((uh K38).trans hb)
 have z54:=hb.size
 try simp[World.setCell]at z54
 have B55:=ai ((uh B40).ke hb (by omega))
 have B56:=ai ((uh B41).ke hb (by omega))
 clear H37 K38 B40 B41 hb hS
 obtain⟨c57,f58,y59⟩:=uh B55
 obtain⟨c60,f61,y62⟩:=uh B56
 have Hn:=ai hn
 clear hn
 unfold tokV
 go_wp2_with fail
 have H63:=ai ((uh H52).alloc (.cells #[.int .i64 (tn.kind:Int),.string tn.text,.int .i64 (tn.frm:Int),.int .i64 (tn.to:Int)] 58))
 have K64:=ai ((uh K53).alloc (.cells #[.int .i64 (tn.kind:Int),.string tn.text,.int .i64 (tn.frm:Int),.int .i64 (tn.to:Int)] 58))
 have B65:=ai ((uh B55).alloc (.cells #[.int .i64 (tn.kind:Int),.string tn.text,.int .i64 (tn.frm:Int),.int .i64 (tn.to:Int)] 58))
 have B66:=ai ((uh B56).alloc (.cells #[.int .i64 (tn.kind:Int),.string tn.text,.int .i64 (tn.frm:Int),.int .i64 (tn.to:Int)] 58))
 have B67:=ai (Bx.at w4 #[.int .i64 (tn.kind:Int),.string tn.text,.int .i64 (tn.frm:Int),.int .i64 (tn.to:Int)] 58 (w4.heap.size) (by simp[World.setCell]))
 clear H52 K53 B55 B56 c57 f58 y59 c60 f61 y62
 refine(qch (uh H63) kEq).mono ?_
 rintro e w5⟨rfl,hb,hS⟩
 have H68:=ai hS
 have K69:=ai ((uh K64).trans hb)
 have z70:=hb.size
 try simp[World.setCell]at z70
 have B71:=ai ((uh B65).ke hb (by omega))
 have B72:=ai ((uh B66).ke hb (by omega))
 have B73:=ai ((uh B67).ke hb (by omega))
 clear H63 K64 B65 B66 B67 hb hS
 obtain⟨c74,f75,y76⟩:=uh B71
 obtain⟨c77,f78,y79⟩:=uh B72
 obtain⟨c80,f81,y82⟩:=uh B73
 go_wp2_with fail
 clear c74 f75 y76 c77 f78 y79 c80 f81 y82
 refine(uh HE' _ _ (uh H68) (by intro j hj;obtain⟨k3,_,e3,m3⟩:=qbf hj;obtain⟨k2,_,e2,m2⟩:=qbf e3;cases e2;have:=uh hf';have:=uh hk1;have:=qah _ _ _ _ m3;have:=qbk _ _ _ _ m2;omega)).mono ?_
 rintro e w6⟨x,rfl,hb,hS,hN⟩
 have H88:=ai hS
 have K89:=ai ((uh K69).trans hb)
 have z90:=hb.size
 try simp[World.setCell]at z90
 have B91:=ai ((uh B71).ke hb (by omega))
 have B92:=ai ((uh B72).ke hb (by omega))
 have B93:=ai ((uh B73).ke hb (by omega))
 clear H68 K69 B71 B72 B73 hb hS
 obtain⟨c94,f95,y96⟩:=uh B91
 obtain⟨c97,f98,y99⟩:=uh B92
 obtain⟨c100,f101,y102⟩:=uh B93
 have hN1:=ai (fun k a k' (h1:(nx (nx (.ok (k1+1):St) (qa7 T 1)) (qag T kEq))=.ok k) (hq:(funM T expr) k=.ok (a,k'))=>(hN k a k' h1 hq).rng w5.heap.size (fun b hb=>by simpa using hb))
 clear hN
 unfold NV.v
 go_wp2_with fail
 go_region
 go_wp2_with fail
 have H103:=ai (((((((uh H88).set (b:=w.heap.size) (by omega) (by omega) 0 (.int .i64 (tn.kind:Int))).set (b:=w.heap.size) (by omega) (by omega) 1 (.string tn.text)).set (b:=w.heap.size) (by omega) (by omega) 2 (.int .i64 (tn.frm:Int))).set (b:=w.heap.size) (by omega) (by omega) 3 (.int .i64 (tn.to:Int))).st7 (b:=w.heap.size+1) (by omega) (by omega) x).alloc (.cells (nvA x) 62))
 have K104:=ai (((((((uh K89).setNew (b:=w.heap.size) (by omega) 0 (.int .i64 (tn.kind:Int))).setNew (b:=w.heap.size) (by omega) 1 (.string tn.text)).setNew (b:=w.heap.size) (by omega) 2 (.int .i64 (tn.frm:Int))).setNew (b:=w.heap.size) (by omega) 3 (.int .i64 (tn.to:Int))).st7 (b:=w.heap.size+1) (by omega) x).alloc (.cells (nvA x) 62))
 have B105:=ai (((((((uh B91).setS 0 (.int .i64 (tn.kind:Int)) #[.int .i64 (tn.kind:Int),.string ⟨#[]⟩,.int .i64 0,.int .i64 0] rfl (by simp)).setS 1 (.string tn.text) #[.int .i64 (tn.kind:Int),.string tn.text,.int .i64 0,.int .i64 0] rfl (by simp)).setS 2 (.int .i64 (tn.frm:Int)) #[.int .i64 (tn.kind:Int),.string tn.text,.int .i64 (tn.frm:Int),.int .i64 0] rfl (by simp)).setS 3 (.int .i64 (tn.to:Int)) #[.int .i64 (tn.kind:Int),.string tn.text,.int .i64 (tn.frm:Int),.int .i64 (tn.to:Int)] rfl (by simp)).stO7 (b:=w.heap.size+1) (by omega) x).alloc (.cells (nvA x) 62))
 have B106:=ai (((((((uh B92).setO (b2:=w.heap.size) (by omega) 0 (.int .i64 (tn.kind:Int))).setO (b2:=w.heap.size) (by omega) 1 (.string tn.text)).setO (b2:=w.heap.size) (by omega) 2 (.int .i64 (tn.frm:Int))).setO (b2:=w.heap.size) (by omega) 3 (.int .i64 (tn.to:Int))).st7 rfl x).alloc (.cells (nvA x) 62))
 have B107:=ai (((((((uh B93).setO (b2:=w.heap.size) (by omega) 0 (.int .i64 (tn.kind:Int))).setO (b2:=w.heap.size) (by omega) 1 (.string tn.text)).setO (b2:=w.heap.size) (by omega) 2 (.int .i64 (tn.frm:Int))).setO (b2:=w.heap.size) (by omega) 3 (.int .i64 (tn.to:Int))).stO7 (b:=w.heap.size+1) (by omega) x).alloc (.cells (nvA x) 62))
 have B108:=ai (Bx.at (((((((((((w6.setCell ⟨w.heap.size,0,none⟩ (.int .i64 (tn.kind:Int))).setCell ⟨w.heap.size,1,none⟩ (.string tn.text)).setCell ⟨w.heap.size,2,none⟩ (.int .i64 (tn.frm:Int))).setCell ⟨w.heap.size,3,none⟩ (.int .i64 (tn.to:Int))).setCell ⟨w.heap.size+1,0,none⟩ (.int .i64 x.k)).setCell ⟨w.heap.size+1,1,none⟩ (.string x.s)).setCell ⟨w.heap.size+1,2,none⟩ (.int .i64 x.n)).setCell ⟨w.heap.size+1,3,none⟩ (.slice x.la x.ll x.lc)).setCell ⟨w.heap.size+1,4,none⟩ (.int .i64 x.f)).setCell ⟨w.heap.size+1,5,none⟩ (.int .i64 x.t)).setCell ⟨w.heap.size+1,6,none⟩ (.int .i64 x.a)) #[.int .i64 x.k,.string x.s,.int .i64 x.n,.slice x.la x.ll x.lc,.int .i64 x.f,.int .i64 x.t,.int .i64 x.a] 62 (w6.heap.size) (by simp[World.setCell]))
 have R109:=ai (fun k a k' h1 hq=>(NR.bel (qcf (NR.set (NR.set (NR.set (NR.set (uh hN1 k a k' h1 hq) (b2:=w.heap.size) (fun b hb _=>by omega) 0 (.int .i64 (tn.kind:Int))) (b2:=w.heap.size) (fun b hb _=>by omega) 1 (.string tn.text)) (b2:=w.heap.size) (fun b hb _=>by omega) 2 (.int .i64 (tn.frm:Int))) (b2:=w.heap.size) (fun b hb _=>by omega) 3 (.int .i64 (tn.to:Int))) (b2:=w.heap.size+1) (fun b hb _=>by omega) (.int .i64 x.k) (.string x.s) (.int .i64 x.n) (.slice x.la x.ll x.lc) (.int .i64 x.f) (.int .i64 x.t) (.int .i64 x.a)) (bw (.cells (nvA x) 62))))
 clear H88 K89 B91 B92 B93 hN1 c94 f95 y96 c97 f98 y99 c100 f101 y102
 obtain⟨cT,fT,zT⟩:=(uh B105).drew
 obtain⟨cF,fF,zF⟩:=(uh B106).drew
 refine bodyPost_ret (v:=.tuple #[.int .i64 11,tokV tn,NV.v x]) (by simp[results,Tryz.results59,go_sem,cT,cF,NV.v,tokV];try rfl) rfl ⟨tn,x,rfl,(uh K104).drew,(uh H103).drew,uh Hn,fun k a k' h1 hq=>?_⟩
 exact NR.bel ((uh R109 k a k' h1 hq).wide _ (fun b hb=>by omega)) (Below.refl _ _).drew
theorem bound_no{n:Nat}{expr:M Nd}(HE:NodeC rb g cap T 120 #[.pointer (some ⟨rb,0,none⟩)] expr n)(h:SS w rb g cap T σ)(hf:∀k,σ=.ok k->T.length<=k+(n+1))(hr:isS T (nx σ (qag T kLet)) kRec=false):
 Calls Tryz.prog 59 #[.pointer (some ⟨rb,0,none⟩)] w fun e w'=>∃(t:Pu.Tok)(x:NV),e=.returned (.tuple #[.int .i64 10,tokV t,x.v])/\Ke rb w w'/\SS w' rb g cap T (nx (nx (nx (nx σ (qag T kLet)) (qa7 T 1)) (qag T kEq)) expr)/\
  (∀k a k',(nx σ (qag T kLet))=.ok k->qa7 T 1 k=.ok (a,k')->t=a)/\∀k a k',(nx (nx (nx σ (qag T kLet)) (qa7 T 1)) (qag T kEq))=.ok k->expr k=.ok (a,k')->NR w' (fun b=>w.heap.size<=b) a x:=by
 have HE':=ai HE
 have hf':=ai hf
 clear HE hf
 have hR:=hr
 clear hr
 have hr:=h.hr
 have hg:=h.hg
 have H1:=ai h
 have K2:=ai (Ke.refl rb w)
 clear h
 go_enter Tryz.func59,Tryz.ntmps59
 go_wp2_with fail
 have H3:=ai (((uh H1).alloc (.cells #[.int .i64 0,.string ⟨#[]⟩,.int .i64 0,.int .i64 0] 58)).alloc (.cells qat 62))
 have K4:=ai (((uh K2).alloc (.cells #[.int .i64 0,.string ⟨#[]⟩,.int .i64 0,.int .i64 0] 58)).alloc (.cells qat 62))
 have B5:=ai ((Bx.at w #[.int .i64 0,.string ⟨#[]⟩,.int .i64 0,.int .i64 0] 58 (w.heap.size) (by simp[World.setCell])).alloc (.cells qat 62))
 have B6:=ai (Bx.at (w.alloc (.cells #[.int .i64 0,.string ⟨#[]⟩,.int .i64 0,.int .i64 0] 58)) #[.int .i64 0,.string ⟨#[]⟩,.int .i64 0,.slice none 0 0,.int .i64 0,.int .i64 0,.int .i64 0] 62 (w.heap.size+1) (by simp[World.setCell]))
 clear H1 K2
 refine(qch (uh H3) kLet).mono ?_
 rintro e w1⟨rfl,hb,hS⟩
 have H7:=ai hS
 have K8:=ai ((uh K4).trans hb)
 have z9:=hb.size
 try simp[World.setCell]at z9
 have B10:=ai ((uh B5).ke hb (by omega))
 have B11:=ai ((uh B6).ke hb (by omega))
 clear H3 K4 B5 B6 hb hS
 obtain⟨c12,f13,y14⟩:=uh B10
 obtain⟨c15,f16,y17⟩:=uh B11
 go_wp2_with fail
 clear c12 f13 y14 c15 f16 y17
 refine(is_S (uh H7) kRec).mono ?_
 rintro e w2⟨rfl,hb⟩
 have H22:=ai ((uh H7).below hb)
 have K23:=ai ((uh K8).below hb)
 have z24:=hb.size
 try simp[World.setCell]at z24
 have B25:=ai ((uh B10).below hb)
 have B26:=ai ((uh B11).below hb)
 clear H7 K8 B10 B11 hb
 obtain⟨c27,f28,y29⟩:=uh B25
 obtain⟨c30,f31,y32⟩:=uh B26
 go_wp2_with fail
 clear c27 f28 y29 c30 f31 y32
 refine(name_one (uh H22)).mono ?_
 rintro e w4⟨tn,rfl,hb,hS,hn⟩
 have H37:=ai hS
 have K38:=ai ((uh K23).trans hb)
 have z39:=hb.size
 try simp[World.setCell]at z39
 have B40:=ai ((uh B25).ke hb (by omega))
 have B41:=ai ((uh B26).ke hb (by omega))
 clear H22 K23 B25 B26 hb hS
 obtain⟨c42,f43,y44⟩:=uh B40
 obtain⟨c45,f46,y47⟩:=uh B41
 have Hn:=ai hn
 clear hn
 unfold tokV
 go_wp2_with fail
 have H48:=ai ((uh H37).alloc (.cells #[.int .i64 (tn.kind:Int),.string tn.text,.int .i64 (tn.frm:Int),.int .i64 (tn.to:Int)] 58))
 have K49:=ai ((uh K38).alloc (.cells #[.int .i64 (tn.kind:Int),.string tn.text,.int .i64 (tn.frm:Int),.int .i64 (tn.to:Int)] 58))
 have B50:=ai ((uh B40).alloc (.cells #[.int .i64 (tn.kind:Int),.string tn.text,.int .i64 (tn.frm:Int),.int .i64 (tn.to:Int)] 58))
 have B51:=ai ((uh B41).alloc (.cells #[.int .i64 (tn.kind:Int),.string tn.text,.int .i64 (tn.frm:Int),.int .i64 (tn.to:Int)] 58))
 have B52:=ai (Bx.at w4 #[.int .i64 (tn.kind:Int),.string tn.text,.int .i64 (tn.frm:Int),.int .i64 (tn.to:Int)] 58 (w4.heap.size) (by simp[World.setCell]))
 clear H37 K38 B40 B41 c42 f43 y44 c45 f46 y47
 refine(qch (uh H48) kEq).mono ?_
 rintro e w5⟨rfl,hb,hS⟩
 have H53:=ai hS
 have K54:=ai ((uh K49).trans hb)
 have z55:=hb.size
 try simp[World.setCell]at z55
 have B56:=ai ((uh B50).ke hb (by omega))
 have B57:=ai ((uh B51).ke hb (by omega))
 have B58:=ai ((uh B52).ke hb (by omega))
 clear H48 K49 B50 B51 B52 hb hS
 obtain⟨c59,f60,y61⟩:=uh B56
 obtain⟨c62,f63,y64⟩:=uh B57
 obtain⟨c65,f66,y67⟩:=uh B58
 go_wp2_with fail
 clear c59 f60 y61 c62 f63 y64 c65 f66 y67
 refine(uh HE' _ _ (uh H53) (by intro j hj;obtain⟨k3,_,e3,m3⟩:=qbf hj;obtain⟨k2,_,e2,m2⟩:=qbf e3;obtain⟨k1,_,e1,m1⟩:=qbf e2;have:=uh hf' k1 e1;have:=qah _ _ _ _ m3;have:=qbk _ _ _ _ m2;have:=qah _ _ _ _ m1;omega)).mono ?_
 rintro e w6⟨x,rfl,hb,hS,hN⟩
 have H73:=ai hS
 have K74:=ai ((uh K54).trans hb)
 have z75:=hb.size
 try simp[World.setCell]at z75
 have B76:=ai ((uh B56).ke hb (by omega))
 have B77:=ai ((uh B57).ke hb (by omega))
 have B78:=ai ((uh B58).ke hb (by omega))
 clear H53 K54 B56 B57 B58 hb hS
 obtain⟨c79,f80,y81⟩:=uh B76
 obtain⟨c82,f83,y84⟩:=uh B77
 obtain⟨c85,f86,y87⟩:=uh B78
 have hN1:=ai (fun k a k' (h1:(nx (nx (nx σ (qag T kLet)) (qa7 T 1)) (qag T kEq))=.ok k) (hq:expr k=.ok (a,k'))=>(hN k a k' h1 hq).rng w5.heap.size (fun b hb=>by simpa using hb))
 clear hN
 unfold NV.v
 go_wp2_with fail
 go_region
 go_wp2_with fail
 have H88:=ai (((((((uh H73).set (b:=w.heap.size) (by omega) (by omega) 0 (.int .i64 (tn.kind:Int))).set (b:=w.heap.size) (by omega) (by omega) 1 (.string tn.text)).set (b:=w.heap.size) (by omega) (by omega) 2 (.int .i64 (tn.frm:Int))).set (b:=w.heap.size) (by omega) (by omega) 3 (.int .i64 (tn.to:Int))).st7 (b:=w.heap.size+1) (by omega) (by omega) x).alloc (.cells (nvA x) 62))
 have K89:=ai (((((((uh K74).setNew (b:=w.heap.size) (by omega) 0 (.int .i64 (tn.kind:Int))).setNew (b:=w.heap.size) (by omega) 1 (.string tn.text)).setNew (b:=w.heap.size) (by omega) 2 (.int .i64 (tn.frm:Int))).setNew (b:=w.heap.size) (by omega) 3 (.int .i64 (tn.to:Int))).st7 (b:=w.heap.size+1) (by omega) x).alloc (.cells (nvA x) 62))
 have B90:=ai (((((((uh B76).setS 0 (.int .i64 (tn.kind:Int)) #[.int .i64 (tn.kind:Int),.string ⟨#[]⟩,.int .i64 0,.int .i64 0] rfl (by simp)).setS 1 (.string tn.text) #[.int .i64 (tn.kind:Int),.string tn.text,.int .i64 0,.int .i64 0] rfl (by simp)).setS 2 (.int .i64 (tn.frm:Int)) #[.int .i64 (tn.kind:Int),.string tn.text,.int .i64 (tn.frm:Int),.int .i64 0] rfl (by simp)).setS 3 (.int .i64 (tn.to:Int)) #[.int .i64 (tn.kind:Int),.string tn.text,.int .i64 (tn.frm:Int),.int .i64 (tn.to:Int)] rfl (by simp)).stO7 (b:=w.heap.size+1) (by omega) x).alloc (.cells (nvA x) 62))
 have B91:=ai (((((((uh B77).setO (b2:=w.heap.size) (by omega) 0 (.int .i64 (tn.kind:Int))).setO (b2:=w.heap.size) (by omega) 1 (.string tn.text)).setO (b2:=w.heap.size) (by omega) 2 (.int .i64 (tn.frm:Int))).setO (b2:=w.heap.size) (by omega) 3 (.int .i64 (tn.to:Int))).st7 rfl x).alloc (.cells (nvA x) 62))
 have B92:=ai (((((((uh B78).setO (b2:=w.heap.size) (by omega) 0 (.int .i64 (tn.kind:Int))).setO (b2:=w.heap.size) (by omega) 1 (.string tn.text)).setO (b2:=w.heap.size) (by omega) 2 (.int .i64 (tn.frm:Int))).setO (b2:=w.heap.size) (by omega) 3 (.int .i64 (tn.to:Int))).stO7 (b:=w.heap.size+1) (by omega) x).alloc (.cells (nvA x) 62))
 have B93:=ai (Bx.at (((((((((((w6.setCell ⟨w.heap.size,0,none⟩ (.int .i64 (tn.kind:Int))).setCell ⟨w.heap.size,1,none⟩ (.string tn.text)).setCell ⟨w.heap.size,2,none⟩ (.int .i64 (tn.frm:Int))).setCell ⟨w.heap.size,3,none⟩ (.int .i64 (tn.to:Int))).setCell ⟨w.heap.size+1,0,none⟩ (.int .i64 x.k)).setCell ⟨w.heap.size+1,1,none⟩ (.string x.s)).setCell ⟨w.heap.size+1,2,none⟩ (.int .i64 x.n)).setCell ⟨w.heap.size+1,3,none⟩ (.slice x.la x.ll x.lc)).setCell ⟨w.heap.size+1,4,none⟩ (.int .i64 x.f)).setCell ⟨w.heap.size+1,5,none⟩ (.int .i64 x.t)).setCell ⟨w.heap.size+1,6,none⟩ (.int .i64 x.a)) #[.int .i64 x.k,.string x.s,.int .i64 x.n,.slice x.la x.ll x.lc,.int .i64 x.f,.int .i64 x.t,.int .i64 x.a] 62 (w6.heap.size) (by simp[World.setCell]))
 have R94:=ai (fun k a k' h1 hq=>(NR.bel (qcf (NR.set (NR.set (NR.set (NR.set (uh hN1 k a k' h1 hq) (b2:=w.heap.size) (fun b hb _=>by omega) 0 (.int .i64 (tn.kind:Int))) (b2:=w.heap.size) (fun b hb _=>by omega) 1 (.string tn.text)) (b2:=w.heap.size) (fun b hb _=>by omega) 2 (.int .i64 (tn.frm:Int))) (b2:=w.heap.size) (fun b hb _=>by omega) 3 (.int .i64 (tn.to:Int))) (b2:=w.heap.size+1) (fun b hb _=>by omega) (.int .i64 x.k) (.string x.s) (.int .i64 x.n) (.slice x.la x.ll x.lc) (.int .i64 x.f) (.int .i64 x.t) (.int .i64 x.a)) (bw (.cells (nvA x) 62))))
 clear H73 K74 B76 B77 B78 hN1 c79 f80 y81 c82 f83 y84 c85 f86 y87
 obtain⟨cT,fT,zT⟩:=(uh B90).drew
 obtain⟨cF,fF,zF⟩:=(uh B91).drew
 refine bodyPost_ret (v:=.tuple #[.int .i64 10,tokV tn,NV.v x]) (by simp[results,Tryz.results59,go_sem,cT,cF,NV.v,tokV];try rfl) rfl ⟨tn,x,rfl,(uh K89).drew,(uh H88).drew,uh Hn,fun k a k' h1 hq=>?_⟩
 exact NR.bel ((uh R94 k a k' h1 hq).wide _ (fun b hb=>by omega)) (Below.refl _ _).drew
theorem bound_C{n:Nat}{expr:M Nd}(HE:NodeC rb g cap T 120 #[.pointer (some ⟨rb,0,none⟩)] expr n)(HF:NodeC rb g cap T 119 #[.pointer (some ⟨rb,0,none⟩)] (funM T expr) (n+1)):BoundC rb g cap T (qbg T expr) (n+1):=by
 intro w σ h hf
 rcases hr:isS T (nx σ (qag T kLet)) kRec with _|_
 .refine(bound_no HE h hf hr).mono ?_
  rintro e w'⟨t,x,he,hK,hS,hn,hN⟩
  refine⟨10,t,x,he,hK,by rw[bound_let hr];exact hS,fun k b k' hk hq=>?_⟩
  subst hk
  unfold qbg at hq
  obtain⟨_,k1,q1,r1⟩:=qad hq
  have e1:nx (.ok k) (qag T kLet)=.ok k1:=qas q1
  have hr1:isT (tk T k1) kRec=false:=by rw[e1]at hr;exact hr
  rw[if_neg (by simp[hr1])]at r1
  obtain⟨t2,k2,q2,r2⟩:=qad r1
  obtain⟨_,k3,q3,r3⟩:=qad r2
  obtain⟨b2,k4,q4,r4⟩:=qad r3
  cases r4
  exact⟨rfl,hn k1 t2 k2 e1 q2,hN k3 b2 k' (by rw[e1,qas q2];exact qas q3) q4⟩
 .obtain⟨k1,e1,hr1⟩:=isS_inv hr
  obtain⟨k,u,rfl,q1⟩:=qbf e1
  refine(bound_yes HF h (hf k rfl) q1 hr1).mono ?_
  rintro e w'⟨t,x,he,hK,hS,hn,hN⟩
  refine⟨11,t,x,he,hK,by rw[bound_rec q1 hr1];exact hS,fun k0 b k' hk hq=>?_⟩
  cases hk
  unfold qbg at hq
  rw[qcd q1,if_pos hr1]at hq
  obtain⟨t2,k2,q2,r2⟩:=qad hq
  obtain⟨_,k3,q3,r3⟩:=qad r2
  obtain⟨b2,k4,q4,r4⟩:=qad r3
  cases r4
  exact⟨rfl,hn _ t2 k2 rfl q2,hN k3 b2 k' (by rw[qas q2];exact qas q3) q4⟩
end
end
section
open Go Go.RowKit
structure MX(rb g cap:Nat)(T:List Pu.Tok)(w0:World)(bx:Nat)(σ:St)(v:Value)(xs:List NV)(L:List Nd)(P:Nat->Prop)(wr:World):Prop where
 ss:SS wr rb g cap T σ
 ke:Ke rb w0 wr
 zz:bx<=wr.heap.size
 rs:Bx wr w0.heap.size qat
 ow:wr.ownsRow bx 62 7 v xs.length (flat xs)
 pb:∀b,P b->w0.heap.size<b/\b<wr.heap.size
 pq:∀b q,P b->v.ownBlock=some q->q≠b
 nr:∀i(h:i<L.length)(h2:i<xs.length),NR wr P L[i] xs[i]
section
variable {rb g cap:Nat} {T:List Pu.Tok} {w0:World} {bx:Nat} {σ σ':St} {v:Value} {xs:List NV} {L:List Nd} {P:Nat->Prop} {wr w':World}
theorem MX.kee(h:MX rb g cap T w0 bx σ v xs L P wr)(hr:rb<w0.heap.size)(hx:w0.heap.size<bx)(k:Ke rb wr w')(s:SS w' rb g cap T σ'):MX rb g cap T w0 bx σ' v xs L P w':=
 ⟨s,h.ke.trans k,Nat.le_trans h.zz k.size,h.rs.ke k (by omega),own_ke h.ow k (by omega),fun b p=>⟨(h.pb b p).1,Nat.lt_of_lt_of_le (h.pb b p).2 k.size⟩,h.pq,fun i a b=>(h.nr i a b).ke k (fun b p=>by have:=(h.pb b p).1;omega)⟩
theorem MX.bel(h:MX rb g cap T w0 bx σ v xs L P wr)(hb:Below wr.heap.size wr w'):MX rb g cap T w0 bx σ v xs L P w':=
 ⟨h.ss.below hb,h.ke.trans (Ke.of hb),Nat.le_trans h.zz hb.size,h.rs.below hb,qcj h.ow hb,fun b p=>⟨(h.pb b p).1,Nat.lt_of_lt_of_le (h.pb b p).2 hb.size⟩,h.pq,fun i a b=>(h.nr i a b).bel hb⟩
theorem flat_two(xs:List NV)(y z:NV):flat (xs++[y,z])=flat xs++(y.l++z.l):=by simp[flat]
theorem MX.grow{W w3:World}{v3:Value}{y z:NV}{p e:Nd}{lo:Nat}(h:MX rb g cap T w0 bx σ v xs L P W)(hr:rb<w0.heap.size)(hg0:g<w0.heap.size)(hx:w0.heap.size<bx)(hg:W.grownBy w3 v.ownBlock)(ho:w3.ownsRow bx 62 7 v3 (xs.length+2) (flat xs++(y.l++z.l)))(ha:v3.ownBlock=v.ownBlock\/v3.ownBlock=some W.heap.size)(hlo:bx<=lo)(hv:∀q,v.ownBlock=some q->q<lo)(hL:L.length=xs.length)(hp:NR W (fun b=>lo<=b/\b<W.heap.size) p y)(he:NR W (fun b=>lo<=b/\b<W.heap.size) e z):
 MX rb g cap T w0 bx σ v3 (xs++[y,z]) (L++[p,e]) (fun b=>P b\/(lo<=b/\b<W.heap.size)) w3:=by
 have hq:∀q,v.ownBlock=some q->bx<=q/\q<W.heap.size:=World.ownsRow.lt h.ow
 have e1:(xs++[y,z]).length=xs.length+2:=by simp
 refine⟨SS.grown hg h.ss (fun j hj=>by have:=hq j hj;omega),Ke.grown hg h.ke (fun j hj=>by have:=hq j hj;omega),Nat.le_trans h.zz hg.size,Bx.grown hg h.rs (fun j hj=>by have:=hq j hj;omega),by rw[e1,flat_two];exact ho,?_,?_,?_⟩
 .rintro b(q|q)
  .exact⟨(h.pb b q).1,Nat.lt_of_lt_of_le (h.pb b q).2 hg.size⟩
  .exact⟨by omega,Nat.lt_of_lt_of_le q.2 hg.size⟩
 .intro b q pb hb
  rcases ha with a|a
  .rw[a]at hb
   rcases pb with r|r
   .exact h.pq b q r hb
   .have:=hv q hb;omega
  .rw[a]at hb
   cases hb
   rcases pb with r|r
   .have:=(h.pb b r).2;omega
   .omega
 .intro i hi h2
  by_cases hlt:i<xs.length
  .rw[List.getElem_append_left hlt,List.getElem_append_left (by omega)]
   exact(NR.grown hg (h.nr i (by omega) hlt) (fun j b hj pb=>h.pq b j pb hj)).move (br _) (fun _ _ _=>rfl) (fun b pb _=>Or.inl pb)
  .rw[List.getElem_append_right (by omega),List.getElem_append_right (by omega)]
   have hi':i-xs.length=0\/i-xs.length=1:=by simp at h2;omega
   have mv:∀{nd:Nd}{x:NV},NR W (fun b=>lo<=b/\b<W.heap.size) nd x->NR w3 (fun b=>P b\/(lo<=b/\b<W.heap.size)) nd x:=fun k=>
    (NR.grown hg k (fun j b hj pb=>by have:=hv j hj;omega)).move (br _) (fun _ _ _=>rfl) (fun b pb _=>Or.inr pb)
   rcases hi' with q|q
   .simp only[hL,q,List.getElem_cons_zero];exact mv hp
   .simp only[hL,q,List.getElem_cons_succ,List.getElem_cons_zero];exact mv he
theorem MX.node{va:Option Addr}{vc:Nat}(h:MX rb g cap T w0 bx σ (.slice va xs.length vc) xs L P wr)(hx:w0.heap.size<bx)(hL:L.length=xs.length)(hx0:1<=xs.length)(k:Nat)(s:BA)(n f t a:Nat)(v0 v1 v2 v3 v4 v5 v6:Value):
 NR (((((((wr.setCell ⟨w0.heap.size,0,none⟩ v0).setCell ⟨w0.heap.size,1,none⟩ v1).setCell ⟨w0.heap.size,2,none⟩ v2).setCell ⟨w0.heap.size,3,none⟩ v3).setCell ⟨w0.heap.size,4,none⟩ v4).setCell ⟨w0.heap.size,5,none⟩ v5).setCell ⟨w0.heap.size,6,none⟩ v6) (fun b=>w0.heap.size<=b) (.mk k s n L f t a) ⟨k,s,n,va,xs.length,vc,f,t,a⟩:=by
 have h1:NR wr (fun b=>w0.heap.size<b) (.mk k s n L f t a) ⟨k,s,n,va,xs.length,vc,f,t,a⟩:=
  NR.ofOwn (P:=fun b=>w0.heap.size<b) k s n f t a L xs hL.symm h.ow (fun q=>by rw[q]at hx0;simp at hx0) (fun i hi=>(h.nr i hi (by omega)).move (br _) (fun _ _ _=>rfl) (fun b p _=>(h.pb b p).1)) (fun q h1 _=>by omega)
 refine h1.move (by simp[World.setCell]) (fun b hb _=>?_) (fun b hb _=>Nat.le_of_lt hb)
 have hne:b≠w0.heap.size:=Nat.ne_of_gt hb
 rw[Below.heap_setCell _ _ _ _ hne,Below.heap_setCell _ _ _ _ hne,Below.heap_setCell _ _ _ _ hne,Below.heap_setCell _ _ _ _ hne,Below.heap_setCell _ _ _ _ hne,Below.heap_setCell _ _ _ _ hne,Below.heap_setCell _ _ _ _ hne]
theorem MX.growE{W w3:World}{v3:Value}{y z:NV}(h:MX rb g cap T w0 bx σ v xs L P W)(hr:rb<w0.heap.size)(hg0:g<w0.heap.size)(hx:w0.heap.size<bx)(hg:W.grownBy w3 v.ownBlock)(ho:w3.ownsRow bx 62 7 v3 (xs.length+2) (flat xs++(y.l++z.l))):
 MX rb g cap T w0 bx σ v3 (xs++[y,z]) [] (fun _=>False) w3:=by
 have hq:∀q,v.ownBlock=some q->bx<=q/\q<W.heap.size:=World.ownsRow.lt h.ow
 have e1:(xs++[y,z]).length=xs.length+2:=by simp
 exact⟨SS.grown hg h.ss (fun j hj=>by have:=hq j hj;omega),Ke.grown hg h.ke (fun j hj=>by have:=hq j hj;omega),Nat.le_trans h.zz hg.size,Bx.grown hg h.rs (fun j hj=>by have:=hq j hj;omega),by rw[e1,flat_two];exact ho,fun b q=>q.elim,fun b q r=>r.elim,fun i hi=>absurd hi (Nat.not_lt_zero _)⟩
end
section
variable {T:List Pu.Tok} {pat expr:M Nd}
theorem arms_st:∀(f:Nat)(l m:List Nd)(k:Nat),(∃fl,qcz T pat expr f l k=.error fl/\qcz T pat expr f m k=.error fl)\/(∃r k',qcz T pat expr f l k=.ok (l++r,k')/\qcz T pat expr f m k=.ok (m++r,k'))
 |0,l,m,k=>Or.inr ⟨[],k,by simp[qcz],by simp[qcz]⟩|f+1,l,m,k=>by
  simp only[qcz,bnd]
  cases e1:pat k with
  |error fl=>exact Or.inl ⟨fl,rfl,rfl⟩|ok p1=>
   simp only
   cases e2:qag T kArrow p1.2 with
   |error fl=>exact Or.inl ⟨fl,rfl,rfl⟩|ok p2=>
    simp only
    cases e3:expr p2.2 with
    |error fl=>exact Or.inl ⟨fl,rfl,rfl⟩|ok p3=>
     simp only
     by_cases hb:isT (tk T p3.2) kBar=true
     .simp only[hb,if_true]
      rcases arms_st f (l++[p1.1,p3.1]) (m++[p1.1,p3.1]) (p3.2+1)with⟨fl,a,b⟩|⟨r,k',a,b⟩
      .exact Or.inl ⟨fl,a,b⟩
      .exact Or.inr ⟨[p1.1,p3.1]++r,k',by rw[a];simp,by rw[b];simp⟩
     .simp only[hb]
      exact Or.inr ⟨[p1.1,p3.1],p3.2,by simp,by simp⟩
theorem arms_nx(σ:St)(f:Nat)(l m:List Nd):nx σ (qcz T pat expr f l)=nx σ (qcz T pat expr f m):=by
 cases σ with
 |error e=>rfl|ok k=>
  simp only[nx]
  rcases arms_st (T:=T) (pat:=pat) (expr:=expr) f l m k with⟨fl,a,b⟩|⟨r,k',a,b⟩
  .rw[a,b]
  .rw[a,b]
theorem arms_err{f k:Nat}{L:List Nd}{fl:Fl}(h:nx (nx (nx (.ok k) pat) (qag T kArrow)) expr=.error fl):qcz T pat expr (f+1) L k=.error fl:=by
 simp only[qcz,bnd]
 simp only[nx]at h
 cases e1:pat k with
 |error g=>rw[e1]at h;simpa using h|ok p1=>
  rw[e1]at h
  simp only at h⊢
  cases e2:qag T kArrow p1.2 with
  |error g=>rw[e2]at h;simpa using h|ok p2=>
   rw[e2]at h
   simp only at h⊢
   cases e3:expr p2.2 with
   |error g=>rw[e3]at h;simpa using h|ok p3=>rw[e3]at h;simp at h
theorem arms_ok{f k k7:Nat}{L:List Nd}(h:nx (nx (nx (.ok k) pat) (qag T kArrow)) expr=.ok k7):∃p k5 e k6,pat k=.ok (p,k5)/\nx (nx (.ok k) pat) (qag T kArrow)=.ok k6/\k6=k5+1/\expr k6=.ok (e,k7)/\qcz T pat expr (f+1) L k=(if isT (tk T k7) kBar=true then qcz T pat expr f (L++[p,e]) (k7+1)else .ok (L++[p,e],k7)):=by
 obtain⟨k6,e,h6,m6⟩:=qbf h
 obtain⟨k5,_,h5,m5⟩:=qbf h6
 obtain⟨k4,p,h4,m4⟩:=qbf h5
 cases h4
 refine⟨p,k5,e,k6,m4,h6,qah _ _ _ _ m5,m6,?_⟩
 simp only[qcz,bnd,m4,m5,m6]
theorem match_nx(σ:St):nx σ (qel T pat expr)=nx (nx (nx (nx (nx σ (qag T qbc)) expr) (qag T kWith)) (qcz T pat expr T.length [])) (qag T kEnd):=by
 cases σ with
 |error f=>rfl|ok k=>
  simp only[nx,qel,bnd]
  cases e0:qag T qbc k with
  |error f=>rfl|ok p0=>
   simp only
   cases e1:expr p0.2 with
   |error f=>rfl|ok p1=>
    simp only
    cases e2:qag T kWith p1.2 with
    |error f=>rfl|ok p2=>
     simp only
     rcases arms_st (T:=T) (pat:=pat) (expr:=expr) T.length [p1.1] [] p2.2 with⟨fl,a,b⟩|⟨r,k',a,b⟩
     .rw[a,b]
     .rw[a,b]
      simp only
      cases e4:qag T kEnd k' with
      |error f=>rfl|ok p4=>rfl
end
end
end Go.Proofs.YtoceemjbcgmojaaGreatDoor

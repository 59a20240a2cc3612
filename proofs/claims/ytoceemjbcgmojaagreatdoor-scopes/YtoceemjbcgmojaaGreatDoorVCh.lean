import Derived.Test.YtoceemjbcgmojaaGreatDoorVCc
set_option linter.all false
set_option maxRecDepth 100000
set_option maxHeartbeats 4000000
namespace Go.Proofs.YtoceemjbcgmojaaGreatDoor
section
open Go Go.RowKit Un
section
variable {s:BA} {n f t a:Nat}
theorem looks_10 {u v:Nd} (Hu:LEC u) (Hv:LEC v):LEC (.mk 10 s n [u,v] f t a):=by
 intro w wb B lv tv cv mv tys mks z x vv l h hB hx hN hl hs
 have hwb:=h.z
 have HS:=ai (hs.part u (by simp))
 have HS2:=ai (hs.part v (by simp))
 have HX:=ai hx
 obtain ⟨la,lc,rfl,hp⟩:=hx.pts
 obtain ⟨g,_,rfl,⟨hg,-⟩,-,-⟩:=hp 0 (by simp)
 have hxw:w.heap.size≠wb:=by omega
 have hbA:Below w.heap.size w (w.alloc (.cells (nvA ⟨10,s,n,some ⟨g,0,none⟩,2,lc,f,t,a⟩) 62)):=bw _
 have X0:Hid (WX wb w.heap.size ⟨10,s,n,some ⟨g,0,none⟩,2,lc,f,t,a⟩ lv tv cv mv tys mks w z (w.alloc (.cells (nvA ⟨10,s,n,some ⟨g,0,none⟩,2,lc,f,t,a⟩) 62))):=ai ⟨h.bel hbA,Ke.of hbA,Bx.new _ _ _⟩
 have N0:=ai (hN.bel hbA)
 rw [ckE_10]
 simp only [nn,nnL] at hl
 clear h hx hN hs hp hbA
 obtain ⟨ya,Rya,Pya,hgya⟩:=((uh HX).keB (uh X0).k hB).at' 0 (by simp)
 have HRya:=ai Rya
 have HPya:=ai Pya
 obtain ⟨qya0,qya1,qya2,qya3,qya4,qya5,qya6⟩:=qey Rya
 simp only [Nat.zero_mul,Nat.zero_add,Nat.one_mul,Nat.reduceMul,Nat.reduceAdd] at qya0 qya1 qya2 qya3 qya4 qya5 qya6
 clear Rya Pya
 obtain ⟨cya,fya,zya⟩:=(uh X0).b
 unfold NV.v
 have HC:=ai (Hu _ wb B lv tv cv mv tys mks z ya vv l (uh X0).d hB (uh HPya) (uh N0) (by omega) (uh HS))
 unfold NV.v at HC
 go_enter Tryz.func85,Tryz.ntmps85
 go_wp2_with fail
 refine (uh HC).mono ?_
 rintro e wa ⟨rfl,ka,da⟩
 have XA:=ai ((uh X0).ke hxw ka da)
 have NA:=ai ((uh N0).ke ka)
 clear ka da HC
 clear qya0 qya1 qya2 qya3 qya4 qya5 qya6 cya fya zya
 obtain ⟨yb,Ryb,Pyb,hgyb⟩:=((uh HX).keB (uh XA).k hB).at' 1 (by simp)
 have HRyb:=ai Ryb
 have HPyb:=ai Pyb
 obtain ⟨qyb0,qyb1,qyb2,qyb3,qyb4,qyb5,qyb6⟩:=qey Ryb
 simp only [Nat.zero_mul,Nat.zero_add,Nat.one_mul,Nat.reduceMul,Nat.reduceAdd] at qyb0 qyb1 qyb2 qyb3 qyb4 qyb5 qyb6
 clear Ryb Pyb
 obtain ⟨cyb,fyb,zyb⟩:=(uh XA).b
 go_wp2_with fail
 go_region_with (first
  |(go_at_call 86;refine (and_C ((uh NA).bel (Below.refl _ _).drew) (by have:=(uh XA).d.z;exact this) (by omega) s).mono ?_;rintro e w1 ⟨v1,rfl,b1,n1⟩;have hb:=(Below.refl _ _).drew.trans (b1.mono (br _));have X1:=ai ((uh XA).bel hb);have N1:=ai n1;have M1:=ai ((uh NA).bel hb);have P1:=ai ((uh HPyb).bel hb);obtain ⟨p0,p1,p2,p3,p4,p5,p6⟩:=qey (at7_b (uh HRyb) hb hgyb);simp only [Nat.zero_mul,Nat.zero_add,Nat.one_mul,Nat.reduceMul,Nat.reduceAdd] at p0 p1 p2 p3 p4 p5 p6;obtain ⟨c1,f1,z1⟩:=(uh X1).b;clear hb b1 n1)
  |(go_at_call 85;refine (Hv _ wb B lv tv cv mv tys mks _ yb v1 (l++[s]) (uh X1).d hB (uh P1) (uh N1) (by simp;omega) (uh HS2)).mono ?_;rintro e w2 ⟨rfl,k2,d2⟩;have X2:=ai ((uh X1).ke hxw k2 d2);have M2:=ai ((uh M1).ke k2);clear k2 d2))
 all_goals (
  go_wp2_with fail
  go_end0
  exact ⟨rfl,(uh X2).k,(uh X2).d⟩)
theorem looks_11 {u v:Nd} (Hu:LEC u) (Hv:LEC v):LEC (.mk 11 s n [u,v] f t a):=by
 intro w wb B lv tv cv mv tys mks z x vv l h hB hx hN hl hs
 have hwb:=h.z
 have HS:=ai (hs.part u (by simp))
 have HS2:=ai (hs.part v (by simp))
 have HX:=ai hx
 obtain ⟨la,lc,rfl,hp⟩:=hx.pts
 obtain ⟨g,_,rfl,⟨hg,-⟩,-,-⟩:=hp 0 (by simp)
 have hxw:w.heap.size≠wb:=by omega
 have hbA:Below w.heap.size w (w.alloc (.cells (nvA ⟨11,s,n,some ⟨g,0,none⟩,2,lc,f,t,a⟩) 62)):=bw _
 have X0:Hid (WX wb w.heap.size ⟨11,s,n,some ⟨g,0,none⟩,2,lc,f,t,a⟩ lv tv cv mv tys mks w z (w.alloc (.cells (nvA ⟨11,s,n,some ⟨g,0,none⟩,2,lc,f,t,a⟩) 62))):=ai ⟨h.bel hbA,Ke.of hbA,Bx.new _ _ _⟩
 have N0:=ai (hN.bel hbA)
 rw [ckE_11]
 simp only [nn,nnL] at hl
 clear h hx hN hs hp hbA
 obtain ⟨ya,Rya,Pya,hgya⟩:=((uh HX).keB (uh X0).k hB).at' 0 (by simp)
 have HRya:=ai Rya
 have HPya:=ai Pya
 obtain ⟨qya0,qya1,qya2,qya3,qya4,qya5,qya6⟩:=qey Rya
 simp only [Nat.zero_mul,Nat.zero_add,Nat.one_mul,Nat.reduceMul,Nat.reduceAdd] at qya0 qya1 qya2 qya3 qya4 qya5 qya6
 clear Rya Pya
 obtain ⟨cya,fya,zya⟩:=(uh X0).b
 unfold NV.v
 go_enter Tryz.func85,Tryz.ntmps85
 go_wp2_with fail
 go_cut [] from 14 (fun wc=>WX wb w.heap.size ⟨11,s,n,some ⟨g,0,none⟩,2,lc,f,t,a⟩ lv tv cv mv tys mks w (ckE (tyD tys) (mkD mks) u (l++[s]) z) wc∧NL wc wb vv l)
 case first=>
  go_region_with (first
   |(go_at_call 86;refine (and_C ((uh N0).bel (Below.refl _ _).drew) (by have:=(uh X0).d.z;exact this) (by omega) s).mono ?_;rintro e w1 ⟨v1,rfl,b1,n1⟩;have hb:=(Below.refl _ _).drew.trans (b1.mono (br _));have X1:=ai ((uh X0).bel hb);have N1:=ai n1;have M1:=ai ((uh N0).bel hb);have P1:=ai ((uh HPya).bel hb);obtain ⟨p0,p1,p2,p3,p4,p5,p6⟩:=qey (at7_b (uh HRya) hb hgya);simp only [Nat.zero_mul,Nat.zero_add,Nat.one_mul,Nat.reduceMul,Nat.reduceAdd] at p0 p1 p2 p3 p4 p5 p6;obtain ⟨c1,f1,z1⟩:=(uh X1).b;clear hb b1 n1)
   |(go_at_call 85;refine (Hu _ wb B lv tv cv mv tys mks _ ya v1 (l++[s]) (uh X1).d hB (uh P1) (uh N1) (by simp;omega) (uh HS)).mono ?_;rintro e w2 ⟨rfl,k2,d2⟩;have X2:=ai ((uh X1).ke hxw k2 d2);have M2:=ai ((uh M1).ke k2);clear k2 d2))
  all_goals (
   go_wp2_with fail
   go_meet
   case rel=>exact ⟨uh X2,uh M2⟩)
 case rest=>
 obtain ⟨hX,hN⟩:=hcut
 have XA:=ai hX
 have NA:=ai hN
 clear hX hN
 clear qya0 qya1 qya2 qya3 qya4 qya5 qya6 cya fya zya
 obtain ⟨yb,Ryb,Pyb,hgyb⟩:=((uh HX).keB (uh XA).k hB).at' 1 (by simp)
 have HRyb:=ai Ryb
 have HPyb:=ai Pyb
 obtain ⟨qyb0,qyb1,qyb2,qyb3,qyb4,qyb5,qyb6⟩:=qey Ryb
 simp only [Nat.zero_mul,Nat.zero_add,Nat.one_mul,Nat.reduceMul,Nat.reduceAdd] at qyb0 qyb1 qyb2 qyb3 qyb4 qyb5 qyb6
 clear Ryb Pyb
 obtain ⟨cyb,fyb,zyb⟩:=(uh XA).b
 go_wp2_with fail
 go_region_with (first
  |(go_at_call 86;refine (and_C ((uh NA).bel (Below.refl _ _).drew) (by have:=(uh XA).d.z;exact this) (by omega) s).mono ?_;rintro e w1 ⟨v1,rfl,b1,n1⟩;have hb:=(Below.refl _ _).drew.trans (b1.mono (br _));have X1:=ai ((uh XA).bel hb);have N1:=ai n1;have M1:=ai ((uh NA).bel hb);have P1:=ai ((uh HPyb).bel hb);obtain ⟨p0,p1,p2,p3,p4,p5,p6⟩:=qey (at7_b (uh HRyb) hb hgyb);simp only [Nat.zero_mul,Nat.zero_add,Nat.one_mul,Nat.reduceMul,Nat.reduceAdd] at p0 p1 p2 p3 p4 p5 p6;obtain ⟨c1,f1,z1⟩:=(uh X1).b;clear hb b1 n1)
  |(go_at_call 85;refine (Hv _ wb B lv tv cv mv tys mks _ yb v1 (l++[s]) (uh X1).d hB (uh P1) (uh N1) (by simp;omega) (uh HS2)).mono ?_;rintro e w2 ⟨rfl,k2,d2⟩;have X2:=ai ((uh X1).ke hxw k2 d2);have M2:=ai ((uh M1).ke k2);clear k2 d2))
 all_goals (
  go_wp2_with fail
  go_end0
  exact ⟨rfl,(uh X2).k,(uh X2).d⟩)
theorem looks_14 {u v:Nd} (Hu:LEC u) (Hv:LTC v):LEC (.mk 14 s n [u,v] f t a):=by
 intro w wb B lv tv cv mv tys mks z x vv l h hB hx hN hl hs
 have hwb:=h.z
 have HS:=ai (hs.part u (by simp))
 have HS2:=ai (hs.part v (by simp))
 have HX:=ai hx
 obtain ⟨la,lc,rfl,hp⟩:=hx.pts
 obtain ⟨g,_,rfl,⟨hg,-⟩,-,-⟩:=hp 0 (by simp)
 have hxw:w.heap.size≠wb:=by omega
 have hbA:Below w.heap.size w (w.alloc (.cells (nvA ⟨14,s,n,some ⟨g,0,none⟩,2,lc,f,t,a⟩) 62)):=bw _
 have X0:Hid (WX wb w.heap.size ⟨14,s,n,some ⟨g,0,none⟩,2,lc,f,t,a⟩ lv tv cv mv tys mks w z (w.alloc (.cells (nvA ⟨14,s,n,some ⟨g,0,none⟩,2,lc,f,t,a⟩) 62))):=ai ⟨h.bel hbA,Ke.of hbA,Bx.new _ _ _⟩
 have N0:=ai (hN.bel hbA)
 rw [ckE_14]
 simp only [nn,nnL] at hl
 clear h hx hN hs hp hbA
 obtain ⟨ya,Rya,Pya,hgya⟩:=((uh HX).keB (uh X0).k hB).at' 0 (by simp)
 have HRya:=ai Rya
 have HPya:=ai Pya
 obtain ⟨qya0,qya1,qya2,qya3,qya4,qya5,qya6⟩:=qey Rya
 simp only [Nat.zero_mul,Nat.zero_add,Nat.one_mul,Nat.reduceMul,Nat.reduceAdd] at qya0 qya1 qya2 qya3 qya4 qya5 qya6
 clear Rya Pya
 obtain ⟨cya,fya,zya⟩:=(uh X0).b
 unfold NV.v
 have HC:=ai (Hu _ wb B lv tv cv mv tys mks z ya vv l (uh X0).d hB (uh HPya) (uh N0) (by omega) (uh HS))
 unfold NV.v at HC
 go_enter Tryz.func85,Tryz.ntmps85
 go_wp2_with fail
 refine (uh HC).mono ?_
 rintro e wa ⟨rfl,ka,da⟩
 have XA:=ai ((uh X0).ke hxw ka da)
 clear ka da HC
 clear qya0 qya1 qya2 qya3 qya4 qya5 qya6 cya fya zya
 obtain ⟨yb,Ryb,Pyb,hgyb⟩:=((uh HX).keB (uh XA).k hB).at' 1 (by simp)
 have HRyb:=ai Ryb
 have HPyb:=ai Pyb
 obtain ⟨qyb0,qyb1,qyb2,qyb3,qyb4,qyb5,qyb6⟩:=qey Ryb
 simp only [Nat.zero_mul,Nat.zero_add,Nat.one_mul,Nat.reduceMul,Nat.reduceAdd] at qyb0 qyb1 qyb2 qyb3 qyb4 qyb5 qyb6
 clear Ryb Pyb
 obtain ⟨cyb,fyb,zyb⟩:=(uh XA).b
 have HC:=ai (Hv _ wb B lv tv cv mv tys mks _ yb none 0 [] (uh XA).d hB (uh HPyb) (fun i hi=>by simp at hi) (by simp) (uh HS2))
 unfold NV.v at HC
 go_wp2_with fail
 refine (uh HC).mono ?_
 rintro e wb' ⟨rfl,kb,db⟩
 have XB:=ai ((uh XA).ke hxw kb db)
 clear kb db HC
 go_wp2_with fail
 go_end0
 exact ⟨rfl,(uh XB).k,(uh XB).d⟩
end
end
end Go.Proofs.YtoceemjbcgmojaaGreatDoor

import Derived.Deep.RegionWith
import Derived.Test.YtoceemjbcgmojaaGreatDoorQRa
set_option linter.all false
set_option maxRecDepth 100000
set_option maxHeartbeats 4000000
namespace Go.Proofs.YtoceemjbcgmojaaGreatDoor
section
open Go Go.RowKit
theorem Bx.drew{w:World}{b:Nat}{C:Array Value}(h:Bx w b C):Bx w.drew b C:=h.below (Below.refl _ _).drew
theorem Ke.below{rb:Nat}{a b c:World}(h:Ke rb a b)(k:Below b.heap.size b c):Ke rb a c:=h.trans (Ke.of k)
theorem Ke.set7{rb:Nat}{a w:World}(h:Ke rb a w){b:Nat}(hb:a.heap.size<=b)(v0 v1 v2 v3 v4 v5 v6:Value):
 Ke rb a (((((((w.setCell ⟨b,0,none⟩ v0).setCell ⟨b,1,none⟩ v1).setCell ⟨b,2,none⟩ v2).setCell ⟨b,3,none⟩ v3).setCell ⟨b,4,none⟩ v4).setCell ⟨b,5,none⟩ v5).setCell ⟨b,6,none⟩ v6):=
 ((((((h.setNew hb _ _).setNew hb _ _).setNew hb _ _).setNew hb _ _).setNew hb _ _).setNew hb _ _).setNew hb _ _
theorem SS.set7{w:World}{rb g cap:Nat}{T:List Pu.Tok}{σ:St}(h:SS w rb g cap T σ){b:Nat}(h1:rb≠b)(h2:g≠b)(v0 v1 v2 v3 v4 v5 v6:Value):
 SS (((((((w.setCell ⟨b,0,none⟩ v0).setCell ⟨b,1,none⟩ v1).setCell ⟨b,2,none⟩ v2).setCell ⟨b,3,none⟩ v3).setCell ⟨b,4,none⟩ v4).setCell ⟨b,5,none⟩ v5).setCell ⟨b,6,none⟩ v6) rb g cap T σ:=
 ((((((h.set h1 h2 _ _).set h1 h2 _ _).set h1 h2 _ _).set h1 h2 _ _).set h1 h2 _ _).set h1 h2 _ _).set h1 h2 _ _
abbrev qat:Array Value:=#[.int .i64 0,.string ⟨#[]⟩,.int .i64 0,.slice none 0 0,.int .i64 0,.int .i64 0,.int .i64 0]
abbrev tokC(t:Pu.Tok):Array Value:=#[.int .i64 (t.kind:Int),.string t.text,.int .i64 (t.frm:Int),.int .i64 (t.to:Int)]
section
variable {rb g cap:Nat} {T:List Pu.Tok} {σ:St} {w:World}
theorem small_bad{fl:Fl}(h:SS w rb g cap T (.error fl))(sort:Nat):
 Calls Tryz.prog 203 #[.pointer (some ⟨rb,0,none⟩),.int .i64 (sort:Int)] w fun e w'=>e=.returned NV.no.v/\Ke rb w w'/\SS w' rb g cap T (.error fl):=by
 have hr:=h.hr
 have hg:=h.hg
 have H0:=ai (h.alloc (.cells qat 62))
 have B0:=ai (Bx.new w qat 62)
 have K0:=ai ((Ke.refl rb w).alloc (.cells qat 62))
 clear h
 go_enter Tryz.func203,Tryz.ntmps203
 go_wp2_with fail
 refine(qb5 (uh H0)).mono ?_
 rintro e w1⟨t,rfl,hb1,-⟩
 have H1:=ai (((uh H0).below hb1).alloc (.cells (tokC t) 58))
 have B1:=ai (((uh B0).below hb1).alloc (.cells (tokC t) 58))
 have K1:=ai (((uh K0).below hb1).alloc (.cells (tokC t) 58))
 clear H0 B0 K0 hb1
 unfold tokV
 go_wp2_with fail
 refine(ok_S (uh H1)).mono ?_
 rintro e w2⟨rfl,rfl⟩
 go_wp2_with fail
 refine(wrong_S (α:=Unit) (uh H1)).mono ?_
 rintro e w2⟨rfl,k2,H2⟩
 obtain⟨c0,f0,z0⟩:=(uh B1).ke k2 (by omega)
 have K2:=ai ((uh K1).trans k2)
 have H2':=ai H2
 clear H1 B1 K1 k2 H2
 go_wp2_with fail
 refine bodyPost_ret (v:=NV.no.v) (by simp[results,Tryz.results203,go_sem,c0,z0,NV.no,NV.v];try rfl) rfl ⟨rfl,?_,?_⟩
 .exact(uh K2).set7 (br _) _ _ _ _ _ _ _
 .exact(uh H2').set7 (by omega) (by omega) _ _ _ _ _ _ _
theorem small_no{k:Nat}(h:SS w rb g cap T (.ok k))(sort:Nat)(hs:sort=1\/sort=2\/sort=3)(hb:qai (tk T k) sort=false):
 Calls Tryz.prog 203 #[.pointer (some ⟨rb,0,none⟩),.int .i64 (sort:Int)] w fun e w'=>e=.returned NV.no.v/\Ke rb w w'/\SS w' rb g cap T (.error (flOf (tk T k))):=by
 have hr:=h.hr
 have hg:=h.hg
 have H0:=ai (h.alloc (.cells qat 62))
 have B0:=ai (Bx.new w qat 62)
 have K0:=ai ((Ke.refl rb w).alloc (.cells qat 62))
 clear h
 go_enter Tryz.func203,Tryz.ntmps203
 go_wp2_with fail
 refine(qb5 (uh H0)).mono ?_
 rintro e w1⟨t,rfl,hb1,ht⟩
 have ht':=ht k rfl
 subst ht'
 clear ht
 have H1:=ai (((uh H0).below hb1).alloc (.cells (tokC (tk T k)) 58))
 have B1:=ai (((uh B0).below hb1).alloc (.cells (tokC (tk T k)) 58))
 have K1:=ai (((uh K0).below hb1).alloc (.cells (tokC (tk T k)) 58))
 clear H0 B0 K0 hb1
 unfold tokV
 go_wp2_with fail
 refine(ok_S (uh H1)).mono ?_
 rintro e w2⟨rfl,rfl⟩
 go_wp2_with fail
 refine(qbt (tk T k) _ sort hs).mono ?_
 rintro e w3⟨rfl,hb3⟩
 have H3:=ai ((uh H1).below hb3)
 have B3:=ai ((uh B1).below hb3)
 have K3:=ai ((uh K1).below hb3)
 clear H1 B1 K1 hb3
 go_wp2_with fail
 refine(wrong_S (α:=Unit) (uh H3)).mono ?_
 rintro e w4⟨rfl,k2,H2⟩
 obtain⟨c0,f0,z0⟩:=(uh B3).ke k2 (by omega)
 have K2:=ai ((uh K3).trans k2)
 have H2':=ai H2
 clear H3 B3 K3 k2 H2
 go_wp2_with fail
 refine bodyPost_ret (v:=NV.no.v) (by simp[results,Tryz.results203,go_sem,c0,z0,NV.no,NV.v];try rfl) rfl ⟨rfl,?_,?_⟩
 .exact(uh K2).set7 (br _) _ _ _ _ _ _ _
 .exact(uh H2').set7 (by omega) (by omega) _ _ _ _ _ _ _
theorem small_leaf{k:Nat}(h:SS w rb g cap T (.ok k))(sort:Nat)(hs:sort=1\/sort=2\/sort=3)(hb:qai (tk T k) sort=true)(ho:isT (tk T k) qes=false):
 Calls Tryz.prog 203 #[.pointer (some ⟨rb,0,none⟩),.int .i64 (sort:Int)] w fun e w'=>e=.returned (qcl (tk T k))/\Ke rb w w'/\SS w' rb g cap T (.ok (k+1)):=by
 have ho':((tk T k).kind=5/\((tk T k).text.toList==[40])=false)\/(tk T k).kind≠5:=by
  rw[qea]at ho
  by_cases q:(tk T k).kind=5
  .simp[q]at ho;exact Or.inl ⟨q,by simpa using ho⟩
  .exact Or.inr q
 have h7:(tk T k).kind≠7:=by
  intro e
  simp[qai,isT,qa6,e]at hb
 have hr:=h.hr
 have hg:=h.hg
 have H0:=ai (h.alloc (.cells qat 62))
 have B0:=ai (Bx.new w qat 62)
 have K0:=ai ((Ke.refl rb w).alloc (.cells qat 62))
 clear h ho
 go_enter Tryz.func203,Tryz.ntmps203
 go_wp2_with fail
 refine(qb5 (uh H0)).mono ?_
 rintro e w1⟨t,rfl,hb1,ht⟩
 have ht':=ht k rfl
 subst ht'
 clear ht
 have H1:=ai (((uh H0).below hb1).alloc (.cells (tokC (tk T k)) 58))
 have B1:=ai (((uh B0).below hb1).alloc (.cells (tokC (tk T k)) 58))
 have K1:=ai (((uh K0).below hb1).alloc (.cells (tokC (tk T k)) 58))
 have D1:=ai (Bx.new w1 (tokC (tk T k)) 58)
 have hz1:w.heap.size<w1.heap.size:=by have:=hb1.size;simp at this;omega
 clear H0 B0 K0 hb1
 unfold tokV
 go_wp2_with fail
 refine(ok_S (uh H1)).mono ?_
 rintro e w2⟨rfl,rfl⟩
 go_wp2_with fail
 refine(qbt (tk T k) _ sort hs).mono ?_
 rintro e w3⟨rfl,hb3⟩
 have H3:=ai ((uh H1).below hb3)
 have B3:=ai ((uh B1).below hb3)
 have K3:=ai ((uh K1).below hb3)
 have D3:=ai ((uh D1).below hb3)
 clear H1 B1 K1 D1 hb3
 go_wp2_with fail
 refine(qcp (uh H3) h7).mono ?_
 rintro e w4⟨rfl,k4,H4⟩
 have B4:=ai ((uh B3).ke k4 (by omega))
 have K4:=ai ((uh K3).trans k4)
 obtain⟨d0,e0,y0⟩:=(uh D3).ke k4 (by omega)
 have H4':=ai H4
 clear H3 B3 K3 D3 k4 H4
 rcases ho' with⟨q5,q⟩|q5
 .have e5:(((tk T k).kind:Int) !=5)=false:=by rw[q5];rfl
  clear q5
  go_wp2_with fail
  refine(leaf_any (tk T k) _).mono ?_
  rintro e w5⟨rfl,hb5⟩
  obtain⟨c0,f0,z0⟩:=(uh B4).below hb5
  have K5:=ai ((uh K4).below hb5)
  have H5:=ai ((uh H4').below hb5)
  clear B4 K4 H4' hb5 d0 e0 y0
  unfold qcl qcm
  go_wp2_with fail
  refine bodyPost_ret (v:=qcl (tk T k)) (by simp[results,Tryz.results203,go_sem,c0,z0,qcl,qcm];try rfl) rfl ⟨rfl,?_,?_⟩
  .exact(uh K5).set7 (br _) _ _ _ _ _ _ _
  .exact(uh H5).set7 (by omega) (by omega) _ _ _ _ _ _ _
 .have e5:(((tk T k).kind:Int) !=5)=true:=by simp;omega
  clear q5
  go_wp2_with fail
  refine(leaf_any (tk T k) _).mono ?_
  rintro e w5⟨rfl,hb5⟩
  obtain⟨c0,f0,z0⟩:=(uh B4).below hb5
  have K5:=ai ((uh K4).below hb5)
  have H5:=ai ((uh H4').below hb5)
  clear B4 K4 H4' hb5 d0 e0 y0
  unfold qcl qcm
  go_wp2_with fail
  refine bodyPost_ret (v:=qcl (tk T k)) (by simp[results,Tryz.results203,go_sem,c0,z0,qcl,qcm];try rfl) rfl ⟨rfl,?_,?_⟩
  .exact(uh K5).set7 (br _) _ _ _ _ _ _ _
  .exact(uh H5).set7 (by omega) (by omega) _ _ _ _ _ _ _
end
end
section
open Go Go.RowKit
section
variable {rb g cap:Nat} {T:List Pu.Tok} {σ:St} {w:World}
theorem qbe{t:Pu.Tok}{s:BA}(h:isT t s=true):t.kind=5:=by simp[isT]at h;exact h.1
theorem small_unit{k:Nat}(h:SS w rb g cap T (.ok k))(sort:Nat)(hs:sort=2\/sort=3)(ho:isT (tk T k) qes=true)(hc:isT (tk T (k+1)) kClose=true):
 Calls Tryz.prog 203 #[.pointer (some ⟨rb,0,none⟩),.int .i64 (sort:Int)] w fun e w'=>e=.returned (qcm 5 kNo 0 (.slice none 0 0) ((tk T k).frm:Int) (qan T (k+2):Int) ((tk T k).frm:Int))/\Ke rb w w'/\SS w' rb g cap T (.ok (k+2)):=by
 have hb:qai (tk T k) sort=true:=by unfold qai;rw[ho];rfl
 obtain⟨q5,q⟩:(tk T k).kind=5/\((tk T k).text.toList==[40])=true:=by rw[qea]at ho;simpa using ho
 have h7:(tk T k).kind≠7:=by omega
 have h7':(tk T (k+1)).kind≠7:=by have:=qbe hc;omega
 have s1:((sort:Int) !=1)=true:=by simp;omega
 have e5:(((tk T k).kind:Int) !=5)=false:=by rw[q5];rfl
 have hC:isS T (.ok (k+1)) kClose=true:=hc
 have hr:=h.hr
 have hg:=h.hg
 have H0:=ai (h.alloc (.cells qat 62))
 have B0:=ai (Bx.new w qat 62)
 have K0:=ai ((Ke.refl rb w).alloc (.cells qat 62))
 clear h ho q5 hc
 go_enter Tryz.func203,Tryz.ntmps203
 go_wp2_with fail
 refine(qb5 (uh H0)).mono ?_
 rintro e w1⟨t,rfl,hb1,ht⟩
 have ht':=ht k rfl
 subst ht'
 clear ht
 have H1:=ai (((uh H0).below hb1).alloc (.cells (tokC (tk T k)) 58))
 have B1:=ai (((uh B0).below hb1).alloc (.cells (tokC (tk T k)) 58))
 have K1:=ai (((uh K0).below hb1).alloc (.cells (tokC (tk T k)) 58))
 have D1:=ai (Bx.new w1 (tokC (tk T k)) 58)
 have hz1:w.heap.size<w1.heap.size:=by have:=hb1.size;simp at this;omega
 clear H0 B0 K0 hb1
 unfold tokV
 go_wp2_with fail
 refine(ok_S (uh H1)).mono ?_
 rintro e w2⟨rfl,rfl⟩
 go_wp2_with fail
 refine(qbt (tk T k) _ sort (by omega)).mono ?_
 rintro e w3⟨rfl,hb3⟩
 have H3:=ai ((uh H1).below hb3)
 have B3:=ai ((uh B1).below hb3)
 have K3:=ai ((uh K1).below hb3)
 have D3:=ai ((uh D1).below hb3)
 clear H1 B1 K1 D1 hb3
 go_wp2_with fail
 refine(qcp (uh H3) h7).mono ?_
 rintro e w4⟨rfl,k4,H4⟩
 have B4:=ai ((uh B3).ke k4 (by omega))
 have K4:=ai ((uh K3).trans k4)
 have D4:=ai ((uh D3).ke k4 (by omega))
 obtain⟨d0,e0,y0⟩:=uh D4
 have H4':=ai H4
 clear H3 B3 K3 D3 k4 H4
 go_wp2_with fail
 refine(is_S (uh H4') kClose).mono ?_
 rintro e w5⟨rfl,hb5⟩
 have H5:=ai ((uh H4').below hb5)
 have B5:=ai ((uh B4).below hb5)
 have K5:=ai ((uh K4).below hb5)
 have D5:=ai ((uh D4).below hb5)
 clear H4' B4 K4 D4 hb5 d0 e0 y0
 go_wp2_with fail
 refine(qcp (uh H5) h7').mono ?_
 rintro e w6⟨rfl,k6,H6⟩
 have B6:=ai ((uh B5).ke k6 (by omega))
 have K6:=ai ((uh K5).trans k6)
 have D6:=ai ((uh D5).ke k6 (by omega))
 obtain⟨d0,e0,y0⟩:=uh D6
 obtain⟨c0,f0,z0⟩:=uh B6
 have H6':=ai H6
 clear H5 B5 K5 D5 k6 H6
 go_wp2_with fail
 go_region_with(go_at_call 206;refine(qd1 (uh H6').drew).mono ?_;rintro e w7⟨n,rfl,hb7,hn⟩;obtain⟨d7,e7,y7⟩:=(uh D6).drew.below hb7;obtain⟨c7,f7,z7⟩:=(uh B6).drew.below hb7)
 all_goals
  have hn':=hn _ rfl
  subst hn'
  have K7:=ai ((uh K6).drew.below hb7)
  have H7:=ai ((uh H6').drew.below hb7)
  clear hn hb7 K6 H6' D6 B6
  go_wp2_with fail
  refine bodyPost_ret (v:=qcm 5 kNo 0 (.slice none 0 0) ((tk T k).frm:Int) (qan T (k+1+1):Int) ((tk T k).frm:Int)) (by simp[results,Tryz.results203,go_sem,c7,z7,qcm];try rfl) rfl ⟨rfl,?_,?_⟩
  .exact(uh K7).set7 (br _) _ _ _ _ _ _ _
  .exact(uh H7).set7 (by omega) (by omega) _ _ _ _ _ _ _
end
end
section
open Go Go.RowKit
theorem Bx.at(w:World)(C:Array Value)(t:TypeId)(b:Nat)(hb:b=w.heap.size):Bx (w.alloc (.cells C t)) b C:=by subst hb;exact Bx.new w C t
theorem Bx.setS{w:World}{b:Nat}{C:Array Value}(h:Bx w b C)(j:Nat)(v:Value)(C':Array Value)(hC:C'=C.setIfInBounds j v)(hj:j<C.size):Bx (w.setCell ⟨b,j,none⟩ v) b C':=by
 subst hC
 refine⟨fun o=>?_,fun o=>by simp;exact h.f o,by simpa[World.setCell]using h.z⟩
 by_cases e:o=j
 .subst e
  rw[World.cell?_setCell_same _ _ _ ((h.c o).trans (Array.getElem?_eq_getElem hj))]
  simp[hj]
 .rw[World.cell?_setCell_other _ _ _ _ (by intro q;injection q with _ q;exact e q.symm),h.c o,Array.getElem?_setIfInBounds_ne (by omega)]
theorem Bx.setO{w:World}{b b2:Nat}{C:Array Value}(h:Bx w b C)(hn:b≠b2)(j:Nat)(v:Value):Bx (w.setCell ⟨b2,j,none⟩ v) b C:=
 h.same (by simp[World.setCell]) (Below.heap_setCell _ _ _ _ hn)
theorem NR.set{w:World}{P:Nat->Prop}{nd:Nd}{x:NV}(h:NR w P nd x){b2:Nat}(hn:∀b,P b->b<w.heap.size->b≠b2)(j:Nat)(v:Value):NR (w.setCell ⟨b2,j,none⟩ v) P nd x:=
 h.move (by simp[World.setCell]) (fun b p hz=>Below.heap_setCell _ _ _ _ (hn b p hz)) (fun _ p _=>p)
theorem NR.rng{w:World}{P:Nat->Prop}{nd:Nd}{x:NV}(h:NR w P nd x)(lo:Nat)(hq:∀b,P b->lo<=b):NR w (fun b=>lo<=b/\b<w.heap.size) nd x:=
 h.move (br _) (fun _ _ _=>rfl) (fun b p hz=>⟨hq b p,hz⟩)
theorem NR.wide{w:World}{P:Nat->Prop}{nd:Nd}{x:NV}(h:NR w P nd x)(lo:Nat)(hq:∀b,P b->lo<=b):NR w (fun b=>lo<=b) nd x:=
 h.move (br _) (fun _ _ _=>rfl) (fun b p _=>hq b p)
theorem NR.ofBx{w:World}{P:Nat->Prop}(k:Nat)(s:BA)(n:Nat)(f t a:Nat)(L:List Nd)(xs:List NV)(h0:L≠[])(hl:xs.length=L.length){g:Nat}{C:Array Value}(hB:Bx w g C)(hC:C=(flat xs).toArray)(hr:∀i(h:i<L.length),NR w P L[i] (xs[i]'(by omega)))(hP:P g)(cap:Nat):
 NR w P (.mk k s n L f t a) ⟨k,s,n,some ⟨g,0,none⟩,L.length,cap,f,t,a⟩:=by
 subst hC
 have hx:∀i(h:i<L.length),xs.getD i NV.no=xs[i]'(by omega):=fun i h=>by rw[List.getD_eq_getElem?_getD,List.getElem?_eq_getElem (by omega)];rfl
 refine .row k s n L f t a g cap (fun i=>xs.getD i NV.no) h0 hP hB.z (fun i hi j hj=>?_) (fun i hi=>?_)
 .rw[hx i hi,hB.c,<-flat_at xs i j (by omega) hj]
  simp
 .rw[hx i hi]
  exact hr i hi
theorem NR.two{w:World}{P:Nat->Prop}(k:Nat)(s:BA)(n:Nat)(f t a:Nat){u v:Nd}{x y:NV}{g:Nat}{C:Array Value}(hB:Bx w g C)(hC:C=(flat [x,y]).toArray)(hu:NR w P u x)(hv:NR w P v y)(hP:P g)(cap:Nat):
 NR w P (.mk k s n [u,v] f t a) ⟨k,s,n,some ⟨g,0,none⟩,2,cap,f,t,a⟩:=
 NR.ofBx k s n f t a [u,v] [x,y] (by simp) rfl hB hC (fun i hi=>by
  match i,hi with
  |0,_=>exact hu|1,_=>exact hv) hP cap
abbrev nvA(x:NV):Array Value:=#[.int .i64 x.k,.string x.s,.int .i64 x.n,.slice x.la x.ll x.lc,.int .i64 x.f,.int .i64 x.t,.int .i64 x.a]
abbrev nvB(x y:NV):Array Value:=#[.int .i64 x.k,.string x.s,.int .i64 x.n,.slice x.la x.ll x.lc,.int .i64 x.f,.int .i64 x.t,.int .i64 x.a,.int .i64 y.k,.string y.s,.int .i64 y.n,.slice y.la y.ll y.lc,.int .i64 y.f,.int .i64 y.t,.int .i64 y.a]
abbrev nvT(x y z:NV):Array Value:=#[.int .i64 x.k,.string x.s,.int .i64 x.n,.slice x.la x.ll x.lc,.int .i64 x.f,.int .i64 x.t,.int .i64 x.a,.int .i64 y.k,.string y.s,.int .i64 y.n,.slice y.la y.ll y.lc,.int .i64 y.f,.int .i64 y.t,.int .i64 y.a,.int .i64 z.k,.string z.s,.int .i64 z.n,.slice z.la z.ll z.lc,.int .i64 z.f,.int .i64 z.t,.int .i64 z.a]
theorem Bx.set7{w:World}{b:Nat}{C:Array Value}(h:Bx w b C)(hC:C.size=7)(v0 v1 v2 v3 v4 v5 v6:Value):Bx (((((((w.setCell ⟨b,0,none⟩ v0).setCell ⟨b,1,none⟩ v1).setCell ⟨b,2,none⟩ v2).setCell ⟨b,3,none⟩ v3).setCell ⟨b,4,none⟩ v4).setCell ⟨b,5,none⟩ v5).setCell ⟨b,6,none⟩ v6) b #[v0,v1,v2,v3,v4,v5,v6]:=by
 obtain⟨a0,a1,a2,a3,a4,a5,a6,rfl⟩:∃a0 a1 a2 a3 a4 a5 a6,C=#[a0,a1,a2,a3,a4,a5,a6]:=by
  obtain⟨l⟩:=C
  match l,hC with
  |[a,b,c,d,e,f,g],_=>exact⟨a,b,c,d,e,f,g,rfl⟩
 exact((((((h.setS 0 v0 #[v0,a1,a2,a3,a4,a5,a6] rfl (by simp)).setS 1 v1 #[v0,v1,a2,a3,a4,a5,a6] rfl (by simp)).setS 2 v2 #[v0,v1,v2,a3,a4,a5,a6] rfl (by simp)).setS 3 v3 #[v0,v1,v2,v3,a4,a5,a6] rfl (by simp)).setS 4 v4 #[v0,v1,v2,v3,v4,a5,a6] rfl (by simp)).setS 5 v5 #[v0,v1,v2,v3,v4,v5,a6] rfl (by simp)).setS 6 v6 #[v0,v1,v2,v3,v4,v5,v6] rfl (by simp)
theorem Bx.setO7{w:World}{b' b:Nat}{C:Array Value}(h:Bx w b' C)(hn:b'≠b)(v0 v1 v2 v3 v4 v5 v6:Value):Bx (((((((w.setCell ⟨b,0,none⟩ v0).setCell ⟨b,1,none⟩ v1).setCell ⟨b,2,none⟩ v2).setCell ⟨b,3,none⟩ v3).setCell ⟨b,4,none⟩ v4).setCell ⟨b,5,none⟩ v5).setCell ⟨b,6,none⟩ v6) b' C:=
 ((((((h.setO hn 0 v0).setO hn 1 v1).setO hn 2 v2).setO hn 3 v3).setO hn 4 v4).setO hn 5 v5).setO hn 6 v6
theorem qcf{w:World}{P:Nat->Prop}{nd:Nd}{x:NV}(h:NR w P nd x){b2:Nat}(hn:∀b,P b->True->b≠b2)(v0 v1 v2 v3 v4 v5 v6:Value):
 NR (((((((w.setCell ⟨b2,0,none⟩ v0).setCell ⟨b2,1,none⟩ v1).setCell ⟨b2,2,none⟩ v2).setCell ⟨b2,3,none⟩ v3).setCell ⟨b2,4,none⟩ v4).setCell ⟨b2,5,none⟩ v5).setCell ⟨b2,6,none⟩ v6) P nd x:=
 ((((((h.set (fun b p _=>hn b p trivial) _ _).set (fun b p _=>hn b p trivial) _ _).set (fun b p _=>hn b p trivial) _ _).set (fun b p _=>hn b p trivial) _ _).set (fun b p _=>hn b p trivial) _ _).set (fun b p _=>hn b p trivial) _ _).set (fun b p _=>hn b p trivial) _ _
theorem SS.st7{w:World}{rb g cap:Nat}{T:List Pu.Tok}{σ:St}(h:SS w rb g cap T σ){b:Nat}(h1:rb≠b)(h2:g≠b)(x:NV):SS (((((((w.setCell ⟨b,0,none⟩ (.int .i64 x.k)).setCell ⟨b,1,none⟩ (.string x.s)).setCell ⟨b,2,none⟩ (.int .i64 x.n)).setCell ⟨b,3,none⟩ (.slice x.la x.ll x.lc)).setCell ⟨b,4,none⟩ (.int .i64 x.f)).setCell ⟨b,5,none⟩ (.int .i64 x.t)).setCell ⟨b,6,none⟩ (.int .i64 x.a)) rb g cap T σ:=h.set7 h1 h2 _ _ _ _ _ _ _
theorem Ke.st7{rb:Nat}{a w:World}(h:Ke rb a w){b:Nat}(hb:a.heap.size<=b)(x:NV):Ke rb a (((((((w.setCell ⟨b,0,none⟩ (.int .i64 x.k)).setCell ⟨b,1,none⟩ (.string x.s)).setCell ⟨b,2,none⟩ (.int .i64 x.n)).setCell ⟨b,3,none⟩ (.slice x.la x.ll x.lc)).setCell ⟨b,4,none⟩ (.int .i64 x.f)).setCell ⟨b,5,none⟩ (.int .i64 x.t)).setCell ⟨b,6,none⟩ (.int .i64 x.a)):=h.set7 hb _ _ _ _ _ _ _
theorem Bx.st7{w:World}{b:Nat}{C:Array Value}(h:Bx w b C)(hC:C.size=7)(x:NV):Bx (((((((w.setCell ⟨b,0,none⟩ (.int .i64 x.k)).setCell ⟨b,1,none⟩ (.string x.s)).setCell ⟨b,2,none⟩ (.int .i64 x.n)).setCell ⟨b,3,none⟩ (.slice x.la x.ll x.lc)).setCell ⟨b,4,none⟩ (.int .i64 x.f)).setCell ⟨b,5,none⟩ (.int .i64 x.t)).setCell ⟨b,6,none⟩ (.int .i64 x.a)) b (nvA x):=h.set7 hC _ _ _ _ _ _ _
theorem Bx.stO7{w:World}{b' b:Nat}{C:Array Value}(h:Bx w b' C)(hn:b'≠b)(x:NV):Bx (((((((w.setCell ⟨b,0,none⟩ (.int .i64 x.k)).setCell ⟨b,1,none⟩ (.string x.s)).setCell ⟨b,2,none⟩ (.int .i64 x.n)).setCell ⟨b,3,none⟩ (.slice x.la x.ll x.lc)).setCell ⟨b,4,none⟩ (.int .i64 x.f)).setCell ⟨b,5,none⟩ (.int .i64 x.t)).setCell ⟨b,6,none⟩ (.int .i64 x.a)) b' C:=h.setO7 hn _ _ _ _ _ _ _
theorem NRst7{w:World}{P:Nat->Prop}{nd:Nd}{y:NV}(h:NR w P nd y){b2:Nat}(hn:∀b,P b->True->b≠b2)(x:NV):NR (((((((w.setCell ⟨b2,0,none⟩ (.int .i64 x.k)).setCell ⟨b2,1,none⟩ (.string x.s)).setCell ⟨b2,2,none⟩ (.int .i64 x.n)).setCell ⟨b2,3,none⟩ (.slice x.la x.ll x.lc)).setCell ⟨b2,4,none⟩ (.int .i64 x.f)).setCell ⟨b2,5,none⟩ (.int .i64 x.t)).setCell ⟨b2,6,none⟩ (.int .i64 x.a)) P nd y:=qcf h hn _ _ _ _ _ _ _
def NodeC(rb g cap:Nat)(T:List Pu.Tok)(F:FuncId)(args:Array Value)(m:M Nd)(n:Nat):Prop:=
 ∀(w:World)(σ:St),SS w rb g cap T σ->(∀k,σ=.ok k->T.length<=k+n)->
  Calls Tryz.prog F args w fun e w'=>∃x:NV,e=.returned x.v/\Ke rb w w'/\SS w' rb g cap T (nx σ m)/\∀k a k',σ=.ok k->m k=.ok (a,k')->NR w' (fun b=>w.heap.size<=b) a x
theorem qas{α:Type}{m:M α}{k k':Nat}{a:α}(h:m k=.ok (a,k')):nx (.ok k) m=.ok k':=by
 simp only[nx,h]
theorem qbn{α:Type}{m:M α}{k:Nat}{e:Fl}(h:m k=.error e):nx (.ok k) m=.error e:=by
 simp only[nx,h]
def Mono{α:Type}(m:M α):Prop:=∀k a k',m k=.ok (a,k')->k<=k'
end
section
open Go Go.RowKit
section
variable {rb g cap:Nat} {T:List Pu.Tok} {σ:St} {w:World}
theorem small_pair{k n:Nat}{part:M Nd}(h:SS w rb g cap T (.ok k))(sort:Nat)(hs:sort=2\/sort=3)(hf:T.length<=k+(n+1))(ho:isT (tk T k) qes=true)(hc:isT (tk T (k+1)) kClose=false)(HP:NodeC rb g cap T 305 #[.pointer (some ⟨rb,0,none⟩),.int .i64 (sort:Int)] part n)(hm:Mono part){a:Nd}{k2:Nat}(hp:part (k+1)=.ok (a,k2))(hk:isT (tk T k2) kComma=true):
 Calls Tryz.prog 203 #[.pointer (some ⟨rb,0,none⟩),.int .i64 (sort:Int)] w fun e w'=>∃x:NV,e=.returned x.v/\Ke rb w w'/\SS w' rb g cap T (nx (nx (.ok (k2+1)) part) (qag T kClose))/\
  ∀b k3 k4,part (k2+1)=.ok (b,k3)->qag T kClose k3=.ok ((),k4)->NR w' (fun b=>w.heap.size<=b) (.mk 6 kNo 0 [a,b] (tk T k).frm (qan T k4) (tk T k).frm) x:=by
 have hb:qai (tk T k) sort=true:=by unfold qai;rw[ho];rfl
 obtain⟨q5,q⟩:(tk T k).kind=5/\((tk T k).text.toList==[40])=true:=by rw[qea]at ho;simpa using ho
 have h7:(tk T k).kind≠7:=by omega
 have e5:(((tk T k).kind:Int) !=5)=false:=by rw[q5];rfl
 have hs3:sort=1\/sort=2\/sort=3:=by omega
 have s1:((sort:Int) !=1)=true:=by simp;omega
 have hC:isS T (.ok (k+1)) kClose=false:=hc
 have h7':(tk T k2).kind≠7:=by have:=qbe hk;omega
 have hD:isS T (.ok k2) kComma=true:=hk
 have hk2:=hm _ _ _ hp
 have HP':=ai HP
 have hp':=ai hp
 clear ho q5 hc hk HP hp hm hs
 have hr:=h.hr
 have hg:=h.hg
 have H1:=ai h
 have K2:=ai (Ke.refl rb w)
 clear h
 go_enter Tryz.func203,Tryz.ntmps203
 go_wp2_with fail
 have H3:=ai ((uh H1).alloc (.cells qat 62))
 have K4:=ai ((uh K2).alloc (.cells qat 62))
 have B5:=ai (Bx.at w qat 62 (w.heap.size) (by simp[World.setCell]))
 clear H1 K2
 refine(qb5 (uh H3)).mono ?_
 rintro e w1⟨t,rfl,hb,ht⟩
 have H6:=ai ((uh H3).below hb)
 have K7:=ai ((uh K4).below hb)
 have z8:=hb.size
 try simp[World.setCell]at z8
 have B9:=ai ((uh B5).below hb)
 clear H3 K4 B5 hb
 obtain⟨c10,f11,y12⟩:=uh B9
 have ht':=ht k rfl
 subst ht'
 clear ht
 unfold tokV
 go_wp2_with fail
 have H13:=ai ((uh H6).alloc (.cells #[.int .i64 ((tk T k).kind:Int),.string (tk T k).text,.int .i64 ((tk T k).frm:Int),.int .i64 ((tk T k).to:Int)] 58))
 have K14:=ai ((uh K7).alloc (.cells #[.int .i64 ((tk T k).kind:Int),.string (tk T k).text,.int .i64 ((tk T k).frm:Int),.int .i64 ((tk T k).to:Int)] 58))
 have B15:=ai ((uh B9).alloc (.cells #[.int .i64 ((tk T k).kind:Int),.string (tk T k).text,.int .i64 ((tk T k).frm:Int),.int .i64 ((tk T k).to:Int)] 58))
 have B16:=ai (Bx.at w1 #[.int .i64 ((tk T k).kind:Int),.string (tk T k).text,.int .i64 ((tk T k).frm:Int),.int .i64 ((tk T k).to:Int)] 58 (w1.heap.size) (by simp[World.setCell]))
 clear H6 K7 B9 c10 f11 y12
 refine(ok_S (uh H13)).mono ?_
 rintro e w2⟨rfl,rfl⟩
 go_wp2_with fail
 refine(qbt (tk T k) _ sort hs3).mono ?_
 rintro e w3⟨rfl,hb⟩
 have H17:=ai ((uh H13).below hb)
 have K18:=ai ((uh K14).below hb)
 have z19:=hb.size
 try simp[World.setCell]at z19
 have B20:=ai ((uh B15).below hb)
 have B21:=ai ((uh B16).below hb)
 clear H13 K14 B15 B16 hb
 obtain⟨c22,f23,y24⟩:=uh B20
 obtain⟨c25,f26,y27⟩:=uh B21
 go_wp2_with fail
 clear c22 f23 y24 c25 f26 y27
 refine(qcp (uh H17) h7).mono ?_
 rintro e w4⟨rfl,hb,hS⟩
 have H32:=ai hS
 have K33:=ai ((uh K18).trans hb)
 have z34:=hb.size
 try simp[World.setCell]at z34
 have B35:=ai ((uh B20).ke hb (by omega))
 have B36:=ai ((uh B21).ke hb (by omega))
 clear H17 K18 B20 B21 hb hS
 obtain⟨c37,f38,y39⟩:=uh B35
 obtain⟨c40,f41,y42⟩:=uh B36
 go_wp2_with fail
 clear c37 f38 y39 c40 f41 y42
 refine(is_S (uh H32) kClose).mono ?_
 rintro e w5⟨rfl,hb⟩
 have H47:=ai ((uh H32).below hb)
 have K48:=ai ((uh K33).below hb)
 have z49:=hb.size
 try simp[World.setCell]at z49
 have B50:=ai ((uh B35).below hb)
 have B51:=ai ((uh B36).below hb)
 clear H32 K33 B35 B36 hb
 obtain⟨c52,f53,y54⟩:=uh B50
 obtain⟨c55,f56,y57⟩:=uh B51
 go_wp2_with fail
 clear c52 f53 y54 c55 f56 y57
 refine(uh HP' _ _ (uh H47) (by intro j hj;cases hj;omega)).mono ?_
 rintro e w6⟨x,rfl,hb,hS,hN⟩
 have H62:=ai hS
 have K63:=ai ((uh K48).trans hb)
 have z64:=hb.size
 try simp[World.setCell]at z64
 have B65:=ai ((uh B50).ke hb (by omega))
 have B66:=ai ((uh B51).ke hb (by omega))
 clear H47 K48 B50 B51 hb hS
 obtain⟨c67,f68,y69⟩:=uh B65
 obtain⟨c70,f71,y72⟩:=uh B66
 have hN1:=ai ((hN _ _ _ rfl (uh hp')).rng w5.heap.size (fun b hb=>by simpa using hb))
 clear hN
 rw[qas (uh hp')]at H62
 unfold NV.v
 go_wp2_with fail
 have H73:=ai (((uh H62).alloc (.cells (nvA x) 62)).alloc (.cells #[.int .i64 0,.string ⟨#[]⟩,.int .i64 0,.slice none 0 0,.int .i64 ((tk T k).frm:Int),.int .i64 0,.int .i64 ((tk T k).frm:Int)] 62))
 have K74:=ai (((uh K63).alloc (.cells (nvA x) 62)).alloc (.cells #[.int .i64 0,.string ⟨#[]⟩,.int .i64 0,.slice none 0 0,.int .i64 ((tk T k).frm:Int),.int .i64 0,.int .i64 ((tk T k).frm:Int)] 62))
 have B75:=ai (((uh B65).alloc (.cells (nvA x) 62)).alloc (.cells #[.int .i64 0,.string ⟨#[]⟩,.int .i64 0,.slice none 0 0,.int .i64 ((tk T k).frm:Int),.int .i64 0,.int .i64 ((tk T k).frm:Int)] 62))
 have B76:=ai (((uh B66).alloc (.cells (nvA x) 62)).alloc (.cells #[.int .i64 0,.string ⟨#[]⟩,.int .i64 0,.slice none 0 0,.int .i64 ((tk T k).frm:Int),.int .i64 0,.int .i64 ((tk T k).frm:Int)] 62))
 have B77:=ai ((Bx.at w6 (nvA x) 62 (w6.heap.size) (by simp[World.setCell])).alloc (.cells #[.int .i64 0,.string ⟨#[]⟩,.int .i64 0,.slice none 0 0,.int .i64 ((tk T k).frm:Int),.int .i64 0,.int .i64 ((tk T k).frm:Int)] 62))
 have B78:=ai (Bx.at (w6.alloc (.cells (nvA x) 62)) #[.int .i64 0,.string ⟨#[]⟩,.int .i64 0,.slice none 0 0,.int .i64 ((tk T k).frm:Int),.int .i64 0,.int .i64 ((tk T k).frm:Int)] 62 (w6.heap.size+1) (by simp[World.setCell]))
 have R79:=ai ((NR.bel (NR.bel (uh hN1) (bw (.cells (nvA x) 62))) (bw (.cells #[.int .i64 0,.string ⟨#[]⟩,.int .i64 0,.slice none 0 0,.int .i64 ((tk T k).frm:Int),.int .i64 0,.int .i64 ((tk T k).frm:Int)] 62))))
 clear H62 K63 B65 B66 hN1 c67 f68 y69 c70 f71 y72
 refine(is_S (uh H73) kComma).mono ?_
 rintro e w7⟨rfl,hb⟩
 have H80:=ai ((uh H73).below hb)
 have K81:=ai ((uh K74).below hb)
 have z82:=hb.size
 try simp[World.setCell]at z82
 have B83:=ai ((uh B75).below hb)
 have B84:=ai ((uh B76).below hb)
 have B85:=ai ((uh B77).below hb)
 have B86:=ai ((uh B78).below hb)
 have R87:=ai (NR.bel (uh R79) hb)
 clear H73 K74 B75 B76 B77 B78 R79 hb
 obtain⟨c88,f89,y90⟩:=uh B83
 obtain⟨c91,f92,y93⟩:=uh B84
 obtain⟨c94,f95,y96⟩:=uh B85
 obtain⟨c97,f98,y99⟩:=uh B86
 go_wp2_with fail
 clear c88 f89 y90 c91 f92 y93 c94 f95 y96 c97 f98 y99
 refine(qcp (uh H80) h7').mono ?_
 rintro e w8⟨rfl,hb,hS⟩
 have H106:=ai hS
 have K107:=ai ((uh K81).trans hb)
 have z108:=hb.size
 try simp[World.setCell]at z108
 have B109:=ai ((uh B83).ke hb (by omega))
 have B110:=ai ((uh B84).ke hb (by omega))
 have B111:=ai ((uh B85).ke hb (by omega))
 have B112:=ai ((uh B86).ke hb (by omega))
 have R113:=ai (NR.ke (uh R87) hb (fun b hb=>by omega))
 clear H80 K81 B83 B84 B85 B86 R87 hb hS
 obtain⟨c114,f115,y116⟩:=uh B109
 obtain⟨c117,f118,y119⟩:=uh B110
 obtain⟨c120,f121,y122⟩:=uh B111
 obtain⟨c123,f124,y125⟩:=uh B112
 go_wp2_with fail
 clear c114 f115 y116 c117 f118 y119 c120 f121 y122 c123 f124 y125
 refine(uh HP' _ _ (uh H106) (by intro j hj;cases hj;omega)).mono ?_
 rintro e w9⟨y,rfl,hb,hS,hN⟩
 have H132:=ai hS
 have K133:=ai ((uh K107).trans hb)
 have z134:=hb.size
 try simp[World.setCell]at z134
 have B135:=ai ((uh B109).ke hb (by omega))
 have B136:=ai ((uh B110).ke hb (by omega))
 have B137:=ai ((uh B111).ke hb (by omega))
 have B138:=ai ((uh B112).ke hb (by omega))
 have R139:=ai (NR.ke (uh R113) hb (fun b hb=>by omega))
 clear H106 K107 B109 B110 B111 B112 R113 hb hS
 obtain⟨c140,f141,y142⟩:=uh B135
 obtain⟨c143,f144,y145⟩:=uh B136
 obtain⟨c146,f147,y148⟩:=uh B137
 obtain⟨c149,f150,y151⟩:=uh B138
 have hN2:=ai (fun b k3 (hq:part (k2+1)=.ok (b,k3))=>(hN _ b k3 rfl hq).rng w8.heap.size (fun b hb=>by simpa using hb))
 clear hN
 unfold NV.v
 go_wp2_with fail
 have H152:=ai (((((uh H132).set (b:=w6.heap.size+1) (by omega) (by omega) 0 (.int .i64 6)).set (b:=w6.heap.size+1) (by omega) (by omega) 3 (.slice (some ⟨w9.heap.size+1,0,none⟩) 2 2)).alloc (.cells (nvA y) 62)).alloc (.cells (nvB x y) 62))
 have K153:=ai (((((uh K133).setNew (b:=w6.heap.size+1) (by omega) 0 (.int .i64 6)).setNew (b:=w6.heap.size+1) (by omega) 3 (.slice (some ⟨w9.heap.size+1,0,none⟩) 2 2)).alloc (.cells (nvA y) 62)).alloc (.cells (nvB x y) 62))
 have B154:=ai (((((uh B135).setO (b2:=w6.heap.size+1) (by omega) 0 (.int .i64 6)).setO (b2:=w6.heap.size+1) (by omega) 3 (.slice (some ⟨w9.heap.size+1,0,none⟩) 2 2)).alloc (.cells (nvA y) 62)).alloc (.cells (nvB x y) 62))
 have B155:=ai (((((uh B136).setO (b2:=w6.heap.size+1) (by omega) 0 (.int .i64 6)).setO (b2:=w6.heap.size+1) (by omega) 3 (.slice (some ⟨w9.heap.size+1,0,none⟩) 2 2)).alloc (.cells (nvA y) 62)).alloc (.cells (nvB x y) 62))
 have B156:=ai (((((uh B137).setO (b2:=w6.heap.size+1) (by omega) 0 (.int .i64 6)).setO (b2:=w6.heap.size+1) (by omega) 3 (.slice (some ⟨w9.heap.size+1,0,none⟩) 2 2)).alloc (.cells (nvA y) 62)).alloc (.cells (nvB x y) 62))
 have B157:=ai (((((uh B138).setS 0 (.int .i64 6) #[.int .i64 6,.string ⟨#[]⟩,.int .i64 0,.slice none 0 0,.int .i64 ((tk T k).frm:Int),.int .i64 0,.int .i64 ((tk T k).frm:Int)] rfl (by simp)).setS 3 (.slice (some ⟨w9.heap.size+1,0,none⟩) 2 2) #[.int .i64 6,.string ⟨#[]⟩,.int .i64 0,.slice (some ⟨w9.heap.size+1,0,none⟩) 2 2,.int .i64 ((tk T k).frm:Int),.int .i64 0,.int .i64 ((tk T k).frm:Int)] rfl (by simp)).alloc (.cells (nvA y) 62)).alloc (.cells (nvB x y) 62))
 have B158:=ai ((Bx.at ((w9.setCell ⟨w6.heap.size+1,0,none⟩ (.int .i64 6)).setCell ⟨w6.heap.size+1,3,none⟩ (.slice (some ⟨w9.heap.size+1,0,none⟩) 2 2)) #[.int .i64 y.k,.string y.s,.int .i64 y.n,.slice y.la y.ll y.lc,.int .i64 y.f,.int .i64 y.t,.int .i64 y.a] 62 (w9.heap.size) (by simp[World.setCell])).alloc (.cells (nvB x y) 62))
 have B159:=ai (Bx.at (((w9.setCell ⟨w6.heap.size+1,0,none⟩ (.int .i64 6)).setCell ⟨w6.heap.size+1,3,none⟩ (.slice (some ⟨w9.heap.size+1,0,none⟩) 2 2)).alloc (.cells (nvA y) 62)) (nvB x y) 62 (w9.heap.size+1) (by simp[World.setCell]))
 have R160:=ai ((NR.bel (NR.bel (NR.set (NR.set (uh R139) (b2:=w6.heap.size+1) (fun b hb _=>by omega) 0 (.int .i64 6)) (b2:=w6.heap.size+1) (fun b hb _=>by omega) 3 (.slice (some ⟨w9.heap.size+1,0,none⟩) 2 2)) (bw (.cells (nvA y) 62))) (bw (.cells (nvB x y) 62))))
 have R161:=ai (fun b k3 hq=>(NR.bel (NR.bel (NR.set (NR.set (uh hN2 b k3 hq) (b2:=w6.heap.size+1) (fun b hb _=>by omega) 0 (.int .i64 6)) (b2:=w6.heap.size+1) (fun b hb _=>by omega) 3 (.slice (some ⟨w9.heap.size+1,0,none⟩) 2 2)) (bw (.cells (nvA y) 62))) (bw (.cells (nvB x y) 62))))
 clear H132 K133 B135 B136 B137 B138 R139 hN2 c140 f141 y142 c143 f144 y145 c146 f147 y148 c149 f150 y151
 refine(qch (uh H152) kClose).mono ?_
 rintro e w10⟨rfl,hb,hS⟩
 have H162:=ai hS
 have K163:=ai ((uh K153).trans hb)
 have z164:=hb.size
 try simp[World.setCell]at z164
 have B165:=ai ((uh B154).ke hb (by omega))
 have B166:=ai ((uh B155).ke hb (by omega))
 have B167:=ai ((uh B156).ke hb (by omega))
 have B168:=ai ((uh B157).ke hb (by omega))
 have B169:=ai ((uh B158).ke hb (by omega))
 have B170:=ai ((uh B159).ke hb (by omega))
 have R171:=ai (NR.ke (uh R160) hb (fun b hb=>by omega))
 have R172:=ai (fun b k3 hq=>NR.ke (uh R161 b k3 hq) hb (fun b hb=>by omega))
 clear H152 K153 B154 B155 B156 B157 B158 B159 R160 R161 hb hS
 obtain⟨c173,f174,y175⟩:=uh B165
 obtain⟨c176,f177,y178⟩:=uh B166
 obtain⟨c179,f180,y181⟩:=uh B167
 obtain⟨c182,f183,y184⟩:=uh B168
 obtain⟨c185,f186,y187⟩:=uh B169
 obtain⟨c188,f189,y190⟩:=uh B170
 go_wp2_with fail
 clear c173 f174 y175 c176 f177 y178 c179 f180 y181 c182 f183 y184 c185 f186 y187 c188 f189 y190
 refine(qd1 (uh H162)).mono ?_
 rintro e w11⟨m,rfl,hb,hn⟩
 have H199:=ai ((uh H162).below hb)
 have K200:=ai ((uh K163).below hb)
 have z201:=hb.size
 try simp[World.setCell]at z201
 have B202:=ai ((uh B165).below hb)
 have B203:=ai ((uh B166).below hb)
 have B204:=ai ((uh B167).below hb)
 have B205:=ai ((uh B168).below hb)
 have B206:=ai ((uh B169).below hb)
 have B207:=ai ((uh B170).below hb)
 have R208:=ai (NR.bel (uh R171) hb)
 have R209:=ai (fun b k3 hq=>NR.bel (uh R172 b k3 hq) hb)
 clear H162 K163 B165 B166 B167 B168 B169 B170 R171 R172 hb
 obtain⟨c210,f211,y212⟩:=uh B202
 obtain⟨c213,f214,y215⟩:=uh B203
 obtain⟨c216,f217,y218⟩:=uh B204
 obtain⟨c219,f220,y221⟩:=uh B205
 obtain⟨c222,f223,y224⟩:=uh B206
 obtain⟨c225,f226,y227⟩:=uh B207
 have hn1:=ai hn
 clear hn
 go_wp2_with fail
 have H228:=ai (((uh H199).set (b:=w6.heap.size+1) (by omega) (by omega) 5 (.int .i64 (m:Int))).set7 (b:=w.heap.size) (by omega) (by omega) (.int .i64 6) (.string ⟨#[]⟩) (.int .i64 0) (.slice (some ⟨w9.heap.size+1,0,none⟩) 2 2) (.int .i64 ((tk T k).frm:Int)) (.int .i64 (m:Int)) (.int .i64 ((tk T k).frm:Int)))
 have K229:=ai (((uh K200).setNew (b:=w6.heap.size+1) (by omega) 5 (.int .i64 (m:Int))).set7 (b:=w.heap.size) (by omega) (.int .i64 6) (.string ⟨#[]⟩) (.int .i64 0) (.slice (some ⟨w9.heap.size+1,0,none⟩) 2 2) (.int .i64 ((tk T k).frm:Int)) (.int .i64 (m:Int)) (.int .i64 ((tk T k).frm:Int)))
 have B230:=ai (((uh B202).setO (b2:=w6.heap.size+1) (by omega) 5 (.int .i64 (m:Int))).set7 rfl (.int .i64 6) (.string ⟨#[]⟩) (.int .i64 0) (.slice (some ⟨w9.heap.size+1,0,none⟩) 2 2) (.int .i64 ((tk T k).frm:Int)) (.int .i64 (m:Int)) (.int .i64 ((tk T k).frm:Int)))
 have B231:=ai (((uh B203).setO (b2:=w6.heap.size+1) (by omega) 5 (.int .i64 (m:Int))).setO7 (b:=w.heap.size) (by omega) (.int .i64 6) (.string ⟨#[]⟩) (.int .i64 0) (.slice (some ⟨w9.heap.size+1,0,none⟩) 2 2) (.int .i64 ((tk T k).frm:Int)) (.int .i64 (m:Int)) (.int .i64 ((tk T k).frm:Int)))
 have B232:=ai (((uh B204).setO (b2:=w6.heap.size+1) (by omega) 5 (.int .i64 (m:Int))).setO7 (b:=w.heap.size) (by omega) (.int .i64 6) (.string ⟨#[]⟩) (.int .i64 0) (.slice (some ⟨w9.heap.size+1,0,none⟩) 2 2) (.int .i64 ((tk T k).frm:Int)) (.int .i64 (m:Int)) (.int .i64 ((tk T k).frm:Int)))
 have B233:=ai (((uh B205).setS 5 (.int .i64 (m:Int)) #[.int .i64 6,.string ⟨#[]⟩,.int .i64 0,.slice (some ⟨w9.heap.size+1,0,none⟩) 2 2,.int .i64 ((tk T k).frm:Int),.int .i64 (m:Int),.int .i64 ((tk T k).frm:Int)] rfl (by simp)).setO7 (b:=w.heap.size) (by omega) (.int .i64 6) (.string ⟨#[]⟩) (.int .i64 0) (.slice (some ⟨w9.heap.size+1,0,none⟩) 2 2) (.int .i64 ((tk T k).frm:Int)) (.int .i64 (m:Int)) (.int .i64 ((tk T k).frm:Int)))
 have B234:=ai (((uh B206).setO (b2:=w6.heap.size+1) (by omega) 5 (.int .i64 (m:Int))).setO7 (b:=w.heap.size) (by omega) (.int .i64 6) (.string ⟨#[]⟩) (.int .i64 0) (.slice (some ⟨w9.heap.size+1,0,none⟩) 2 2) (.int .i64 ((tk T k).frm:Int)) (.int .i64 (m:Int)) (.int .i64 ((tk T k).frm:Int)))
 have B235:=ai (((uh B207).setO (b2:=w6.heap.size+1) (by omega) 5 (.int .i64 (m:Int))).setO7 (b:=w.heap.size) (by omega) (.int .i64 6) (.string ⟨#[]⟩) (.int .i64 0) (.slice (some ⟨w9.heap.size+1,0,none⟩) 2 2) (.int .i64 ((tk T k).frm:Int)) (.int .i64 (m:Int)) (.int .i64 ((tk T k).frm:Int)))
 have R236:=ai ((qcf (NR.set (uh R208) (b2:=w6.heap.size+1) (fun b hb _=>by omega) 5 (.int .i64 (m:Int))) (b2:=w.heap.size) (fun b hb _=>by omega) (.int .i64 6) (.string ⟨#[]⟩) (.int .i64 0) (.slice (some ⟨w9.heap.size+1,0,none⟩) 2 2) (.int .i64 ((tk T k).frm:Int)) (.int .i64 (m:Int)) (.int .i64 ((tk T k).frm:Int))))
 have R237:=ai (fun b k3 hq=>(qcf (NR.set (uh R209 b k3 hq) (b2:=w6.heap.size+1) (fun b hb _=>by omega) 5 (.int .i64 (m:Int))) (b2:=w.heap.size) (fun b hb _=>by omega) (.int .i64 6) (.string ⟨#[]⟩) (.int .i64 0) (.slice (some ⟨w9.heap.size+1,0,none⟩) 2 2) (.int .i64 ((tk T k).frm:Int)) (.int .i64 (m:Int)) (.int .i64 ((tk T k).frm:Int))))
 clear H199 K200 B202 B203 B204 B205 B206 B207 R208 R209 c210 f211 y212 c213 f214 y215 c216 f217 y218 c219 f220 y221 c222 f223 y224 c225 f226 y227
 obtain⟨cF,fF,zF⟩:=uh B230
 refine bodyPost_ret (v:=NV.v ⟨6,kNo,0,some ⟨w9.heap.size+1,0,none⟩,2,2,((tk T k).frm:Int),(m:Int),((tk T k).frm:Int)⟩) (by simp[results,Tryz.results203,go_sem,cF,NV.v];try rfl) rfl ⟨_,rfl,uh K229,uh H228,fun b k3 k4 h3 h4=>?_⟩
 have hl:m=qan T k4:=uh hn1 k4 (by rw[qas h3,qas h4])
 subst hl
 exact NR.two (P:=fun b=>w.heap.size<=b) 6 kNo 0 (tk T k).frm (qan T k4) (tk T k).frm (uh B235) rfl ((uh R236).wide _ (fun b hb=>by omega)) ((uh R237 b k3 h3).wide _ (fun b hb=>by omega)) (by omega) 2
theorem small_pair1{k n:Nat}{part:M Nd}(h:SS w rb g cap T (.ok k))(sort:Nat)(hs:sort=1)(hf:T.length<=k+(n+1))(ho:isT (tk T k) qes=true)(HP:NodeC rb g cap T 305 #[.pointer (some ⟨rb,0,none⟩),.int .i64 (sort:Int)] part n)(hm:Mono part){a:Nd}{k2:Nat}(hp:part (k+1)=.ok (a,k2))(hk:isT (tk T k2) kComma=true):
 Calls Tryz.prog 203 #[.pointer (some ⟨rb,0,none⟩),.int .i64 (sort:Int)] w fun e w'=>∃x:NV,e=.returned x.v/\Ke rb w w'/\SS w' rb g cap T (nx (nx (.ok (k2+1)) part) (qag T kClose))/\
  ∀b k3 k4,part (k2+1)=.ok (b,k3)->qag T kClose k3=.ok ((),k4)->NR w' (fun b=>w.heap.size<=b) (.mk 6 kNo 0 [a,b] (tk T k).frm (qan T k4) (tk T k).frm) x:=by
 have hb:qai (tk T k) sort=true:=by unfold qai;rw[ho];rfl
 obtain⟨q5,q⟩:(tk T k).kind=5/\((tk T k).text.toList==[40])=true:=by rw[qea]at ho;simpa using ho
 have h7:(tk T k).kind≠7:=by omega
 have e5:(((tk T k).kind:Int) !=5)=false:=by rw[q5];rfl
 have hs3:sort=1\/sort=2\/sort=3:=by omega
 have s1:((sort:Int) !=1)=false:=by rw[hs];rfl
 have s3:((sort:Int)==3)=false:=by rw[hs];rfl
 have h7':(tk T k2).kind≠7:=by have:=qbe hk;omega
 have hD:isS T (.ok k2) kComma=true:=hk
 have hk2:=hm _ _ _ hp
 have HP':=ai HP
 have hp':=ai hp
 clear ho q5 hk HP hp hm hs
 have hr:=h.hr
 have hg:=h.hg
 have H1:=ai h
 have K2:=ai (Ke.refl rb w)
 clear h
 go_enter Tryz.func203,Tryz.ntmps203
 go_wp2_with fail
 have H3:=ai ((uh H1).alloc (.cells qat 62))
 have K4:=ai ((uh K2).alloc (.cells qat 62))
 have B5:=ai (Bx.at w qat 62 (w.heap.size) (by simp[World.setCell]))
 clear H1 K2
 refine(qb5 (uh H3)).mono ?_
 rintro e w1⟨t,rfl,hb,ht⟩
 have H6:=ai ((uh H3).below hb)
 have K7:=ai ((uh K4).below hb)
 have z8:=hb.size
 try simp[World.setCell]at z8
 have B9:=ai ((uh B5).below hb)
 clear H3 K4 B5 hb
 obtain⟨c10,f11,y12⟩:=uh B9
 have ht':=ht k rfl
 subst ht'
 clear ht
 unfold tokV
 go_wp2_with fail
 have H13:=ai ((uh H6).alloc (.cells #[.int .i64 ((tk T k).kind:Int),.string (tk T k).text,.int .i64 ((tk T k).frm:Int),.int .i64 ((tk T k).to:Int)] 58))
 have K14:=ai ((uh K7).alloc (.cells #[.int .i64 ((tk T k).kind:Int),.string (tk T k).text,.int .i64 ((tk T k).frm:Int),.int .i64 ((tk T k).to:Int)] 58))
 have B15:=ai ((uh B9).alloc (.cells #[.int .i64 ((tk T k).kind:Int),.string (tk T k).text,.int .i64 ((tk T k).frm:Int),.int .i64 ((tk T k).to:Int)] 58))
 have B16:=ai (Bx.at w1 #[.int .i64 ((tk T k).kind:Int),.string (tk T k).text,.int .i64 ((tk T k).frm:Int),.int .i64 ((tk T k).to:Int)] 58 (w1.heap.size) (by simp[World.setCell]))
 clear H6 K7 B9 c10 f11 y12
 refine(ok_S (uh H13)).mono ?_
 rintro e w2⟨rfl,rfl⟩
 go_wp2_with fail
 refine(qbt (tk T k) _ sort hs3).mono ?_
 rintro e w3⟨rfl,hb⟩
 have H17:=ai ((uh H13).below hb)
 have K18:=ai ((uh K14).below hb)
 have z19:=hb.size
 try simp[World.setCell]at z19
 have B20:=ai ((uh B15).below hb)
 have B21:=ai ((uh B16).below hb)
 clear H13 K14 B15 B16 hb
 obtain⟨c22,f23,y24⟩:=uh B20
 obtain⟨c25,f26,y27⟩:=uh B21
 go_wp2_with fail
 clear c22 f23 y24 c25 f26 y27
 refine(qcp (uh H17) h7).mono ?_
 rintro e w4⟨rfl,hb,hS⟩
 have H32:=ai hS
 have K33:=ai ((uh K18).trans hb)
 have z34:=hb.size
 try simp[World.setCell]at z34
 have B35:=ai ((uh B20).ke hb (by omega))
 have B36:=ai ((uh B21).ke hb (by omega))
 clear H17 K18 B20 B21 hb hS
 obtain⟨c37,f38,y39⟩:=uh B35
 obtain⟨c40,f41,y42⟩:=uh B36
 go_wp2_with fail
 clear c37 f38 y39 c40 f41 y42
 refine(uh HP' _ _ (uh H32) (by intro j hj;cases hj;omega)).mono ?_
 rintro e w6⟨x,rfl,hb,hS,hN⟩
 have H47:=ai hS
 have K48:=ai ((uh K33).trans hb)
 have z49:=hb.size
 try simp[World.setCell]at z49
 have B50:=ai ((uh B35).ke hb (by omega))
 have B51:=ai ((uh B36).ke hb (by omega))
 clear H32 K33 B35 B36 hb hS
 obtain⟨c52,f53,y54⟩:=uh B50
 obtain⟨c55,f56,y57⟩:=uh B51
 have hN1:=ai ((hN _ _ _ rfl (uh hp')).rng w4.heap.size (fun b hb=>by simpa using hb))
 clear hN
 rw[qas (uh hp')]at H47
 unfold NV.v
 go_wp2_with fail
 have H58:=ai (((uh H47).alloc (.cells (nvA x) 62)).alloc (.cells #[.int .i64 0,.string ⟨#[]⟩,.int .i64 0,.slice none 0 0,.int .i64 ((tk T k).frm:Int),.int .i64 0,.int .i64 ((tk T k).frm:Int)] 62))
 have K59:=ai (((uh K48).alloc (.cells (nvA x) 62)).alloc (.cells #[.int .i64 0,.string ⟨#[]⟩,.int .i64 0,.slice none 0 0,.int .i64 ((tk T k).frm:Int),.int .i64 0,.int .i64 ((tk T k).frm:Int)] 62))
 have B60:=ai (((uh B50).alloc (.cells (nvA x) 62)).alloc (.cells #[.int .i64 0,.string ⟨#[]⟩,.int .i64 0,.slice none 0 0,.int .i64 ((tk T k).frm:Int),.int .i64 0,.int .i64 ((tk T k).frm:Int)] 62))
 have B61:=ai (((uh B51).alloc (.cells (nvA x) 62)).alloc (.cells #[.int .i64 0,.string ⟨#[]⟩,.int .i64 0,.slice none 0 0,.int .i64 ((tk T k).frm:Int),.int .i64 0,.int .i64 ((tk T k).frm:Int)] 62))
 have B62:=ai ((Bx.at w6 (nvA x) 62 (w6.heap.size) (by simp[World.setCell])).alloc (.cells #[.int .i64 0,.string ⟨#[]⟩,.int .i64 0,.slice none 0 0,.int .i64 ((tk T k).frm:Int),.int .i64 0,.int .i64 ((tk T k).frm:Int)] 62))
 have B63:=ai (Bx.at (w6.alloc (.cells (nvA x) 62)) #[.int .i64 0,.string ⟨#[]⟩,.int .i64 0,.slice none 0 0,.int .i64 ((tk T k).frm:Int),.int .i64 0,.int .i64 ((tk T k).frm:Int)] 62 (w6.heap.size+1) (by simp[World.setCell]))
 have R64:=ai ((NR.bel (NR.bel (uh hN1) (bw (.cells (nvA x) 62))) (bw (.cells #[.int .i64 0,.string ⟨#[]⟩,.int .i64 0,.slice none 0 0,.int .i64 ((tk T k).frm:Int),.int .i64 0,.int .i64 ((tk T k).frm:Int)] 62))))
 clear H47 K48 B50 B51 hN1 c52 f53 y54 c55 f56 y57
 refine(is_S (uh H58) kComma).mono ?_
 rintro e w7⟨rfl,hb⟩
 have H65:=ai ((uh H58).below hb)
 have K66:=ai ((uh K59).below hb)
 have z67:=hb.size
 try simp[World.setCell]at z67
 have B68:=ai ((uh B60).below hb)
 have B69:=ai ((uh B61).below hb)
 have B70:=ai ((uh B62).below hb)
 have B71:=ai ((uh B63).below hb)
 have R72:=ai (NR.bel (uh R64) hb)
 clear H58 K59 B60 B61 B62 B63 R64 hb
 obtain⟨c73,f74,y75⟩:=uh B68
 obtain⟨c76,f77,y78⟩:=uh B69
 obtain⟨c79,f80,y81⟩:=uh B70
 obtain⟨c82,f83,y84⟩:=uh B71
 go_wp2_with fail
 clear c73 f74 y75 c76 f77 y78 c79 f80 y81 c82 f83 y84
 refine(qcp (uh H65) h7').mono ?_
 rintro e w8⟨rfl,hb,hS⟩
 have H91:=ai hS
 have K92:=ai ((uh K66).trans hb)
 have z93:=hb.size
 try simp[World.setCell]at z93
 have B94:=ai ((uh B68).ke hb (by omega))
 have B95:=ai ((uh B69).ke hb (by omega))
 have B96:=ai ((uh B70).ke hb (by omega))
 have B97:=ai ((uh B71).ke hb (by omega))
 have R98:=ai (NR.ke (uh R72) hb (fun b hb=>by omega))
 clear H65 K66 B68 B69 B70 B71 R72 hb hS
 obtain⟨c99,f100,y101⟩:=uh B94
 obtain⟨c102,f103,y104⟩:=uh B95
 obtain⟨c105,f106,y107⟩:=uh B96
 obtain⟨c108,f109,y110⟩:=uh B97
 go_wp2_with fail
 clear c99 f100 y101 c102 f103 y104 c105 f106 y107 c108 f109 y110
 refine(uh HP' _ _ (uh H91) (by intro j hj;cases hj;omega)).mono ?_
 rintro e w9⟨y,rfl,hb,hS,hN⟩
 have H117:=ai hS
 have K118:=ai ((uh K92).trans hb)
 have z119:=hb.size
 try simp[World.setCell]at z119
 have B120:=ai ((uh B94).ke hb (by omega))
 have B121:=ai ((uh B95).ke hb (by omega))
 have B122:=ai ((uh B96).ke hb (by omega))
 have B123:=ai ((uh B97).ke hb (by omega))
 have R124:=ai (NR.ke (uh R98) hb (fun b hb=>by omega))
 clear H91 K92 B94 B95 B96 B97 R98 hb hS
 obtain⟨c125,f126,y127⟩:=uh B120
 obtain⟨c128,f129,y130⟩:=uh B121
 obtain⟨c131,f132,y133⟩:=uh B122
 obtain⟨c134,f135,y136⟩:=uh B123
 have hN2:=ai (fun b k3 (hq:part (k2+1)=.ok (b,k3))=>(hN _ b k3 rfl hq).rng w8.heap.size (fun b hb=>by simpa using hb))
 clear hN
 unfold NV.v
 go_wp2_with fail
 have H137:=ai (((((uh H117).set (b:=w6.heap.size+1) (by omega) (by omega) 0 (.int .i64 6)).set (b:=w6.heap.size+1) (by omega) (by omega) 3 (.slice (some ⟨w9.heap.size+1,0,none⟩) 2 2)).alloc (.cells (nvA y) 62)).alloc (.cells (nvB x y) 62))
 have K138:=ai (((((uh K118).setNew (b:=w6.heap.size+1) (by omega) 0 (.int .i64 6)).setNew (b:=w6.heap.size+1) (by omega) 3 (.slice (some ⟨w9.heap.size+1,0,none⟩) 2 2)).alloc (.cells (nvA y) 62)).alloc (.cells (nvB x y) 62))
 have B139:=ai (((((uh B120).setO (b2:=w6.heap.size+1) (by omega) 0 (.int .i64 6)).setO (b2:=w6.heap.size+1) (by omega) 3 (.slice (some ⟨w9.heap.size+1,0,none⟩) 2 2)).alloc (.cells (nvA y) 62)).alloc (.cells (nvB x y) 62))
 have B140:=ai (((((uh B121).setO (b2:=w6.heap.size+1) (by omega) 0 (.int .i64 6)).setO (b2:=w6.heap.size+1) (by omega) 3 (.slice (some ⟨w9.heap.size+1,0,none⟩) 2 2)).alloc (.cells (nvA y) 62)).alloc (.cells (nvB x y) 62))
 have B141:=ai (((((uh B122).setO (b2:=w6.heap.size+1) (by omega) 0 (.int .i64 6)).setO (b2:=w6.heap.size+1) (by omega) 3 (.slice (some ⟨w9.heap.size+1,0,none⟩) 2 2)).alloc (.cells (nvA y) 62)).alloc (.cells (nvB x y) 62))
 have B142:=ai (((((uh B123).setS 0 (.int .i64 6) #[.int .i64 6,.string ⟨#[]⟩,.int .i64 0,.slice none 0 0,.int .i64 ((tk T k).frm:Int),.int .i64 0,.int .i64 ((tk T k).frm:Int)] rfl (by simp)).setS 3 (.slice (some ⟨w9.heap.size+1,0,none⟩) 2 2) #[.int .i64 6,.string ⟨#[]⟩,.int .i64 0,.slice (some ⟨w9.heap.size+1,0,none⟩) 2 2,.int .i64 ((tk T k).frm:Int),.int .i64 0,.int .i64 ((tk T k).frm:Int)] rfl (by simp)).alloc (.cells (nvA y) 62)).alloc (.cells (nvB x y) 62))
 have B143:=ai ((Bx.at ((w9.setCell ⟨w6.heap.size+1,0,none⟩ (.int .i64 6)).setCell ⟨w6.heap.size+1,3,none⟩ (.slice (some ⟨w9.heap.size+1,0,none⟩) 2 2)) #[.int .i64 y.k,.string y.s,.int .i64 y.n,.slice y.la y.ll y.lc,.int .i64 y.f,.int .i64 y.t,.int .i64 y.a] 62 (w9.heap.size) (by simp[World.setCell])).alloc (.cells (nvB x y) 62))
 have B144:=ai (Bx.at (((w9.setCell ⟨w6.heap.size+1,0,none⟩ (.int .i64 6)).setCell ⟨w6.heap.size+1,3,none⟩ (.slice (some ⟨w9.heap.size+1,0,none⟩) 2 2)).alloc (.cells (nvA y) 62)) (nvB x y) 62 (w9.heap.size+1) (by simp[World.setCell]))
 have R145:=ai ((NR.bel (NR.bel (NR.set (NR.set (uh R124) (b2:=w6.heap.size+1) (fun b hb _=>by omega) 0 (.int .i64 6)) (b2:=w6.heap.size+1) (fun b hb _=>by omega) 3 (.slice (some ⟨w9.heap.size+1,0,none⟩) 2 2)) (bw (.cells (nvA y) 62))) (bw (.cells (nvB x y) 62))))
 have R146:=ai (fun b k3 hq=>(NR.bel (NR.bel (NR.set (NR.set (uh hN2 b k3 hq) (b2:=w6.heap.size+1) (fun b hb _=>by omega) 0 (.int .i64 6)) (b2:=w6.heap.size+1) (fun b hb _=>by omega) 3 (.slice (some ⟨w9.heap.size+1,0,none⟩) 2 2)) (bw (.cells (nvA y) 62))) (bw (.cells (nvB x y) 62))))
 clear H117 K118 B120 B121 B122 B123 R124 hN2 c125 f126 y127 c128 f129 y130 c131 f132 y133 c134 f135 y136
 refine(qch (uh H137) kClose).mono ?_
 rintro e w10⟨rfl,hb,hS⟩
 have H147:=ai hS
 have K148:=ai ((uh K138).trans hb)
 have z149:=hb.size
 try simp[World.setCell]at z149
 have B150:=ai ((uh B139).ke hb (by omega))
 have B151:=ai ((uh B140).ke hb (by omega))
 have B152:=ai ((uh B141).ke hb (by omega))
 have B153:=ai ((uh B142).ke hb (by omega))
 have B154:=ai ((uh B143).ke hb (by omega))
 have B155:=ai ((uh B144).ke hb (by omega))
 have R156:=ai (NR.ke (uh R145) hb (fun b hb=>by omega))
 have R157:=ai (fun b k3 hq=>NR.ke (uh R146 b k3 hq) hb (fun b hb=>by omega))
 clear H137 K138 B139 B140 B141 B142 B143 B144 R145 R146 hb hS
 obtain⟨c158,f159,y160⟩:=uh B150
 obtain⟨c161,f162,y163⟩:=uh B151
 obtain⟨c164,f165,y166⟩:=uh B152
 obtain⟨c167,f168,y169⟩:=uh B153
 obtain⟨c170,f171,y172⟩:=uh B154
 obtain⟨c173,f174,y175⟩:=uh B155
 go_wp2_with fail
 clear c158 f159 y160 c161 f162 y163 c164 f165 y166 c167 f168 y169 c170 f171 y172 c173 f174 y175
 refine(qd1 (uh H147)).mono ?_
 rintro e w11⟨m,rfl,hb,hn⟩
 have H184:=ai ((uh H147).below hb)
 have K185:=ai ((uh K148).below hb)
 have z186:=hb.size
 try simp[World.setCell]at z186
 have B187:=ai ((uh B150).below hb)
 have B188:=ai ((uh B151).below hb)
 have B189:=ai ((uh B152).below hb)
 have B190:=ai ((uh B153).below hb)
 have B191:=ai ((uh B154).below hb)
 have B192:=ai ((uh B155).below hb)
 have R193:=ai (NR.bel (uh R156) hb)
 have R194:=ai (fun b k3 hq=>NR.bel (uh R157 b k3 hq) hb)
 clear H147 K148 B150 B151 B152 B153 B154 B155 R156 R157 hb
 obtain⟨c195,f196,y197⟩:=uh B187
 obtain⟨c198,f199,y200⟩:=uh B188
 obtain⟨c201,f202,y203⟩:=uh B189
 obtain⟨c204,f205,y206⟩:=uh B190
 obtain⟨c207,f208,y209⟩:=uh B191
 obtain⟨c210,f211,y212⟩:=uh B192
 have hn1:=ai hn
 clear hn
 go_wp2_with fail
 have H213:=ai (((uh H184).set (b:=w6.heap.size+1) (by omega) (by omega) 5 (.int .i64 (m:Int))).set7 (b:=w.heap.size) (by omega) (by omega) (.int .i64 6) (.string ⟨#[]⟩) (.int .i64 0) (.slice (some ⟨w9.heap.size+1,0,none⟩) 2 2) (.int .i64 ((tk T k).frm:Int)) (.int .i64 (m:Int)) (.int .i64 ((tk T k).frm:Int)))
 have K214:=ai (((uh K185).setNew (b:=w6.heap.size+1) (by omega) 5 (.int .i64 (m:Int))).set7 (b:=w.heap.size) (by omega) (.int .i64 6) (.string ⟨#[]⟩) (.int .i64 0) (.slice (some ⟨w9.heap.size+1,0,none⟩) 2 2) (.int .i64 ((tk T k).frm:Int)) (.int .i64 (m:Int)) (.int .i64 ((tk T k).frm:Int)))
 have B215:=ai (((uh B187).setO (b2:=w6.heap.size+1) (by omega) 5 (.int .i64 (m:Int))).set7 rfl (.int .i64 6) (.string ⟨#[]⟩) (.int .i64 0) (.slice (some ⟨w9.heap.size+1,0,none⟩) 2 2) (.int .i64 ((tk T k).frm:Int)) (.int .i64 (m:Int)) (.int .i64 ((tk T k).frm:Int)))
 have B216:=ai (((uh B188).setO (b2:=w6.heap.size+1) (by omega) 5 (.int .i64 (m:Int))).setO7 (b:=w.heap.size) (by omega) (.int .i64 6) (.string ⟨#[]⟩) (.int .i64 0) (.slice (some ⟨w9.heap.size+1,0,none⟩) 2 2) (.int .i64 ((tk T k).frm:Int)) (.int .i64 (m:Int)) (.int .i64 ((tk T k).frm:Int)))
 have B217:=ai (((uh B189).setO (b2:=w6.heap.size+1) (by omega) 5 (.int .i64 (m:Int))).setO7 (b:=w.heap.size) (by omega) (.int .i64 6) (.string ⟨#[]⟩) (.int .i64 0) (.slice (some ⟨w9.heap.size+1,0,none⟩) 2 2) (.int .i64 ((tk T k).frm:Int)) (.int .i64 (m:Int)) (.int .i64 ((tk T k).frm:Int)))
 have B218:=ai (((uh B190).setS 5 (.int .i64 (m:Int)) #[.int .i64 6,.string ⟨#[]⟩,.int .i64 0,.slice (some ⟨w9.heap.size+1,0,none⟩) 2 2,.int .i64 ((tk T k).frm:Int),.int .i64 (m:Int),.int .i64 ((tk T k).frm:Int)] rfl (by simp)).setO7 (b:=w.heap.size) (by omega) (.int .i64 6) (.string ⟨#[]⟩) (.int .i64 0) (.slice (some ⟨w9.heap.size+1,0,none⟩) 2 2) (.int .i64 ((tk T k).frm:Int)) (.int .i64 (m:Int)) (.int .i64 ((tk T k).frm:Int)))
 have B219:=ai (((uh B191).setO (b2:=w6.heap.size+1) (by omega) 5 (.int .i64 (m:Int))).setO7 (b:=w.heap.size) (by omega) (.int .i64 6) (.string ⟨#[]⟩) (.int .i64 0) (.slice (some ⟨w9.heap.size+1,0,none⟩) 2 2) (.int .i64 ((tk T k).frm:Int)) (.int .i64 (m:Int)) (.int .i64 ((tk T k).frm:Int)))
 have B220:=ai (((uh B192).setO (b2:=w6.heap.size+1) (by omega) 5 (.int .i64 (m:Int))).setO7 (b:=w.heap.size) (by omega) (.int .i64 6) (.string ⟨#[]⟩) (.int .i64 0) (.slice (some ⟨w9.heap.size+1,0,none⟩) 2 2) (.int .i64 ((tk T k).frm:Int)) (.int .i64 (m:Int)) (.int .i64 ((tk T k).frm:Int)))
 have R221:=ai ((qcf (NR.set (uh R193) (b2:=w6.heap.size+1) (fun b hb _=>by omega) 5 (.int .i64 (m:Int))) (b2:=w.heap.size) (fun b hb _=>by omega) (.int .i64 6) (.string ⟨#[]⟩) (.int .i64 0) (.slice (some ⟨w9.heap.size+1,0,none⟩) 2 2) (.int .i64 ((tk T k).frm:Int)) (.int .i64 (m:Int)) (.int .i64 ((tk T k).frm:Int))))
 have R222:=ai (fun b k3 hq=>(qcf (NR.set (uh R194 b k3 hq) (b2:=w6.heap.size+1) (fun b hb _=>by omega) 5 (.int .i64 (m:Int))) (b2:=w.heap.size) (fun b hb _=>by omega) (.int .i64 6) (.string ⟨#[]⟩) (.int .i64 0) (.slice (some ⟨w9.heap.size+1,0,none⟩) 2 2) (.int .i64 ((tk T k).frm:Int)) (.int .i64 (m:Int)) (.int .i64 ((tk T k).frm:Int))))
 clear H184 K185 B187 B188 B189 B190 B191 B192 R193 R194 c195 f196 y197 c198 f199 y200 c201 f202 y203 c204 f205 y206 c207 f208 y209 c210 f211 y212
 obtain⟨cF,fF,zF⟩:=uh B215
 refine bodyPost_ret (v:=NV.v ⟨6,kNo,0,some ⟨w9.heap.size+1,0,none⟩,2,2,((tk T k).frm:Int),(m:Int),((tk T k).frm:Int)⟩) (by simp[results,Tryz.results203,go_sem,cF,NV.v];try rfl) rfl ⟨_,rfl,uh K214,uh H213,fun b k3 k4 h3 h4=>?_⟩
 have hl:m=qan T k4:=uh hn1 k4 (by rw[qas h3,qas h4])
 subst hl
 exact NR.two (P:=fun b=>w.heap.size<=b) 6 kNo 0 (tk T k).frm (qan T k4) (tk T k).frm (uh B220) rfl ((uh R221).wide _ (fun b hb=>by omega)) ((uh R222 b k3 h3).wide _ (fun b hb=>by omega)) (by omega) 2
end
end
section
open Go Go.RowKit
section
variable {rb g cap:Nat} {T:List Pu.Tok} {σ:St} {w:World}
theorem small_colon{k n:Nat}{part typ:M Nd}(h:SS w rb g cap T (.ok k))(sort:Nat)(hs:sort=3)(hf:T.length<=k+(n+1))(ho:isT (tk T k) qes=true)(hc:isT (tk T (k+1)) kClose=false)(HP:NodeC rb g cap T 305 #[.pointer (some ⟨rb,0,none⟩),.int .i64 (sort:Int)] part n)(HT:NodeC rb g cap T 135 #[.pointer (some ⟨rb,0,none⟩)] typ n)(hm:Mono part){a:Nd}{k2:Nat}(hp:part (k+1)=.ok (a,k2))(hk0:isT (tk T k2) kComma=false)(hk:isT (tk T k2) qcx=true):
 Calls Tryz.prog 203 #[.pointer (some ⟨rb,0,none⟩),.int .i64 (sort:Int)] w fun e w'=>∃x:NV,e=.returned x.v/\Ke rb w w'/\SS w' rb g cap T (nx (nx (.ok (k2+1)) typ) (qag T kClose))/\
  ∀b k3 k4,typ (k2+1)=.ok (b,k3)->qag T kClose k3=.ok ((),k4)->NR w' (fun b=>w.heap.size<=b) (.mk 14 kNo 0 [a,b] (tk T k).frm (qan T k4) (tk T k).frm) x:=by
 have hb:qai (tk T k) sort=true:=by unfold qai;rw[ho];rfl
 obtain⟨q5,q⟩:(tk T k).kind=5/\((tk T k).text.toList==[40])=true:=by rw[qea]at ho;simpa using ho
 have h7:(tk T k).kind≠7:=by omega
 have e5:(((tk T k).kind:Int) !=5)=false:=by rw[q5];rfl
 have hs3:sort=1\/sort=2\/sort=3:=by omega
 have s1:((sort:Int) !=1)=true:=by simp;omega
 have hC:isS T (.ok (k+1)) kClose=false:=hc
 have h7':(tk T k2).kind≠7:=by have:=qbe hk;omega
 have hD:isS T (.ok k2) qcx=true:=hk
 have hD0:isS T (.ok k2) kComma=false:=hk0
 have s3:((sort:Int)==3)=true:=by rw[hs];rfl
 have HT':=ai HT
 clear HT hk0
 have hk2:=hm _ _ _ hp
 have HP':=ai HP
 have hp':=ai hp
 clear ho q5 hc hk HP hp hm hs
 have hr:=h.hr
 have hg:=h.hg
 have H1:=ai h
 have K2:=ai (Ke.refl rb w)
 clear h
 go_enter Tryz.func203,Tryz.ntmps203
 go_wp2_with fail
 have H3:=ai ((uh H1).alloc (.cells qat 62))
 have K4:=ai ((uh K2).alloc (.cells qat 62))
 have B5:=ai (Bx.at w qat 62 (w.heap.size) (by simp[World.setCell]))
 clear H1 K2
 refine(qb5 (uh H3)).mono ?_
 rintro e w1⟨t,rfl,hb,ht⟩
 have H6:=ai ((uh H3).below hb)
 have K7:=ai ((uh K4).below hb)
 have z8:=hb.size
 try simp[World.setCell]at z8
 have B9:=ai ((uh B5).below hb)
 clear H3 K4 B5 hb
 obtain⟨c10,f11,y12⟩:=uh B9
 have ht':=ht k rfl
 subst ht'
 clear ht
 unfold tokV
 go_wp2_with fail
 have H13:=ai ((uh H6).alloc (.cells #[.int .i64 ((tk T k).kind:Int),.string (tk T k).text,.int .i64 ((tk T k).frm:Int),.int .i64 ((tk T k).to:Int)] 58))
 have K14:=ai ((uh K7).alloc (.cells #[.int .i64 ((tk T k).kind:Int),.string (tk T k).text,.int .i64 ((tk T k).frm:Int),.int .i64 ((tk T k).to:Int)] 58))
 have B15:=ai ((uh B9).alloc (.cells #[.int .i64 ((tk T k).kind:Int),.string (tk T k).text,.int .i64 ((tk T k).frm:Int),.int .i64 ((tk T k).to:Int)] 58))
 have B16:=ai (Bx.at w1 #[.int .i64 ((tk T k).kind:Int),.string (tk T k).text,.int .i64 ((tk T k).frm:Int),.int .i64 ((tk T k).to:Int)] 58 (w1.heap.size) (by simp[World.setCell]))
 clear H6 K7 B9 c10 f11 y12
 refine(ok_S (uh H13)).mono ?_
 rintro e w2⟨rfl,rfl⟩
 go_wp2_with fail
 refine(qbt (tk T k) _ sort hs3).mono ?_
 rintro e w3⟨rfl,hb⟩
 have H17:=ai ((uh H13).below hb)
 have K18:=ai ((uh K14).below hb)
 have z19:=hb.size
 try simp[World.setCell]at z19
 have B20:=ai ((uh B15).below hb)
 have B21:=ai ((uh B16).below hb)
 clear H13 K14 B15 B16 hb
 obtain⟨c22,f23,y24⟩:=uh B20
 obtain⟨c25,f26,y27⟩:=uh B21
 go_wp2_with fail
 clear c22 f23 y24 c25 f26 y27
 refine(qcp (uh H17) h7).mono ?_
 rintro e w4⟨rfl,hb,hS⟩
 have H32:=ai hS
 have K33:=ai ((uh K18).trans hb)
 have z34:=hb.size
 try simp[World.setCell]at z34
 have B35:=ai ((uh B20).ke hb (by omega))
 have B36:=ai ((uh B21).ke hb (by omega))
 clear H17 K18 B20 B21 hb hS
 obtain⟨c37,f38,y39⟩:=uh B35
 obtain⟨c40,f41,y42⟩:=uh B36
 go_wp2_with fail
 clear c37 f38 y39 c40 f41 y42
 refine(is_S (uh H32) kClose).mono ?_
 rintro e w5⟨rfl,hb⟩
 have H47:=ai ((uh H32).below hb)
 have K48:=ai ((uh K33).below hb)
 have z49:=hb.size
 try simp[World.setCell]at z49
 have B50:=ai ((uh B35).below hb)
 have B51:=ai ((uh B36).below hb)
 clear H32 K33 B35 B36 hb
 obtain⟨c52,f53,y54⟩:=uh B50
 obtain⟨c55,f56,y57⟩:=uh B51
 go_wp2_with fail
 clear c52 f53 y54 c55 f56 y57
 refine(uh HP' _ _ (uh H47) (by intro j hj;cases hj;omega)).mono ?_
 rintro e w6⟨x,rfl,hb,hS,hN⟩
 have H62:=ai hS
 have K63:=ai ((uh K48).trans hb)
 have z64:=hb.size
 try simp[World.setCell]at z64
 have B65:=ai ((uh B50).ke hb (by omega))
 have B66:=ai ((uh B51).ke hb (by omega))
 clear H47 K48 B50 B51 hb hS
 obtain⟨c67,f68,y69⟩:=uh B65
 obtain⟨c70,f71,y72⟩:=uh B66
 have hN1:=ai ((hN _ _ _ rfl (uh hp')).rng w5.heap.size (fun b hb=>by simpa using hb))
 clear hN
 rw[qas (uh hp')]at H62
 unfold NV.v
 go_wp2_with fail
 have H73:=ai (((uh H62).alloc (.cells (nvA x) 62)).alloc (.cells #[.int .i64 0,.string ⟨#[]⟩,.int .i64 0,.slice none 0 0,.int .i64 ((tk T k).frm:Int),.int .i64 0,.int .i64 ((tk T k).frm:Int)] 62))
 have K74:=ai (((uh K63).alloc (.cells (nvA x) 62)).alloc (.cells #[.int .i64 0,.string ⟨#[]⟩,.int .i64 0,.slice none 0 0,.int .i64 ((tk T k).frm:Int),.int .i64 0,.int .i64 ((tk T k).frm:Int)] 62))
 have B75:=ai (((uh B65).alloc (.cells (nvA x) 62)).alloc (.cells #[.int .i64 0,.string ⟨#[]⟩,.int .i64 0,.slice none 0 0,.int .i64 ((tk T k).frm:Int),.int .i64 0,.int .i64 ((tk T k).frm:Int)] 62))
 have B76:=ai (((uh B66).alloc (.cells (nvA x) 62)).alloc (.cells #[.int .i64 0,.string ⟨#[]⟩,.int .i64 0,.slice none 0 0,.int .i64 ((tk T k).frm:Int),.int .i64 0,.int .i64 ((tk T k).frm:Int)] 62))
 have B77:=ai ((Bx.at w6 (nvA x) 62 (w6.heap.size) (by simp[World.setCell])).alloc (.cells #[.int .i64 0,.string ⟨#[]⟩,.int .i64 0,.slice none 0 0,.int .i64 ((tk T k).frm:Int),.int .i64 0,.int .i64 ((tk T k).frm:Int)] 62))
 have B78:=ai (Bx.at (w6.alloc (.cells (nvA x) 62)) #[.int .i64 0,.string ⟨#[]⟩,.int .i64 0,.slice none 0 0,.int .i64 ((tk T k).frm:Int),.int .i64 0,.int .i64 ((tk T k).frm:Int)] 62 (w6.heap.size+1) (by simp[World.setCell]))
 have R79:=ai ((NR.bel (NR.bel (uh hN1) (bw (.cells (nvA x) 62))) (bw (.cells #[.int .i64 0,.string ⟨#[]⟩,.int .i64 0,.slice none 0 0,.int .i64 ((tk T k).frm:Int),.int .i64 0,.int .i64 ((tk T k).frm:Int)] 62))))
 clear H62 K63 B65 B66 hN1 c67 f68 y69 c70 f71 y72
 refine(is_S (uh H73) kComma).mono ?_
 rintro e w7⟨rfl,hb⟩
 have H80:=ai ((uh H73).below hb)
 have K81:=ai ((uh K74).below hb)
 have z82:=hb.size
 try simp[World.setCell]at z82
 have B83:=ai ((uh B75).below hb)
 have B84:=ai ((uh B76).below hb)
 have B85:=ai ((uh B77).below hb)
 have B86:=ai ((uh B78).below hb)
 have R87:=ai (NR.bel (uh R79) hb)
 clear H73 K74 B75 B76 B77 B78 R79 hb
 obtain⟨c88,f89,y90⟩:=uh B83
 obtain⟨c91,f92,y93⟩:=uh B84
 obtain⟨c94,f95,y96⟩:=uh B85
 obtain⟨c97,f98,y99⟩:=uh B86
 go_wp2_with fail
 clear c88 f89 y90 c91 f92 y93 c94 f95 y96 c97 f98 y99
 refine(is_S (uh H80) qcx).mono ?_
 rintro e w7b⟨rfl,hb⟩
 have H106:=ai ((uh H80).below hb)
 have K107:=ai ((uh K81).below hb)
 have z108:=hb.size
 try simp[World.setCell]at z108
 have B109:=ai ((uh B83).below hb)
 have B110:=ai ((uh B84).below hb)
 have B111:=ai ((uh B85).below hb)
 have B112:=ai ((uh B86).below hb)
 have R113:=ai (NR.bel (uh R87) hb)
 clear H80 K81 B83 B84 B85 B86 R87 hb
 obtain⟨c114,f115,y116⟩:=uh B109
 obtain⟨c117,f118,y119⟩:=uh B110
 obtain⟨c120,f121,y122⟩:=uh B111
 obtain⟨c123,f124,y125⟩:=uh B112
 go_wp2_with fail
 clear c114 f115 y116 c117 f118 y119 c120 f121 y122 c123 f124 y125
 refine(qcp (uh H106) h7').mono ?_
 rintro e w8⟨rfl,hb,hS⟩
 have H132:=ai hS
 have K133:=ai ((uh K107).trans hb)
 have z134:=hb.size
 try simp[World.setCell]at z134
 have B135:=ai ((uh B109).ke hb (by omega))
 have B136:=ai ((uh B110).ke hb (by omega))
 have B137:=ai ((uh B111).ke hb (by omega))
 have B138:=ai ((uh B112).ke hb (by omega))
 have R139:=ai (NR.ke (uh R113) hb (fun b hb=>by omega))
 clear H106 K107 B109 B110 B111 B112 R113 hb hS
 obtain⟨c140,f141,y142⟩:=uh B135
 obtain⟨c143,f144,y145⟩:=uh B136
 obtain⟨c146,f147,y148⟩:=uh B137
 obtain⟨c149,f150,y151⟩:=uh B138
 go_wp2_with fail
 clear c140 f141 y142 c143 f144 y145 c146 f147 y148 c149 f150 y151
 refine(uh HT' _ _ (uh H132) (by intro j hj;cases hj;omega)).mono ?_
 rintro e w9⟨y,rfl,hb,hS,hN⟩
 have H158:=ai hS
 have K159:=ai ((uh K133).trans hb)
 have z160:=hb.size
 try simp[World.setCell]at z160
 have B161:=ai ((uh B135).ke hb (by omega))
 have B162:=ai ((uh B136).ke hb (by omega))
 have B163:=ai ((uh B137).ke hb (by omega))
 have B164:=ai ((uh B138).ke hb (by omega))
 have R165:=ai (NR.ke (uh R139) hb (fun b hb=>by omega))
 clear H132 K133 B135 B136 B137 B138 R139 hb hS
 obtain⟨c166,f167,y168⟩:=uh B161
 obtain⟨c169,f170,y171⟩:=uh B162
 obtain⟨c172,f173,y174⟩:=uh B163
 obtain⟨c175,f176,y177⟩:=uh B164
 have hN2:=ai (fun b k3 (hq:typ (k2+1)=.ok (b,k3))=>(hN _ b k3 rfl hq).rng w8.heap.size (fun b hb=>by simpa using hb))
 clear hN
 unfold NV.v
 go_wp2_with fail
 have H178:=ai (((((uh H158).set (b:=w6.heap.size+1) (by omega) (by omega) 0 (.int .i64 14)).set (b:=w6.heap.size+1) (by omega) (by omega) 3 (.slice (some ⟨w9.heap.size+1,0,none⟩) 2 2)).alloc (.cells (nvA y) 62)).alloc (.cells (nvB x y) 62))
 have K179:=ai (((((uh K159).setNew (b:=w6.heap.size+1) (by omega) 0 (.int .i64 14)).setNew (b:=w6.heap.size+1) (by omega) 3 (.slice (some ⟨w9.heap.size+1,0,none⟩) 2 2)).alloc (.cells (nvA y) 62)).alloc (.cells (nvB x y) 62))
 have B180:=ai (((((uh B161).setO (b2:=w6.heap.size+1) (by omega) 0 (.int .i64 14)).setO (b2:=w6.heap.size+1) (by omega) 3 (.slice (some ⟨w9.heap.size+1,0,none⟩) 2 2)).alloc (.cells (nvA y) 62)).alloc (.cells (nvB x y) 62))
 have B181:=ai (((((uh B162).setO (b2:=w6.heap.size+1) (by omega) 0 (.int .i64 14)).setO (b2:=w6.heap.size+1) (by omega) 3 (.slice (some ⟨w9.heap.size+1,0,none⟩) 2 2)).alloc (.cells (nvA y) 62)).alloc (.cells (nvB x y) 62))
 have B182:=ai (((((uh B163).setO (b2:=w6.heap.size+1) (by omega) 0 (.int .i64 14)).setO (b2:=w6.heap.size+1) (by omega) 3 (.slice (some ⟨w9.heap.size+1,0,none⟩) 2 2)).alloc (.cells (nvA y) 62)).alloc (.cells (nvB x y) 62))
 have B183:=ai (((((uh B164).setS 0 (.int .i64 14) #[.int .i64 14,.string ⟨#[]⟩,.int .i64 0,.slice none 0 0,.int .i64 ((tk T k).frm:Int),.int .i64 0,.int .i64 ((tk T k).frm:Int)] rfl (by simp)).setS 3 (.slice (some ⟨w9.heap.size+1,0,none⟩) 2 2) #[.int .i64 14,.string ⟨#[]⟩,.int .i64 0,.slice (some ⟨w9.heap.size+1,0,none⟩) 2 2,.int .i64 ((tk T k).frm:Int),.int .i64 0,.int .i64 ((tk T k).frm:Int)] rfl (by simp)).alloc (.cells (nvA y) 62)).alloc (.cells (nvB x y) 62))
 have B184:=ai ((Bx.at ((w9.setCell ⟨w6.heap.size+1,0,none⟩ (.int .i64 14)).setCell ⟨w6.heap.size+1,3,none⟩ (.slice (some ⟨w9.heap.size+1,0,none⟩) 2 2)) #[.int .i64 y.k,.string y.s,.int .i64 y.n,.slice y.la y.ll y.lc,.int .i64 y.f,.int .i64 y.t,.int .i64 y.a] 62 (w9.heap.size) (by simp[World.setCell])).alloc (.cells (nvB x y) 62))
 have B185:=ai (Bx.at (((w9.setCell ⟨w6.heap.size+1,0,none⟩ (.int .i64 14)).setCell ⟨w6.heap.size+1,3,none⟩ (.slice (some ⟨w9.heap.size+1,0,none⟩) 2 2)).alloc (.cells (nvA y) 62)) (nvB x y) 62 (w9.heap.size+1) (by simp[World.setCell]))
 have R186:=ai ((NR.bel (NR.bel (NR.set (NR.set (uh R165) (b2:=w6.heap.size+1) (fun b hb _=>by omega) 0 (.int .i64 14)) (b2:=w6.heap.size+1) (fun b hb _=>by omega) 3 (.slice (some ⟨w9.heap.size+1,0,none⟩) 2 2)) (bw (.cells (nvA y) 62))) (bw (.cells (nvB x y) 62))))
 have R187:=ai (fun b k3 hq=>(NR.bel (NR.bel (NR.set (NR.set (uh hN2 b k3 hq) (b2:=w6.heap.size+1) (fun b hb _=>by omega) 0 (.int .i64 14)) (b2:=w6.heap.size+1) (fun b hb _=>by omega) 3 (.slice (some ⟨w9.heap.size+1,0,none⟩) 2 2)) (bw (.cells (nvA y) 62))) (bw (.cells (nvB x y) 62))))
 clear H158 K159 B161 B162 B163 B164 R165 hN2 c166 f167 y168 c169 f170 y171 c172 f173 y174 c175 f176 y177
 refine(qch (uh H178) kClose).mono ?_
 rintro e w10⟨rfl,hb,hS⟩
 have H188:=ai hS
 have K189:=ai ((uh K179).trans hb)
 have z190:=hb.size
 try simp[World.setCell]at z190
 have B191:=ai ((uh B180).ke hb (by omega))
 have B192:=ai ((uh B181).ke hb (by omega))
 have B193:=ai ((uh B182).ke hb (by omega))
 have B194:=ai ((uh B183).ke hb (by omega))
 have B195:=ai ((uh B184).ke hb (by omega))
 have B196:=ai ((uh B185).ke hb (by omega))
 have R197:=ai (NR.ke (uh R186) hb (fun b hb=>by omega))
 have R198:=ai (fun b k3 hq=>NR.ke (uh R187 b k3 hq) hb (fun b hb=>by omega))
 clear H178 K179 B180 B181 B182 B183 B184 B185 R186 R187 hb hS
 obtain⟨c199,f200,y201⟩:=uh B191
 obtain⟨c202,f203,y204⟩:=uh B192
 obtain⟨c205,f206,y207⟩:=uh B193
 obtain⟨c208,f209,y210⟩:=uh B194
 obtain⟨c211,f212,y213⟩:=uh B195
 obtain⟨c214,f215,y216⟩:=uh B196
 go_wp2_with fail
 clear c199 f200 y201 c202 f203 y204 c205 f206 y207 c208 f209 y210 c211 f212 y213 c214 f215 y216
 refine(qd1 (uh H188)).mono ?_
 rintro e w11⟨m,rfl,hb,hn⟩
 have H225:=ai ((uh H188).below hb)
 have K226:=ai ((uh K189).below hb)
 have z227:=hb.size
 try simp[World.setCell]at z227
 have B228:=ai ((uh B191).below hb)
 have B229:=ai ((uh B192).below hb)
 have B230:=ai ((uh B193).below hb)
 have B231:=ai ((uh B194).below hb)
 have B232:=ai ((uh B195).below hb)
 have B233:=ai ((uh B196).below hb)
 have R234:=ai (NR.bel (uh R197) hb)
 have R235:=ai (fun b k3 hq=>NR.bel (uh R198 b k3 hq) hb)
 clear H188 K189 B191 B192 B193 B194 B195 B196 R197 R198 hb
 obtain⟨c236,f237,y238⟩:=uh B228
 obtain⟨c239,f240,y241⟩:=uh B229
 obtain⟨c242,f243,y244⟩:=uh B230
 obtain⟨c245,f246,y247⟩:=uh B231
 obtain⟨c248,f249,y250⟩:=uh B232
 obtain⟨c251,f252,y253⟩:=uh B233
 have hn1:=ai hn
 clear hn
 go_wp2_with fail
 have H254:=ai (((uh H225).set (b:=w6.heap.size+1) (by omega) (by omega) 5 (.int .i64 (m:Int))).set7 (b:=w.heap.size) (by omega) (by omega) (.int .i64 14) (.string ⟨#[]⟩) (.int .i64 0) (.slice (some ⟨w9.heap.size+1,0,none⟩) 2 2) (.int .i64 ((tk T k).frm:Int)) (.int .i64 (m:Int)) (.int .i64 ((tk T k).frm:Int)))
 have K255:=ai (((uh K226).setNew (b:=w6.heap.size+1) (by omega) 5 (.int .i64 (m:Int))).set7 (b:=w.heap.size) (by omega) (.int .i64 14) (.string ⟨#[]⟩) (.int .i64 0) (.slice (some ⟨w9.heap.size+1,0,none⟩) 2 2) (.int .i64 ((tk T k).frm:Int)) (.int .i64 (m:Int)) (.int .i64 ((tk T k).frm:Int)))
 have B256:=ai (((uh B228).setO (b2:=w6.heap.size+1) (by omega) 5 (.int .i64 (m:Int))).set7 rfl (.int .i64 14) (.string ⟨#[]⟩) (.int .i64 0) (.slice (some ⟨w9.heap.size+1,0,none⟩) 2 2) (.int .i64 ((tk T k).frm:Int)) (.int .i64 (m:Int)) (.int .i64 ((tk T k).frm:Int)))
 have B257:=ai (((uh B229).setO (b2:=w6.heap.size+1) (by omega) 5 (.int .i64 (m:Int))).setO7 (b:=w.heap.size) (by omega) (.int .i64 14) (.string ⟨#[]⟩) (.int .i64 0) (.slice (some ⟨w9.heap.size+1,0,none⟩) 2 2) (.int .i64 ((tk T k).frm:Int)) (.int .i64 (m:Int)) (.int .i64 ((tk T k).frm:Int)))
 have B258:=ai (((uh B230).setO (b2:=w6.heap.size+1) (by omega) 5 (.int .i64 (m:Int))).setO7 (b:=w.heap.size) (by omega) (.int .i64 14) (.string ⟨#[]⟩) (.int .i64 0) (.slice (some ⟨w9.heap.size+1,0,none⟩) 2 2) (.int .i64 ((tk T k).frm:Int)) (.int .i64 (m:Int)) (.int .i64 ((tk T k).frm:Int)))
 have B259:=ai (((uh B231).setS 5 (.int .i64 (m:Int)) #[.int .i64 14,.string ⟨#[]⟩,.int .i64 0,.slice (some ⟨w9.heap.size+1,0,none⟩) 2 2,.int .i64 ((tk T k).frm:Int),.int .i64 (m:Int),.int .i64 ((tk T k).frm:Int)] rfl (by simp)).setO7 (b:=w.heap.size) (by omega) (.int .i64 14) (.string ⟨#[]⟩) (.int .i64 0) (.slice (some ⟨w9.heap.size+1,0,none⟩) 2 2) (.int .i64 ((tk T k).frm:Int)) (.int .i64 (m:Int)) (.int .i64 ((tk T k).frm:Int)))
 have B260:=ai (((uh B232).setO (b2:=w6.heap.size+1) (by omega) 5 (.int .i64 (m:Int))).setO7 (b:=w.heap.size) (by omega) (.int .i64 14) (.string ⟨#[]⟩) (.int .i64 0) (.slice (some ⟨w9.heap.size+1,0,none⟩) 2 2) (.int .i64 ((tk T k).frm:Int)) (.int .i64 (m:Int)) (.int .i64 ((tk T k).frm:Int)))
 have B261:=ai (((uh B233).setO (b2:=w6.heap.size+1) (by omega) 5 (.int .i64 (m:Int))).setO7 (b:=w.heap.size) (by omega) (.int .i64 14) (.string ⟨#[]⟩) (.int .i64 0) (.slice (some ⟨w9.heap.size+1,0,none⟩) 2 2) (.int .i64 ((tk T k).frm:Int)) (.int .i64 (m:Int)) (.int .i64 ((tk T k).frm:Int)))
 have R262:=ai ((qcf (NR.set (uh R234) (b2:=w6.heap.size+1) (fun b hb _=>by omega) 5 (.int .i64 (m:Int))) (b2:=w.heap.size) (fun b hb _=>by omega) (.int .i64 14) (.string ⟨#[]⟩) (.int .i64 0) (.slice (some ⟨w9.heap.size+1,0,none⟩) 2 2) (.int .i64 ((tk T k).frm:Int)) (.int .i64 (m:Int)) (.int .i64 ((tk T k).frm:Int))))
 have R263:=ai (fun b k3 hq=>(qcf (NR.set (uh R235 b k3 hq) (b2:=w6.heap.size+1) (fun b hb _=>by omega) 5 (.int .i64 (m:Int))) (b2:=w.heap.size) (fun b hb _=>by omega) (.int .i64 14) (.string ⟨#[]⟩) (.int .i64 0) (.slice (some ⟨w9.heap.size+1,0,none⟩) 2 2) (.int .i64 ((tk T k).frm:Int)) (.int .i64 (m:Int)) (.int .i64 ((tk T k).frm:Int))))
 clear H225 K226 B228 B229 B230 B231 B232 B233 R234 R235 c236 f237 y238 c239 f240 y241 c242 f243 y244 c245 f246 y247 c248 f249 y250 c251 f252 y253
 obtain⟨cF,fF,zF⟩:=uh B256
 refine bodyPost_ret (v:=NV.v ⟨14,kNo,0,some ⟨w9.heap.size+1,0,none⟩,2,2,((tk T k).frm:Int),(m:Int),((tk T k).frm:Int)⟩) (by simp[results,Tryz.results203,go_sem,cF,NV.v];try rfl) rfl ⟨_,rfl,uh K255,uh H254,fun b k3 k4 h3 h4=>?_⟩
 have hl:m=qan T k4:=uh hn1 k4 (by rw[qas h3,qas h4])
 subst hl
 exact NR.two (P:=fun b=>w.heap.size<=b) 14 kNo 0 (tk T k).frm (qan T k4) (tk T k).frm (uh B261) rfl ((uh R262).wide _ (fun b hb=>by omega)) ((uh R263 b k3 h3).wide _ (fun b hb=>by omega)) (by omega) 2
end
end
section
open Go Go.RowKit
section
variable {rb g cap:Nat} {T:List Pu.Tok} {σ:St} {w:World}
theorem small_paren{k n:Nat}{part:M Nd}(h:SS w rb g cap T (.ok k))(sort:Nat)(hs:sort=2\/sort=3)(hf:T.length<=k+(n+1))(ho:isT (tk T k) qes=true)(hc:isT (tk T (k+1)) kClose=false)(HP:NodeC rb g cap T 305 #[.pointer (some ⟨rb,0,none⟩),.int .i64 (sort:Int)] part n)(hk0:isS T (nx (.ok (k+1)) part) kComma=false)(hk1:sort=3->isS T (nx (.ok (k+1)) part) qcx=false):
 Calls Tryz.prog 203 #[.pointer (some ⟨rb,0,none⟩),.int .i64 (sort:Int)] w fun e w'=>∃x:NV,e=.returned x.v/\Ke rb w w'/\SS w' rb g cap T (nx (nx (.ok (k+1)) part) (qag T kClose))/\
  ∀a k2,part (k+1)=.ok (a,k2)->NR w' (fun b=>w.heap.size<=b) a x:=by
 have hb:qai (tk T k) sort=true:=by unfold qai;rw[ho];rfl
 obtain⟨q5,q⟩:(tk T k).kind=5/\((tk T k).text.toList==[40])=true:=by rw[qea]at ho;simpa using ho
 have h7:(tk T k).kind≠7:=by omega
 have e5:(((tk T k).kind:Int) !=5)=false:=by rw[q5];rfl
 have hs3:sort=1\/sort=2\/sort=3:=by omega
 have s1:((sort:Int) !=1)=true:=by simp;omega
 have hC:isS T (.ok (k+1)) kClose=false:=hc
 have HP':=ai HP
 clear ho q5 hc HP
 rcases hs with hs|hs
 .have s3:((sort:Int)==3)=false:=by rw[hs];rfl
  clear hk1 hs
  have hr:=h.hr
  have hg:=h.hg
  have H1:=ai h
  have K2:=ai (Ke.refl rb w)
  clear h
  go_enter Tryz.func203,Tryz.ntmps203
  go_wp2_with fail
  have H3:=ai ((uh H1).alloc (.cells qat 62))
  have K4:=ai ((uh K2).alloc (.cells qat 62))
  have B5:=ai (Bx.at w qat 62 (w.heap.size) (by simp[World.setCell]))
  clear H1 K2
  refine(qb5 (uh H3)).mono ?_
  rintro e w1⟨t,rfl,hb,ht⟩
  have H6:=ai ((uh H3).below hb)
  have K7:=ai ((uh K4).below hb)
  have z8:=hb.size
  try simp[World.setCell]at z8
  have B9:=ai ((uh B5).below hb)
  clear H3 K4 B5 hb
  obtain⟨c10,f11,y12⟩:=uh B9
  have ht':=ht k rfl
  subst ht'
  clear ht
  unfold tokV
  go_wp2_with fail
  have H13:=ai ((uh H6).alloc (.cells #[.int .i64 ((tk T k).kind:Int),.string (tk T k).text,.int .i64 ((tk T k).frm:Int),.int .i64 ((tk T k).to:Int)] 58))
  have K14:=ai ((uh K7).alloc (.cells #[.int .i64 ((tk T k).kind:Int),.string (tk T k).text,.int .i64 ((tk T k).frm:Int),.int .i64 ((tk T k).to:Int)] 58))
  have B15:=ai ((uh B9).alloc (.cells #[.int .i64 ((tk T k).kind:Int),.string (tk T k).text,.int .i64 ((tk T k).frm:Int),.int .i64 ((tk T k).to:Int)] 58))
  have B16:=ai (Bx.at w1 #[.int .i64 ((tk T k).kind:Int),.string (tk T k).text,.int .i64 ((tk T k).frm:Int),.int .i64 ((tk T k).to:Int)] 58 (w1.heap.size) (by simp[World.setCell]))
  clear H6 K7 B9 c10 f11 y12
  refine(ok_S (uh H13)).mono ?_
  rintro e w2⟨rfl,rfl⟩
  go_wp2_with fail
  refine(qbt (tk T k) _ sort hs3).mono ?_
  rintro e w3⟨rfl,hb⟩
  have H17:=ai ((uh H13).below hb)
  have K18:=ai ((uh K14).below hb)
  have z19:=hb.size
  try simp[World.setCell]at z19
  have B20:=ai ((uh B15).below hb)
  have B21:=ai ((uh B16).below hb)
  clear H13 K14 B15 B16 hb
  obtain⟨c22,f23,y24⟩:=uh B20
  obtain⟨c25,f26,y27⟩:=uh B21
  go_wp2_with fail
  clear c22 f23 y24 c25 f26 y27
  refine(qcp (uh H17) h7).mono ?_
  rintro e w4⟨rfl,hb,hS⟩
  have H32:=ai hS
  have K33:=ai ((uh K18).trans hb)
  have z34:=hb.size
  try simp[World.setCell]at z34
  have B35:=ai ((uh B20).ke hb (by omega))
  have B36:=ai ((uh B21).ke hb (by omega))
  clear H17 K18 B20 B21 hb hS
  obtain⟨c37,f38,y39⟩:=uh B35
  obtain⟨c40,f41,y42⟩:=uh B36
  go_wp2_with fail
  clear c37 f38 y39 c40 f41 y42
  refine(is_S (uh H32) kClose).mono ?_
  rintro e w5⟨rfl,hb⟩
  have H47:=ai ((uh H32).below hb)
  have K48:=ai ((uh K33).below hb)
  have z49:=hb.size
  try simp[World.setCell]at z49
  have B50:=ai ((uh B35).below hb)
  have B51:=ai ((uh B36).below hb)
  clear H32 K33 B35 B36 hb
  obtain⟨c52,f53,y54⟩:=uh B50
  obtain⟨c55,f56,y57⟩:=uh B51
  go_wp2_with fail
  clear c52 f53 y54 c55 f56 y57
  refine(uh HP' _ _ (uh H47) (by intro j hj;cases hj;omega)).mono ?_
  rintro e w6⟨x,rfl,hb,hS,hN⟩
  have H62:=ai hS
  have K63:=ai ((uh K48).trans hb)
  have z64:=hb.size
  try simp[World.setCell]at z64
  have B65:=ai ((uh B50).ke hb (by omega))
  have B66:=ai ((uh B51).ke hb (by omega))
  clear H47 K48 B50 B51 hb hS
  obtain⟨c67,f68,y69⟩:=uh B65
  obtain⟨c70,f71,y72⟩:=uh B66
  have hN1:=ai (fun a k2 (hq:part (k+1)=.ok (a,k2))=>(hN _ a k2 rfl hq).rng w5.heap.size (fun b hb=>by simpa using hb))
  clear hN
  unfold NV.v
  go_wp2_with fail
  have H73:=ai (((uh H62).alloc (.cells (nvA x) 62)).alloc (.cells #[.int .i64 0,.string ⟨#[]⟩,.int .i64 0,.slice none 0 0,.int .i64 ((tk T k).frm:Int),.int .i64 0,.int .i64 ((tk T k).frm:Int)] 62))
  have K74:=ai (((uh K63).alloc (.cells (nvA x) 62)).alloc (.cells #[.int .i64 0,.string ⟨#[]⟩,.int .i64 0,.slice none 0 0,.int .i64 ((tk T k).frm:Int),.int .i64 0,.int .i64 ((tk T k).frm:Int)] 62))
  have B75:=ai (((uh B65).alloc (.cells (nvA x) 62)).alloc (.cells #[.int .i64 0,.string ⟨#[]⟩,.int .i64 0,.slice none 0 0,.int .i64 ((tk T k).frm:Int),.int .i64 0,.int .i64 ((tk T k).frm:Int)] 62))
  have B76:=ai (((uh B66).alloc (.cells (nvA x) 62)).alloc (.cells #[.int .i64 0,.string ⟨#[]⟩,.int .i64 0,.slice none 0 0,.int .i64 ((tk T k).frm:Int),.int .i64 0,.int .i64 ((tk T k).frm:Int)] 62))
  have B77:=ai ((Bx.at w6 (nvA x) 62 (w6.heap.size) (by simp[World.setCell])).alloc (.cells #[.int .i64 0,.string ⟨#[]⟩,.int .i64 0,.slice none 0 0,.int .i64 ((tk T k).frm:Int),.int .i64 0,.int .i64 ((tk T k).frm:Int)] 62))
  have B78:=ai (Bx.at (w6.alloc (.cells (nvA x) 62)) #[.int .i64 0,.string ⟨#[]⟩,.int .i64 0,.slice none 0 0,.int .i64 ((tk T k).frm:Int),.int .i64 0,.int .i64 ((tk T k).frm:Int)] 62 (w6.heap.size+1) (by simp[World.setCell]))
  have R79:=ai (fun a k2 hq=>(NR.bel (NR.bel (uh hN1 a k2 hq) (bw (.cells (nvA x) 62))) (bw (.cells #[.int .i64 0,.string ⟨#[]⟩,.int .i64 0,.slice none 0 0,.int .i64 ((tk T k).frm:Int),.int .i64 0,.int .i64 ((tk T k).frm:Int)] 62))))
  clear H62 K63 B65 B66 hN1 c67 f68 y69 c70 f71 y72
  refine(is_S (uh H73) kComma).mono ?_
  rintro e w7⟨rfl,hb⟩
  have H80:=ai ((uh H73).below hb)
  have K81:=ai ((uh K74).below hb)
  have z82:=hb.size
  try simp[World.setCell]at z82
  have B83:=ai ((uh B75).below hb)
  have B84:=ai ((uh B76).below hb)
  have B85:=ai ((uh B77).below hb)
  have B86:=ai ((uh B78).below hb)
  have R87:=ai (fun a k2 hq=>NR.bel (uh R79 a k2 hq) hb)
  clear H73 K74 B75 B76 B77 B78 R79 hb
  obtain⟨c88,f89,y90⟩:=uh B83
  obtain⟨c91,f92,y93⟩:=uh B84
  obtain⟨c94,f95,y96⟩:=uh B85
  obtain⟨c97,f98,y99⟩:=uh B86
  go_wp2_with fail
  clear c88 f89 y90 c91 f92 y93 c94 f95 y96 c97 f98 y99
  refine(qch (uh H80) kClose).mono ?_
  rintro e w10⟨rfl,hb,hS⟩
  have H106:=ai hS
  have K107:=ai ((uh K81).trans hb)
  have z108:=hb.size
  try simp[World.setCell]at z108
  have B109:=ai ((uh B83).ke hb (by omega))
  have B110:=ai ((uh B84).ke hb (by omega))
  have B111:=ai ((uh B85).ke hb (by omega))
  have B112:=ai ((uh B86).ke hb (by omega))
  have R113:=ai (fun a k2 hq=>NR.ke (uh R87 a k2 hq) hb (fun b hb=>by omega))
  clear H80 K81 B83 B84 B85 B86 R87 hb hS
  obtain⟨c114,f115,y116⟩:=uh B109
  obtain⟨c117,f118,y119⟩:=uh B110
  obtain⟨c120,f121,y122⟩:=uh B111
  obtain⟨c123,f124,y125⟩:=uh B112
  go_wp2_with fail
  have H126:=ai ((uh H106).st7 (b:=w.heap.size) (by omega) (by omega) x)
  have K127:=ai ((uh K107).st7 (b:=w.heap.size) (by omega) x)
  have B128:=ai ((uh B109).st7 rfl x)
  have B129:=ai ((uh B110).stO7 (b:=w.heap.size) (by omega) x)
  have B130:=ai ((uh B111).stO7 (b:=w.heap.size) (by omega) x)
  have B131:=ai ((uh B112).stO7 (b:=w.heap.size) (by omega) x)
  have R132:=ai (fun a k2 hq=>(NRst7 (uh R113 a k2 hq) (b2:=w.heap.size) (fun b hb _=>by omega) x))
  clear H106 K107 B109 B110 B111 B112 R113 c114 f115 y116 c117 f118 y119 c120 f121 y122 c123 f124 y125
  obtain⟨cF,fF,zF⟩:=uh B128
  refine bodyPost_ret (v:=NV.v x) (by simp[results,Tryz.results203,go_sem,cF,NV.v];try rfl) rfl ⟨x,rfl,uh K127,uh H126,fun a k2 h3=>?_⟩
  exact(uh R132 a k2 h3).wide _ (fun b hb=>by omega)
 .have s3:((sort:Int)==3)=true:=by rw[hs];rfl
  have hD:=hk1 hs
  clear hk1 hs
  have hr:=h.hr
  have hg:=h.hg
  have H1:=ai h
  have K2:=ai (Ke.refl rb w)
  clear h
  go_enter Tryz.func203,Tryz.ntmps203
  go_wp2_with fail
  have H3:=ai ((uh H1).alloc (.cells qat 62))
  have K4:=ai ((uh K2).alloc (.cells qat 62))
  have B5:=ai (Bx.at w qat 62 (w.heap.size) (by simp[World.setCell]))
  clear H1 K2
  refine(qb5 (uh H3)).mono ?_
  rintro e w1⟨t,rfl,hb,ht⟩
  have H6:=ai ((uh H3).below hb)
  have K7:=ai ((uh K4).below hb)
  have z8:=hb.size
  try simp[World.setCell]at z8
  have B9:=ai ((uh B5).below hb)
  clear H3 K4 B5 hb
  obtain⟨c10,f11,y12⟩:=uh B9
  have ht':=ht k rfl
  subst ht'
  clear ht
  unfold tokV
  go_wp2_with fail
  have H13:=ai ((uh H6).alloc (.cells #[.int .i64 ((tk T k).kind:Int),.string (tk T k).text,.int .i64 ((tk T k).frm:Int),.int .i64 ((tk T k).to:Int)] 58))
  have K14:=ai ((uh K7).alloc (.cells #[.int .i64 ((tk T k).kind:Int),.string (tk T k).text,.int .i64 ((tk T k).frm:Int),.int .i64 ((tk T k).to:Int)] 58))
  have B15:=ai ((uh B9).alloc (.cells #[.int .i64 ((tk T k).kind:Int),.string (tk T k).text,.int .i64 ((tk T k).frm:Int),.int .i64 ((tk T k).to:Int)] 58))
  have B16:=ai (Bx.at w1 #[.int .i64 ((tk T k).kind:Int),.string (tk T k).text,.int .i64 ((tk T k).frm:Int),.int .i64 ((tk T k).to:Int)] 58 (w1.heap.size) (by simp[World.setCell]))
  clear H6 K7 B9 c10 f11 y12
  refine(ok_S (uh H13)).mono ?_
  rintro e w2⟨rfl,rfl⟩
  go_wp2_with fail
  refine(qbt (tk T k) _ sort hs3).mono ?_
  rintro e w3⟨rfl,hb⟩
  have H17:=ai ((uh H13).below hb)
  have K18:=ai ((uh K14).below hb)
  have z19:=hb.size
  try simp[World.setCell]at z19
  have B20:=ai ((uh B15).below hb)
  have B21:=ai ((uh B16).below hb)
  clear H13 K14 B15 B16 hb
  obtain⟨c22,f23,y24⟩:=uh B20
  obtain⟨c25,f26,y27⟩:=uh B21
  go_wp2_with fail
  have H17:=ai (uh H17)
  have K18:=ai (uh K18)
  have B20:=ai (uh B20)
  have B21:=ai (uh B21)
  clear H17 K18 B20 B21 c22 f23 y24 c25 f26 y27
  refine(qcp (uh H17) h7).mono ?_
  rintro e w4⟨rfl,hb,hS⟩
  have H32:=ai hS
  have K33:=ai ((uh K18).trans hb)
  have z34:=hb.size
  try simp[World.setCell]at z34
  have B35:=ai ((uh B20).ke hb (by omega))
  have B36:=ai ((uh B21).ke hb (by omega))
  clear H17 K18 B20 B21 hb hS
  obtain⟨c37,f38,y39⟩:=uh B35
  obtain⟨c40,f41,y42⟩:=uh B36
  go_wp2_with fail
  have H32:=ai (uh H32)
  have K33:=ai (uh K33)
  have B35:=ai (uh B35)
  have B36:=ai (uh B36)
  clear H32 K33 B35 B36 c37 f38 y39 c40 f41 y42
  refine(is_S (uh H32) kClose).mono ?_
  rintro e w5⟨rfl,hb⟩
  have H47:=ai ((uh H32).below hb)
  have K48:=ai ((uh K33).below hb)
  have z49:=hb.size
  try simp[World.setCell]at z49
  have B50:=ai ((uh B35).below hb)
  have B51:=ai ((uh B36).below hb)
  clear H32 K33 B35 B36 hb
  obtain⟨c52,f53,y54⟩:=uh B50
  obtain⟨c55,f56,y57⟩:=uh B51
  go_wp2_with fail
  have H47:=ai (uh H47)
  have K48:=ai (uh K48)
  have B50:=ai (uh B50)
  have B51:=ai (uh B51)
  clear H47 K48 B50 B51 c52 f53 y54 c55 f56 y57
  refine(uh HP' _ _ (uh H47) (by intro j hj;cases hj;omega)).mono ?_
  rintro e w6⟨x,rfl,hb,hS,hN⟩
  have H62:=ai hS
  have K63:=ai ((uh K48).trans hb)
  have z64:=hb.size
  try simp[World.setCell]at z64
  have B65:=ai ((uh B50).ke hb (by omega))
  have B66:=ai ((uh B51).ke hb (by omega))
  clear H47 K48 B50 B51 hb hS
  obtain⟨c67,f68,y69⟩:=uh B65
  obtain⟨c70,f71,y72⟩:=uh B66
  have hN1:=ai (fun a k2 (hq:part (k+1)=.ok (a,k2))=>(hN _ a k2 rfl hq).rng w5.heap.size (fun b hb=>by simpa using hb))
  clear hN
  unfold NV.v
  go_wp2_with fail
  have H73:=ai (((uh H62).alloc (.cells (nvA x) 62)).alloc (.cells #[.int .i64 0,.string ⟨#[]⟩,.int .i64 0,.slice none 0 0,.int .i64 ((tk T k).frm:Int),.int .i64 0,.int .i64 ((tk T k).frm:Int)] 62))
  have K74:=ai (((uh K63).alloc (.cells (nvA x) 62)).alloc (.cells #[.int .i64 0,.string ⟨#[]⟩,.int .i64 0,.slice none 0 0,.int .i64 ((tk T k).frm:Int),.int .i64 0,.int .i64 ((tk T k).frm:Int)] 62))
  have B75:=ai (((uh B65).alloc (.cells (nvA x) 62)).alloc (.cells #[.int .i64 0,.string ⟨#[]⟩,.int .i64 0,.slice none 0 0,.int .i64 ((tk T k).frm:Int),.int .i64 0,.int .i64 ((tk T k).frm:Int)] 62))
  have B76:=ai (((uh B66).alloc (.cells (nvA x) 62)).alloc (.cells #[.int .i64 0,.string ⟨#[]⟩,.int .i64 0,.slice none 0 0,.int .i64 ((tk T k).frm:Int),.int .i64 0,.int .i64 ((tk T k).frm:Int)] 62))
  have B77:=ai ((Bx.at w6 (nvA x) 62 (w6.heap.size) (by simp[World.setCell])).alloc (.cells #[.int .i64 0,.string ⟨#[]⟩,.int .i64 0,.slice none 0 0,.int .i64 ((tk T k).frm:Int),.int .i64 0,.int .i64 ((tk T k).frm:Int)] 62))
  have B78:=ai (Bx.at (w6.alloc (.cells (nvA x) 62)) #[.int .i64 0,.string ⟨#[]⟩,.int .i64 0,.slice none 0 0,.int .i64 ((tk T k).frm:Int),.int .i64 0,.int .i64 ((tk T k).frm:Int)] 62 (w6.heap.size+1) (by simp[World.setCell]))
  have R79:=ai (fun a k2 hq=>(NR.bel (NR.bel (uh hN1 a k2 hq) (bw (.cells (nvA x) 62))) (bw (.cells #[.int .i64 0,.string ⟨#[]⟩,.int .i64 0,.slice none 0 0,.int .i64 ((tk T k).frm:Int),.int .i64 0,.int .i64 ((tk T k).frm:Int)] 62))))
  clear H62 K63 B65 B66 hN1 c67 f68 y69 c70 f71 y72
  refine(is_S (uh H73) kComma).mono ?_
  rintro e w7⟨rfl,hb⟩
  have H80:=ai ((uh H73).below hb)
  have K81:=ai ((uh K74).below hb)
  have z82:=hb.size
  try simp[World.setCell]at z82
  have B83:=ai ((uh B75).below hb)
  have B84:=ai ((uh B76).below hb)
  have B85:=ai ((uh B77).below hb)
  have B86:=ai ((uh B78).below hb)
  have R87:=ai (fun a k2 hq=>NR.bel (uh R79 a k2 hq) hb)
  clear H73 K74 B75 B76 B77 B78 R79 hb
  obtain⟨c88,f89,y90⟩:=uh B83
  obtain⟨c91,f92,y93⟩:=uh B84
  obtain⟨c94,f95,y96⟩:=uh B85
  obtain⟨c97,f98,y99⟩:=uh B86
  go_wp2_with fail
  have H80:=ai (uh H80)
  have K81:=ai (uh K81)
  have B83:=ai (uh B83)
  have B84:=ai (uh B84)
  have B85:=ai (uh B85)
  have B86:=ai (uh B86)
  clear H80 K81 B83 B84 B85 B86 c88 f89 y90 c91 f92 y93 c94 f95 y96 c97 f98 y99
  refine(is_S (uh H80) qcx).mono ?_
  rintro e w7b⟨rfl,hb⟩
  have H106:=ai ((uh H80).below hb)
  have K107:=ai ((uh K81).below hb)
  have z108:=hb.size
  try simp[World.setCell]at z108
  have B109:=ai ((uh B83).below hb)
  have B110:=ai ((uh B84).below hb)
  have B111:=ai ((uh B85).below hb)
  have B112:=ai ((uh B86).below hb)
  have R113:=ai (fun a k2 hq=>NR.bel (uh R87 a k2 hq) hb)
  clear H80 K81 B83 B84 B85 B86 R87 hb
  obtain⟨c114,f115,y116⟩:=uh B109
  obtain⟨c117,f118,y119⟩:=uh B110
  obtain⟨c120,f121,y122⟩:=uh B111
  obtain⟨c123,f124,y125⟩:=uh B112
  go_wp2_with fail
  clear c114 f115 y116 c117 f118 y119 c120 f121 y122 c123 f124 y125
  refine(qch (uh H106) kClose).mono ?_
  rintro e w10⟨rfl,hb,hS⟩
  have H132:=ai hS
  have K133:=ai ((uh K107).trans hb)
  have z134:=hb.size
  try simp[World.setCell]at z134
  have B135:=ai ((uh B109).ke hb (by omega))
  have B136:=ai ((uh B110).ke hb (by omega))
  have B137:=ai ((uh B111).ke hb (by omega))
  have B138:=ai ((uh B112).ke hb (by omega))
  have R139:=ai (fun a k2 hq=>NR.ke (uh R113 a k2 hq) hb (fun b hb=>by omega))
  clear H106 K107 B109 B110 B111 B112 R113 hb hS
  obtain⟨c140,f141,y142⟩:=uh B135
  obtain⟨c143,f144,y145⟩:=uh B136
  obtain⟨c146,f147,y148⟩:=uh B137
  obtain⟨c149,f150,y151⟩:=uh B138
  go_wp2_with fail
  have H152:=ai ((uh H132).st7 (b:=w.heap.size) (by omega) (by omega) x)
  have K153:=ai ((uh K133).st7 (b:=w.heap.size) (by omega) x)
  have B154:=ai ((uh B135).st7 rfl x)
  have B155:=ai ((uh B136).stO7 (b:=w.heap.size) (by omega) x)
  have B156:=ai ((uh B137).stO7 (b:=w.heap.size) (by omega) x)
  have B157:=ai ((uh B138).stO7 (b:=w.heap.size) (by omega) x)
  have R158:=ai (fun a k2 hq=>(NRst7 (uh R139 a k2 hq) (b2:=w.heap.size) (fun b hb _=>by omega) x))
  clear H132 K133 B135 B136 B137 B138 R139 c140 f141 y142 c143 f144 y145 c146 f147 y148 c149 f150 y151
  obtain⟨cF,fF,zF⟩:=uh B154
  refine bodyPost_ret (v:=NV.v x) (by simp[results,Tryz.results203,go_sem,cF,NV.v];try rfl) rfl ⟨x,rfl,uh K153,uh H152,fun a k2 h3=>?_⟩
  exact(uh R158 a k2 h3).wide _ (fun b hb=>by omega)
theorem small_paren1{k n:Nat}{part:M Nd}(h:SS w rb g cap T (.ok k))(sort:Nat)(hs:sort=1)(hf:T.length<=k+(n+1))(ho:isT (tk T k) qes=true)(HP:NodeC rb g cap T 305 #[.pointer (some ⟨rb,0,none⟩),.int .i64 (sort:Int)] part n)(hk0:isS T (nx (.ok (k+1)) part) kComma=false):
 Calls Tryz.prog 203 #[.pointer (some ⟨rb,0,none⟩),.int .i64 (sort:Int)] w fun e w'=>∃x:NV,e=.returned x.v/\Ke rb w w'/\SS w' rb g cap T (nx (nx (.ok (k+1)) part) (qag T kClose))/\
  ∀a k2,part (k+1)=.ok (a,k2)->NR w' (fun b=>w.heap.size<=b) a x:=by
 have hb:qai (tk T k) sort=true:=by unfold qai;rw[ho];rfl
 obtain⟨q5,q⟩:(tk T k).kind=5/\((tk T k).text.toList==[40])=true:=by rw[qea]at ho;simpa using ho
 have h7:(tk T k).kind≠7:=by omega
 have e5:(((tk T k).kind:Int) !=5)=false:=by rw[q5];rfl
 have hs3:sort=1\/sort=2\/sort=3:=by omega
 have s1:((sort:Int) !=1)=false:=by rw[hs];rfl
 have s3:((sort:Int)==3)=false:=by rw[hs];rfl
 have HP':=ai HP
 clear ho q5 HP
 clear hs
 have hr:=h.hr
 have hg:=h.hg
 have H1:=ai h
 have K2:=ai (Ke.refl rb w)
 clear h
 go_enter Tryz.func203,Tryz.ntmps203
 go_wp2_with fail
 have H3:=ai ((uh H1).alloc (.cells qat 62))
 have K4:=ai ((uh K2).alloc (.cells qat 62))
 have B5:=ai (Bx.at w qat 62 (w.heap.size) (by simp[World.setCell]))
 clear H1 K2
 refine(qb5 (uh H3)).mono ?_
 rintro e w1⟨t,rfl,hb,ht⟩
 have H6:=ai ((uh H3).below hb)
 have K7:=ai ((uh K4).below hb)
 have z8:=hb.size
 try simp[World.setCell]at z8
 have B9:=ai ((uh B5).below hb)
 clear H3 K4 B5 hb
 obtain⟨c10,f11,y12⟩:=uh B9
 have ht':=ht k rfl
 subst ht'
 clear ht
 unfold tokV
 go_wp2_with fail
 have H13:=ai ((uh H6).alloc (.cells #[.int .i64 ((tk T k).kind:Int),.string (tk T k).text,.int .i64 ((tk T k).frm:Int),.int .i64 ((tk T k).to:Int)] 58))
 have K14:=ai ((uh K7).alloc (.cells #[.int .i64 ((tk T k).kind:Int),.string (tk T k).text,.int .i64 ((tk T k).frm:Int),.int .i64 ((tk T k).to:Int)] 58))
 have B15:=ai ((uh B9).alloc (.cells #[.int .i64 ((tk T k).kind:Int),.string (tk T k).text,.int .i64 ((tk T k).frm:Int),.int .i64 ((tk T k).to:Int)] 58))
 have B16:=ai (Bx.at w1 #[.int .i64 ((tk T k).kind:Int),.string (tk T k).text,.int .i64 ((tk T k).frm:Int),.int .i64 ((tk T k).to:Int)] 58 (w1.heap.size) (by simp[World.setCell]))
 clear H6 K7 B9 c10 f11 y12
 refine(ok_S (uh H13)).mono ?_
 rintro e w2⟨rfl,rfl⟩
 go_wp2_with fail
 refine(qbt (tk T k) _ sort hs3).mono ?_
 rintro e w3⟨rfl,hb⟩
 have H17:=ai ((uh H13).below hb)
 have K18:=ai ((uh K14).below hb)
 have z19:=hb.size
 try simp[World.setCell]at z19
 have B20:=ai ((uh B15).below hb)
 have B21:=ai ((uh B16).below hb)
 clear H13 K14 B15 B16 hb
 obtain⟨c22,f23,y24⟩:=uh B20
 obtain⟨c25,f26,y27⟩:=uh B21
 go_wp2_with fail
 clear c22 f23 y24 c25 f26 y27
 refine(qcp (uh H17) h7).mono ?_
 rintro e w4⟨rfl,hb,hS⟩
 have H32:=ai hS
 have K33:=ai ((uh K18).trans hb)
 have z34:=hb.size
 try simp[World.setCell]at z34
 have B35:=ai ((uh B20).ke hb (by omega))
 have B36:=ai ((uh B21).ke hb (by omega))
 clear H17 K18 B20 B21 hb hS
 obtain⟨c37,f38,y39⟩:=uh B35
 obtain⟨c40,f41,y42⟩:=uh B36
 go_wp2_with fail
 clear c37 f38 y39 c40 f41 y42
 refine(uh HP' _ _ (uh H32) (by intro j hj;cases hj;omega)).mono ?_
 rintro e w6⟨x,rfl,hb,hS,hN⟩
 have H47:=ai hS
 have K48:=ai ((uh K33).trans hb)
 have z49:=hb.size
 try simp[World.setCell]at z49
 have B50:=ai ((uh B35).ke hb (by omega))
 have B51:=ai ((uh B36).ke hb (by omega))
 clear H32 K33 B35 B36 hb hS
 obtain⟨c52,f53,y54⟩:=uh B50
 obtain⟨c55,f56,y57⟩:=uh B51
 have hN1:=ai (fun a k2 (hq:part (k+1)=.ok (a,k2))=>(hN _ a k2 rfl hq).rng w4.heap.size (fun b hb=>by simpa using hb))
 clear hN
 unfold NV.v
 go_wp2_with fail
 have H58:=ai (((uh H47).alloc (.cells (nvA x) 62)).alloc (.cells #[.int .i64 0,.string ⟨#[]⟩,.int .i64 0,.slice none 0 0,.int .i64 ((tk T k).frm:Int),.int .i64 0,.int .i64 ((tk T k).frm:Int)] 62))
 have K59:=ai (((uh K48).alloc (.cells (nvA x) 62)).alloc (.cells #[.int .i64 0,.string ⟨#[]⟩,.int .i64 0,.slice none 0 0,.int .i64 ((tk T k).frm:Int),.int .i64 0,.int .i64 ((tk T k).frm:Int)] 62))
 have B60:=ai (((uh B50).alloc (.cells (nvA x) 62)).alloc (.cells #[.int .i64 0,.string ⟨#[]⟩,.int .i64 0,.slice none 0 0,.int .i64 ((tk T k).frm:Int),.int .i64 0,.int .i64 ((tk T k).frm:Int)] 62))
 have B61:=ai (((uh B51).alloc (.cells (nvA x) 62)).alloc (.cells #[.int .i64 0,.string ⟨#[]⟩,.int .i64 0,.slice none 0 0,.int .i64 ((tk T k).frm:Int),.int .i64 0,.int .i64 ((tk T k).frm:Int)] 62))
 have B62:=ai ((Bx.at w6 (nvA x) 62 (w6.heap.size) (by simp[World.setCell])).alloc (.cells #[.int .i64 0,.string ⟨#[]⟩,.int .i64 0,.slice none 0 0,.int .i64 ((tk T k).frm:Int),.int .i64 0,.int .i64 ((tk T k).frm:Int)] 62))
 have B63:=ai (Bx.at (w6.alloc (.cells (nvA x) 62)) #[.int .i64 0,.string ⟨#[]⟩,.int .i64 0,.slice none 0 0,.int .i64 ((tk T k).frm:Int),.int .i64 0,.int .i64 ((tk T k).frm:Int)] 62 (w6.heap.size+1) (by simp[World.setCell]))
 have R64:=ai (fun a k2 hq=>(NR.bel (NR.bel (uh hN1 a k2 hq) (bw (.cells (nvA x) 62))) (bw (.cells #[.int .i64 0,.string ⟨#[]⟩,.int .i64 0,.slice none 0 0,.int .i64 ((tk T k).frm:Int),.int .i64 0,.int .i64 ((tk T k).frm:Int)] 62))))
 clear H47 K48 B50 B51 hN1 c52 f53 y54 c55 f56 y57
 refine(is_S (uh H58) kComma).mono ?_
 rintro e w7⟨rfl,hb⟩
 have H65:=ai ((uh H58).below hb)
 have K66:=ai ((uh K59).below hb)
 have z67:=hb.size
 try simp[World.setCell]at z67
 have B68:=ai ((uh B60).below hb)
 have B69:=ai ((uh B61).below hb)
 have B70:=ai ((uh B62).below hb)
 have B71:=ai ((uh B63).below hb)
 have R72:=ai (fun a k2 hq=>NR.bel (uh R64 a k2 hq) hb)
 clear H58 K59 B60 B61 B62 B63 R64 hb
 obtain⟨c73,f74,y75⟩:=uh B68
 obtain⟨c76,f77,y78⟩:=uh B69
 obtain⟨c79,f80,y81⟩:=uh B70
 obtain⟨c82,f83,y84⟩:=uh B71
 go_wp2_with fail
 clear c73 f74 y75 c76 f77 y78 c79 f80 y81 c82 f83 y84
 refine(qch (uh H65) kClose).mono ?_
 rintro e w10⟨rfl,hb,hS⟩
 have H91:=ai hS
 have K92:=ai ((uh K66).trans hb)
 have z93:=hb.size
 try simp[World.setCell]at z93
 have B94:=ai ((uh B68).ke hb (by omega))
 have B95:=ai ((uh B69).ke hb (by omega))
 have B96:=ai ((uh B70).ke hb (by omega))
 have B97:=ai ((uh B71).ke hb (by omega))
 have R98:=ai (fun a k2 hq=>NR.ke (uh R72 a k2 hq) hb (fun b hb=>by omega))
 clear H65 K66 B68 B69 B70 B71 R72 hb hS
 obtain⟨c99,f100,y101⟩:=uh B94
 obtain⟨c102,f103,y104⟩:=uh B95
 obtain⟨c105,f106,y107⟩:=uh B96
 obtain⟨c108,f109,y110⟩:=uh B97
 go_wp2_with fail
 have H111:=ai ((uh H91).st7 (b:=w.heap.size) (by omega) (by omega) x)
 have K112:=ai ((uh K92).st7 (b:=w.heap.size) (by omega) x)
 have B113:=ai ((uh B94).st7 rfl x)
 have B114:=ai ((uh B95).stO7 (b:=w.heap.size) (by omega) x)
 have B115:=ai ((uh B96).stO7 (b:=w.heap.size) (by omega) x)
 have B116:=ai ((uh B97).stO7 (b:=w.heap.size) (by omega) x)
 have R117:=ai (fun a k2 hq=>(NRst7 (uh R98 a k2 hq) (b2:=w.heap.size) (fun b hb _=>by omega) x))
 clear H91 K92 B94 B95 B96 B97 R98 c99 f100 y101 c102 f103 y104 c105 f106 y107 c108 f109 y110
 obtain⟨cF,fF,zF⟩:=uh B113
 refine bodyPost_ret (v:=NV.v x) (by simp[results,Tryz.results203,go_sem,cF,NV.v];try rfl) rfl ⟨x,rfl,uh K112,uh H111,fun a k2 h3=>?_⟩
 exact(uh R117 a k2 h3).wide _ (fun b hb=>by omega)
end
end
section
open Go Go.RowKit
section
variable {rb g cap:Nat} {T:List Pu.Tok} {σ:St} {w:World}
theorem qcd{α β:Type}{m:M α}{f:α->M β}{k k':Nat}{a:α}(h:m k=.ok (a,k')):bnd m f k=f a k':=by simp only[bnd,h]
theorem qb8{α β:Type}{m:M α}{f:α->M β}{k:Nat}{e:Fl}(h:m k=.error e):bnd m f k=.error e:=by simp only[bnd,h]
theorem small_C{n:Nat}{part typ:M Nd}(sort:Nat)(hs:sort=1\/sort=2\/sort=3)(HP:NodeC rb g cap T 305 #[.pointer (some ⟨rb,0,none⟩),.int .i64 (sort:Int)] part n)(HT:sort=3->NodeC rb g cap T 135 #[.pointer (some ⟨rb,0,none⟩)] typ n)(hm:Mono part):
 NodeC rb g cap T 203 #[.pointer (some ⟨rb,0,none⟩),.int .i64 (sort:Int)] (qam T part typ sort) (n+1):=by
 intro w σ h hf
 cases σ with
 |error fl=>
  refine(small_bad h sort).mono ?_
  rintro e w'⟨rfl,hK,hS⟩
  exact⟨_,rfl,hK,hS,fun k a k' hk=>by cases hk⟩
 |ok k=>
  have hf':=hf k rfl
  rcases hb:qai (tk T k) sort with _|_
  .refine(small_no h sort hs hb).mono ?_
   rintro e w'⟨rfl,hK,hS⟩
   have hM:qam T part typ sort k=.error (flOf (tk T k)):=by unfold qam;rw[hb];rfl
   refine⟨_,rfl,hK,by rw[qbn hM];exact hS,fun j a k' hj hq=>?_⟩
   cases hj
   rw[hM]at hq
   cases hq
  rcases ho:isT (tk T k) qes with _|_
  .refine(small_leaf h sort hs hb ho).mono ?_
   rintro e w'⟨rfl,hK,hS⟩
   have hM:qam T part typ sort k=.ok (qb3 (tk T k),k+1):=by unfold qam;rw[hb,ho];rfl
   refine⟨⟨(qa6 (tk T k):Int),(tk T k).text,(qa9 (tk T k):Int),none,0,0,((tk T k).frm:Int),((tk T k).to:Int),((tk T k).frm:Int)⟩,rfl,hK,by rw[qas hM];exact hS,fun j a k' hj hq=>?_⟩
   cases hj
   rw[hM]at hq
   cases hq
   exact .leaf _ _ _ _ _ _
  have hG:qam T part typ sort k=qew T part typ sort (tk T k).frm (k+1):=by unfold qam;rw[hb,ho];rfl
  by_cases hu:sort≠1/\isT (tk T (k+1)) kClose=true
  .refine(small_unit h sort (by omega) ho hu.2).mono ?_
   rintro e w'⟨rfl,hK,hS⟩
   have hM:qam T part typ sort k=.ok (.mk 5 kNo 0 [] (tk T k).frm (qan T (k+2)) (tk T k).frm,k+2):=by rw[hG];unfold qew;rw[if_pos hu]
   refine⟨⟨5,kNo,0,none,0,0,((tk T k).frm:Int),(qan T (k+2):Int),((tk T k).frm:Int)⟩,rfl,hK,by rw[qas hM];exact hS,fun j a k' hj hq=>?_⟩
   cases hj
   rw[hM]at hq
   cases hq
   exact .leaf _ _ _ _ _ _
  have hG2:qam T part typ sort k=bnd part (qee T part typ sort (tk T k).frm) (k+1):=by rw[hG];unfold qew;rw[if_neg hu]
  have hcl:sort≠1->isT (tk T (k+1)) kClose=false:=fun hs1=>by
   rcases q:isT (tk T (k+1)) kClose with _|_
   .rfl
   .exact absurd ⟨hs1,q⟩ hu
  rcases hp:part (k+1)with fl|⟨a,k2⟩
  .have hM:qam T part typ sort k=.error fl:=by rw[hG2,qb8 hp]
   have fin:∀e w',(∃x:NV,e=Ending.returned x.v/\Ke rb w w'/\SS w' rb g cap T (nx (nx (.ok (k+1)) part) (qag T kClose))/\∀a k2,part (k+1)=.ok (a,k2)->NR w' (fun b=>w.heap.size<=b) a x)->
    ∃x:NV,e=Ending.returned x.v/\Ke rb w w'/\SS w' rb g cap T (nx (.ok k) (qam T part typ sort))/\∀j a k',(Except.ok k:St)=.ok j->qam T part typ sort j=.ok (a,k')->NR w' (fun b=>w.heap.size<=b) a x:=by
    rintro e w'⟨x,he,hK,hS,hN⟩
    refine⟨x,he,hK,by rw[qbn hM];rw[qbn hp]at hS;exact hS,fun j a k' hj hq=>?_⟩
    cases hj
    rw[hM]at hq
    cases hq
   by_cases h1:sort=1
   .exact(small_paren1 h sort h1 hf' ho HP (by rw[qbn hp];rfl)).mono fin
   .exact(small_paren h sort (by omega) hf' ho (hcl h1) HP (by rw[qbn hp];rfl) (fun _=>by rw[qbn hp];rfl)).mono fin
  have hG3:qam T part typ sort k=qee T part typ sort (tk T k).frm a k2:=by rw[hG2,qcd hp]
  rcases hc:isT (tk T k2) kComma with _|_
  .by_cases h3:sort=3/\isT (tk T k2) qcx=true
   .have hG4:qam T part typ sort k=bnd typ (fun b=>qc3 T fun k'=>.mk 14 kNo 0 [a,b] (tk T k).frm (qan T k') (tk T k).frm) (k2+1):=by rw[hG3];unfold qee;rw[if_neg (by simp[hc]),if_pos h3]
    refine(small_colon h sort h3.1 hf' ho (hcl (by omega)) HP (HT h3.1) hm hp hc h3.2).mono ?_
    rintro e w'⟨x,he,hK,hS,hN⟩
    rcases hq2:typ (k2+1)with fl|⟨b,k3⟩
    .have hM:qam T part typ sort k=.error fl:=by rw[hG4,qb8 hq2]
     refine⟨x,he,hK,by rw[qbn hM];rw[qbn hq2]at hS;exact hS,fun j a k' hj hq=>?_⟩
     cases hj;rw[hM]at hq;cases hq
    .rcases hq3:qag T kClose k3 with fl|⟨u,k4⟩
     .have hM:qam T part typ sort k=.error fl:=by rw[hG4,qcd hq2];unfold qc3;rw[qb8 hq3]
      refine⟨x,he,hK,by rw[qbn hM];rw[qas hq2,qbn hq3]at hS;exact hS,fun j a k' hj hq=>?_⟩
      cases hj;rw[hM]at hq;cases hq
     .have hM:qam T part typ sort k=.ok (.mk 14 kNo 0 [a,b] (tk T k).frm (qan T k4) (tk T k).frm,k4):=by rw[hG4,qcd hq2];unfold qc3;rw[qcd hq3]
      refine⟨x,he,hK,by rw[qas hM];rw[qas hq2,qas hq3]at hS;exact hS,fun j a k' hj hq=>?_⟩
      cases hj;rw[hM]at hq;cases hq
      exact hN b k3 k4 hq2 hq3
   .have hG4:qam T part typ sort k=qc3 T (fun _=>a) k2:=by rw[hG3];unfold qee;rw[if_neg (by simp[hc]),if_neg h3]
    have fin:∀e w',(∃x:NV,e=Ending.returned x.v/\Ke rb w w'/\SS w' rb g cap T (nx (nx (.ok (k+1)) part) (qag T kClose))/\∀a k2,part (k+1)=.ok (a,k2)->NR w' (fun b=>w.heap.size<=b) a x)->
     ∃x:NV,e=Ending.returned x.v/\Ke rb w w'/\SS w' rb g cap T (nx (.ok k) (qam T part typ sort))/\∀j a k',(Except.ok k:St)=.ok j->qam T part typ sort j=.ok (a,k')->NR w' (fun b=>w.heap.size<=b) a x:=by
     rintro e w'⟨x,he,hK,hS,hN⟩
     rcases hq3:qag T kClose k2 with fl|⟨u,k4⟩
     .have hM:qam T part typ sort k=.error fl:=by rw[hG4];unfold qc3;rw[qb8 hq3]
      refine⟨x,he,hK,by rw[qbn hM];rw[qas hp,qbn hq3]at hS;exact hS,fun j a k' hj hq=>?_⟩
      cases hj;rw[hM]at hq;cases hq
     .have hM:qam T part typ sort k=.ok (a,k4):=by rw[hG4];unfold qc3;rw[qcd hq3]
      refine⟨x,he,hK,by rw[qas hM];rw[qas hp,qas hq3]at hS;exact hS,fun j a' k' hj hq=>?_⟩
      cases hj;rw[hM]at hq;cases hq
      exact hN a k2 hp
    by_cases h1:sort=1
    .exact(small_paren1 h sort h1 hf' ho HP (by rw[qas hp];exact hc)).mono fin
    .exact(small_paren h sort (by omega) hf' ho (hcl h1) HP (by rw[qas hp];exact hc) (fun h3'=>by
      rw[qas hp]
      rcases q:isT (tk T k2) qcx with _|_
      .exact q
      .exact absurd ⟨h3',q⟩ h3)).mono fin
  .have hG4:qam T part typ sort k=bnd part (fun b=>qc3 T fun k'=>.mk 6 kNo 0 [a,b] (tk T k).frm (qan T k') (tk T k).frm) (k2+1):=by rw[hG3];unfold qee;rw[if_pos hc]
   have fin:∀e w',(∃x:NV,e=Ending.returned x.v/\Ke rb w w'/\SS w' rb g cap T (nx (nx (.ok (k2+1)) part) (qag T kClose))/\∀b k3 k4,part (k2+1)=.ok (b,k3)->qag T kClose k3=.ok ((),k4)->NR w' (fun b=>w.heap.size<=b) (.mk 6 kNo 0 [a,b] (tk T k).frm (qan T k4) (tk T k).frm) x)->
    ∃x:NV,e=Ending.returned x.v/\Ke rb w w'/\SS w' rb g cap T (nx (.ok k) (qam T part typ sort))/\∀j a k',(Except.ok k:St)=.ok j->qam T part typ sort j=.ok (a,k')->NR w' (fun b=>w.heap.size<=b) a x:=by
    rintro e w'⟨x,he,hK,hS,hN⟩
    rcases hq2:part (k2+1)with fl|⟨b,k3⟩
    .have hM:qam T part typ sort k=.error fl:=by rw[hG4,qb8 hq2]
     refine⟨x,he,hK,by rw[qbn hM];rw[qbn hq2]at hS;exact hS,fun j a k' hj hq=>?_⟩
     cases hj;rw[hM]at hq;cases hq
    .rcases hq3:qag T kClose k3 with fl|⟨u,k4⟩
     .have hM:qam T part typ sort k=.error fl:=by rw[hG4,qcd hq2];unfold qc3;rw[qb8 hq3]
      refine⟨x,he,hK,by rw[qbn hM];rw[qas hq2,qbn hq3]at hS;exact hS,fun j a k' hj hq=>?_⟩
      cases hj;rw[hM]at hq;cases hq
     .have hM:qam T part typ sort k=.ok (.mk 6 kNo 0 [a,b] (tk T k).frm (qan T k4) (tk T k).frm,k4):=by rw[hG4,qcd hq2];unfold qc3;rw[qcd hq3]
      refine⟨x,he,hK,by rw[qas hM];rw[qas hq2,qas hq3]at hS;exact hS,fun j a k' hj hq=>?_⟩
      cases hj;rw[hM]at hq;cases hq
      exact hN b k3 k4 hq2 hq3
   by_cases h1:sort=1
   .exact(small_pair1 h sort h1 hf' ho HP hm hp hc).mono fin
   .exact(small_pair h sort (by omega) hf' ho (hcl h1) HP hm hp hc).mono fin
end
end
section
open Go Go.RowKit Un
def okN(c:BA)(n:Nat):Prop:=c.size<=1000/\(c=nFn\/c=nPr->n=2)
theorem qfw{w:World}{base:Nat}{e:TypeId}{size:Nat}{g n cap:Nat}{xs:List Value}(h:w.ownsRow base e size (.slice (some ⟨g,0,none⟩) n cap) n xs)(j:Nat)(hj:j<n*size):w.cell? ⟨g,j,none⟩=xs[j]? :=by
 obtain⟨h1,h2⟩:=h
 rcases h2 with⟨h2,_⟩|⟨g',cap',cur,hv,hg,hh,r1,r2,r3,r4⟩
 .cases h2
 .cases hv
  rw[<-r4,List.getElem?_take_of_lt hj]
  simp[World.cell?,hh]
theorem own_open{w:World}{base:Nat}{e:TypeId}{size:Nat}{v:Value}{n:Nat}{xs:List Value}(h:w.ownsRow base e size v n xs)(hn:0<n):∃g cap,v=.slice (some ⟨g,0,none⟩) n cap/\g<w.heap.size/\n<=cap:=by
 obtain⟨h1,h2⟩:=h
 rcases h2 with⟨_,h2⟩|⟨g',cap',cur,hv,hg,hh,r1,r2,r3,r4⟩
 .omega
 .exact⟨g',cap',hv,(Array.getElem?_eq_some_iff.1 hh).1,r1⟩
end
section
open Go Go.RowKit Un
def far(rk:Nat->Nat):Ty->Nat
 |.var n=>rk n+1|.con _ _=>0
section
variable {w:World} {kb:Nat} {hv iv:Value} {N:Nat} {K:Nat->Option Ty} {P:Nat->Prop} {R:Nat->Ty} {rk:Nat->Nat}
end
end
section
open Go Go.RowKit Un
def parts:Ty->List Ty
 |.var _=>[]|.con _ l=>l
section
variable {kb:Nat} {hv iv:Value} {N:Nat} {K:Nat->Option Ty} {R:Nat->Ty} {rk:Nat->Nat}
end
end
section
open Go Go.RowKit Un
section
variable {kb:Nat} {hv iv:Value} {N:Nat} {K:Nat->Option Ty} {R:Nat->Ty} {rk:Nat->Nat}
open Classical in
end
end
end Go.Proofs.YtoceemjbcgmojaaGreatDoor

import Derived.Test.YtoceemjbcgmojaaGreatDoorQZa
set_option linter.all false
set_option maxRecDepth 100000
set_option maxHeartbeats 2000000
namespace Go.Proofs.YtoceemjbcgmojaaGreatDoor
section
open Go Go.RowKit Go.ChangeMaps Un
theorem PT.sh3{w:World}{Q:Nat->Prop}{nd:Nd}{v:Value}(h:PT w Q nd v):wT nd 0=sh nd/\wT nd 1=atP (lv nd,sh nd) 2/\wT nd 2=atP (lv nd,sh nd) 5:=by
 have key:∀{nd:Nd}{v:Value},PT w Q nd v->wT nd 0=sh nd->wT nd 1=atP (lv nd,sh nd) 2/\wT nd 2=atP (lv nd,sh nd) 5:=by
  intro nd v h e
  obtain⟨c,s,n,L,f,t,a⟩:=nd
  have h1:=par_rk s n L c f t a 1 h.kn (by omega)
  have h2:=par_rk s n L c f t a 2 h.kn (by omega)
  rw[h1,h2,e]
  unfold atP
  have:(rk (.mk c s n L f t a)<1↔lv (.mk c s n L f t a)<2)/\(rk (.mk c s n L f t a)<2↔lv (.mk c s n L f t a)<5):=by
   rcases h.kn with rfl|rfl|rfl|⟨rfl,_⟩
   .simp[rk,lv]
   .simp[rk,lv]
   .simp[rk,lv]
   .by_cases hL:L=[]<;>simp[rk,lv,hL]
  simp only[this.1,this.2]
  exact⟨trivial,trivial⟩
 have h0:wT nd 0=sh nd:=by
  induction h with
  |var s n f t a x y hq=>rw[wT_var];simp[sh,qcb]|fn s n x y f t at_ u u' va vb ha hb iha ihb=>rw[wT_fn,(key ha iha).1,ihb];simp[sh,qcb,prL,gP]|pr s n x y f t at_ u u' va vb ha hb iha ihb=>rw[wT_pr,iha,ihb,sh_pr]|up s n L f t at_ x y x' y' sa sc vs hu hrow hr ih=>
   rw[wT_up s hu,sh_up]
   congr 1
   unfold qa4
   rw[List.flatMap_map,List.flatMap_map]
   have:∀x∈L,(32::wT x 2)=32::atP (lv x,sh x) 5:=fun x hx=>by
    obtain⟨i,hi,rfl⟩:=List.getElem_of_mem hx
    rw[(key (hr i hi) (ih i hi)).2]
   clear hrow hr ih
   induction L with
   |nil=>rfl|cons y L ihL=>simp only[List.flatMap_cons];rw[this y (by simp),ihL (fun x hx=>this x (by simp[hx]))]
 exact⟨h0,key h h0⟩
theorem WN.sm{w:World}{Q:Nat->Prop}{nd:Nd}{v:Value}(h:PT w Q nd v):Sm nd->WN nd:=by
 induction h with
 |var s n f t a x y hq=>rintro⟨_,_,_,_,_,_,_,h1,_,_,_⟩;exact .var _ _ _ _ _ h1
 |fn s n x y f t at_ u u' va vb ha hb iha ihb=>rintro⟨_,_,_,_,_,_,_,_,_,_,h4⟩;exact .fn _ _ _ _ _ _ _ (iha (h4 x (by simp))) (ihb (h4 y (by simp)))
 |pr s n x y f t at_ u u' va vb ha hb iha ihb=>rintro⟨_,_,_,_,_,_,_,_,_,_,h4⟩;exact .pr _ _ _ _ _ _ _ (iha (h4 x (by simp))) (ihb (h4 y (by simp)))
 |up s n L f t at_ x y x' y' sa sc vs hu hrow hr ih=>rintro⟨_,_,_,_,_,_,_,h1,_,h3,h4⟩;exact .up _ _ _ _ _ _ h1 h3 (fun i hi=>ih i hi (h4 _ (List.getElem_mem hi)))
theorem sh_upE(s:BA)(n f t a:Nat):sh (.mk 2 s n [] f t a)=s.toList:=by simp[sh,qcb,prL,qa4]
theorem sh_of(s:BA)(n:Nat)(x y:Nd)(f t a:Nat):sh (.mk 14 s n [x,y] f t a)=40::(sh x++([32,58,32]++(sh y++[41]))):=by simp[sh,qcb,prL,gP]
theorem sh_call(s:BA)(n:Nat)(x y:Nd)(f t a:Nat):sh (.mk 8 s n [x,y] f t a)=atW x 3++(32::atW y 4):=by rw[atW_at x 3 (by omega),atW_at y 4 (by omega)];simp[sh,qcb,prL,gP]
theorem sh_fn(s:BA)(n:Nat)(x:Nd)(f t a:Nat):sh (.mk 9 s n [x] f t a)=[102,117,110,32]++(s.toList++([32,45,62,32]++sh x)):=by simp[sh,qcb,prL,gP]
theorem sh_if(s:BA)(n:Nat)(x y z:Nd)(f t a:Nat):sh (.mk 12 s n [x,y,z] f t a)=[105,102,32]++(sh x++([32,116,104,101,110,32]++(sh y++([32,101,108,115,101,32]++sh z)))):=by simp[sh,qcb,prL,gP]
theorem sh_let(c:Nat)(hc:c=10\/c=11)(s:BA)(n:Nat)(x z:Nd)(f t a:Nat):sh (.mk c s n [x,z] f t a)=letS (c==11) s.toList (sh x)++([32,105,110,32]++sh z):=by rcases hc with rfl|rfl<;>simp[sh,qcb,prL,gP,letS]
section
variable {w:World}
def AtomEC(nd:Nd):Prop:=∀(w:World)(B pb:Nat)(bv:Value)(l:List UInt8)(last:BA)(mv:Value)(Q:Nat->Prop)(v:Value),PN w B pb bv l last mv->PE w Q nd v->NT w pb Q->PM w pb mv->(l++(sep last++sh nd)).length<=800000->B<=pb->
 Calls Tryz.prog 352 #[.pointer (some ⟨pb,0,none⟩),v] w (qcc B pb mv (l++(sep last++sh nd)) w)
theorem atomE_low(s:BA)(n f t a:Nat)(hss:s.size<=1000):AtomEC (.mk 1 s n [] f t a):=by
 intro w B pb bv l last mv Q v h hp hq hm hl hB
 cases hp with
 |low s n f t a hs=>
 have esh:=sh_low s n f t a
 rw[esh]at hl⊢
 simp only[lqa,lqc,lqn]at hl
 have ha0:=taExpr_Low_Low
 obtain⟨n1,n2,n3⟩:=low_ne hs
 have hfi:=fine_low hs
 have hbW:Below w.heap.size w (w.alloc (.cells #[.int .i64 (f:Int),.int .i64 (t:Int),.string s] 466)):=(bw (.cells #[.int .i64 (f:Int),.int .i64 (t:Int),.string s] 466))
 have zW:(w.alloc (.cells #[.int .i64 (f:Int),.int .i64 (t:Int),.string s] 466)).heap.size=w.heap.size+1:=by simp
 have FW:=FN.of (B:=B) (pb:=pb) hbW
 have hzp:=h.lt
 have N0:=ai (h.bel hbW)
 have F0:=ai (FN.refl B pb (w.alloc (.cells #[.int .i64 (f:Int),.int .i64 (t:Int),.string s] 466)))
 have BXb:=ai (Bx.at w #[.int .i64 (f:Int),.int .i64 (t:Int),.string s] 466 (w.heap.size) (by simp))
 have HM:=ai (hm.fn FW)
 clear hm
 have HQ:=ai (hq.fn FW)
 clear h hq
 go_enter Tryz.func352,Tryz.ntmps352
 have zp1:=(uh N0).lt
 rw[zW]at zp1
 have hb1:Below (w.alloc (.cells #[.int .i64 (f:Int),.int .i64 (t:Int),.string s] 466)).heap.size (w.alloc (.cells #[.int .i64 (f:Int),.int .i64 (t:Int),.string s] 466)) ((w.alloc (.cells #[.int .i64 (f:Int),.int .i64 (t:Int),.string s] 466)).alloc (.cells #[.string s] 9)):=bw _
 have eT1:qbs l last [s]=(l++(sep last++s.toList)):=by
  show(putL' l last s)=_
  rw[qav rfl n1 n2 n3]
 have HP1:=qbl ((uh N0).bel hb1) [s] (by intro t ht;simp only[List.mem_cons,List.not_mem_nil,or_false]at ht;rcases ht with rfl<;>first|decide|assumption) (by simp) (by first|omega|(simp only[lqa,lqc,lqn];omega)) (w.heap.size+1) (Bx.at (w.alloc (.cells #[.int .i64 (f:Int),.int .i64 (t:Int),.string s] 466)) #[.string s] 9 (w.heap.size+1) (by simp)) (by omega) (Or.inr ((Bx.at (w.alloc (.cells #[.int .i64 (f:Int),.int .i64 (t:Int),.string s] 466)) #[.string s] 9 (w.heap.size+1) (by simp)).nby (by intro x hx c;simp at hx;subst hx;intro q;cases q)))
 rw[eT1]at HP1
 go_wp2_with fail
 refine HP1.mono ?_
 rintro e w1⟨rfl,bvw1,hN,hF⟩
 have N2:Hid (PN w1 B pb bvw1 (l++(sep last++s.toList)) s mv):=ai hN
 have F3:=ai ((uh F0).trans ((FN.of hb1).trans hF))
 have zw1:=(uh F3).size
 rw[zW]at zw1
 clear hN hF HP1 hb1 eT1 N0 F0
 go_wp2_with fail
 go_end0
 refine⟨rfl,bvw1,s,?_,hfi,FW.trans (uh F3)⟩
 show PN w1 B pb bvw1 (l++(sep last++s.toList)) s mv
 rw[show l++(sep last++s.toList)=(l++(sep last++s.toList)) by simp]
 exact uh N2
theorem atomE_up(s:BA)(n f t a:Nat)(hss:s.size<=1000):AtomEC (.mk 2 s n [] f t a):=by
 intro w B pb bv l last mv Q v h hp hq hm hl hB
 cases hp with
 |up s n f t a hs=>
 have esh:=sh_upE s n f t a
 rw[esh]at hl⊢
 simp only[lqa,lqc,lqn]at hl
 have ha0:=taExpr_Up_Low
 have ha1:=taExpr_Up_Up
 obtain⟨n1,n2,n3⟩:=up_ne hs
 have hfi:=fine_up hs
 have hbW:Below w.heap.size w (w.alloc (.cells #[.int .i64 (f:Int),.int .i64 (t:Int),.string s] 513)):=(bw (.cells #[.int .i64 (f:Int),.int .i64 (t:Int),.string s] 513))
 have zW:(w.alloc (.cells #[.int .i64 (f:Int),.int .i64 (t:Int),.string s] 513)).heap.size=w.heap.size+1:=by simp
 have FW:=FN.of (B:=B) (pb:=pb) hbW
 have hzp:=h.lt
 have N0:=ai (h.bel hbW)
 have F0:=ai (FN.refl B pb (w.alloc (.cells #[.int .i64 (f:Int),.int .i64 (t:Int),.string s] 513)))
 have BXb:=ai (Bx.at w #[.int .i64 (f:Int),.int .i64 (t:Int),.string s] 513 (w.heap.size) (by simp))
 have HM:=ai (hm.fn FW)
 clear hm
 have HQ:=ai (hq.fn FW)
 clear h hq
 go_enter Tryz.func352,Tryz.ntmps352
 have zp1:=(uh N0).lt
 rw[zW]at zp1
 have hb1:Below (w.alloc (.cells #[.int .i64 (f:Int),.int .i64 (t:Int),.string s] 513)).heap.size (w.alloc (.cells #[.int .i64 (f:Int),.int .i64 (t:Int),.string s] 513)) ((w.alloc (.cells #[.int .i64 (f:Int),.int .i64 (t:Int),.string s] 513)).alloc (.cells #[.string s] 9)):=bw _
 have eT1:qbs l last [s]=(l++(sep last++s.toList)):=by
  show(putL' l last s)=_
  rw[qav rfl n1 n2 n3]
 have HP1:=qbl ((uh N0).bel hb1) [s] (by intro t ht;simp only[List.mem_cons,List.not_mem_nil,or_false]at ht;rcases ht with rfl<;>first|decide|assumption) (by simp) (by first|omega|(simp only[lqa,lqc,lqn];omega)) (w.heap.size+1) (Bx.at (w.alloc (.cells #[.int .i64 (f:Int),.int .i64 (t:Int),.string s] 513)) #[.string s] 9 (w.heap.size+1) (by simp)) (by omega) (Or.inr ((Bx.at (w.alloc (.cells #[.int .i64 (f:Int),.int .i64 (t:Int),.string s] 513)) #[.string s] 9 (w.heap.size+1) (by simp)).nby (by intro x hx c;simp at hx;subst hx;intro q;cases q)))
 rw[eT1]at HP1
 go_wp2_with fail
 refine HP1.mono ?_
 rintro e w1⟨rfl,bvw1,hN,hF⟩
 have N2:Hid (PN w1 B pb bvw1 (l++(sep last++s.toList)) s mv):=ai hN
 have F3:=ai ((uh F0).trans ((FN.of hb1).trans hF))
 have zw1:=(uh F3).size
 rw[zW]at zw1
 clear hN hF HP1 hb1 eT1 N0 F0
 go_wp2_with fail
 go_end0
 refine⟨rfl,bvw1,s,?_,hfi,FW.trans (uh F3)⟩
 show PN w1 B pb bvw1 (l++(sep last++s.toList)) s mv
 rw[show l++(sep last++s.toList)=(l++(sep last++s.toList)) by simp]
 exact uh N2
theorem atomE_unit(s:BA)(n f t a:Nat):AtomEC (.mk 5 s n [] f t a):=by
 intro w B pb bv l last mv Q v h hp hq hm hl hB
 cases hp with
 |unit s n f t a=>
 have esh:=sh_unit s n f t a
 rw[esh]at hl⊢
 simp only[lqa,lqc,lqn]at hl
 have ha0:=taExpr_Unit_Low
 have ha1:=taExpr_Unit_Up
 have ha2:=taExpr_Unit_Number
 have ha3:=taExpr_Unit_Bool
 have ha4:=taExpr_Unit_Unit
 have hbW:Below w.heap.size w (w.alloc (.cells #[.int .i64 (f:Int),.int .i64 (t:Int)] 429)):=(bw (.cells #[.int .i64 (f:Int),.int .i64 (t:Int)] 429))
 have zW:(w.alloc (.cells #[.int .i64 (f:Int),.int .i64 (t:Int)] 429)).heap.size=w.heap.size+1:=by simp
 have FW:=FN.of (B:=B) (pb:=pb) hbW
 have hzp:=h.lt
 have N0:=ai (h.bel hbW)
 have F0:=ai (FN.refl B pb (w.alloc (.cells #[.int .i64 (f:Int),.int .i64 (t:Int)] 429)))
 have BXb:=ai (Bx.at w #[.int .i64 (f:Int),.int .i64 (t:Int)] 429 (w.heap.size) (by simp))
 have HM:=ai (hm.fn FW)
 clear hm
 have HQ:=ai (hq.fn FW)
 clear h hq
 go_enter Tryz.func352,Tryz.ntmps352
 have zp1:=(uh N0).lt
 rw[zW]at zp1
 have hb1:Below (w.alloc (.cells #[.int .i64 (f:Int),.int .i64 (t:Int)] 429)).heap.size (w.alloc (.cells #[.int .i64 (f:Int),.int .i64 (t:Int)] 429)) ((w.alloc (.cells #[.int .i64 (f:Int),.int .i64 (t:Int)] 429)).alloc (.cells #[.string kOpn,.string kClose] 9)):=bw _
 have eT1:qbs l last [kOpn,kClose]=((l++(sep last++[40]))++[41]):=by
  show(putL' (putL' l last kOpn) kOpn kClose)=_
  rw[qav (qab [40]) (by decide) (by decide) (by decide),qey (qab [41]) (by decide)]
 have HP1:=qbl ((uh N0).bel hb1) [kOpn,kClose] (by intro t ht;simp only[List.mem_cons,List.not_mem_nil,or_false]at ht;rcases ht with rfl|rfl<;>first|decide|assumption) (by simp) (by first|omega|(simp only[lqa,lqc,lqn];omega)) (w.heap.size+1) (Bx.at (w.alloc (.cells #[.int .i64 (f:Int),.int .i64 (t:Int)] 429)) #[.string kOpn,.string kClose] 9 (w.heap.size+1) (by simp)) (by omega) (Or.inr ((Bx.at (w.alloc (.cells #[.int .i64 (f:Int),.int .i64 (t:Int)] 429)) #[.string kOpn,.string kClose] 9 (w.heap.size+1) (by simp)).nby (by intro x hx c;simp at hx;subst hx;intro q;cases q)))
 rw[eT1]at HP1
 go_wp2_with fail
 refine HP1.mono ?_
 rintro e w1⟨rfl,bvw1,hN,hF⟩
 have N2:Hid (PN w1 B pb bvw1 ((l++(sep last++[40]))++[41]) kClose mv):=ai hN
 have F3:=ai ((uh F0).trans ((FN.of hb1).trans hF))
 have zw1:=(uh F3).size
 rw[zW]at zw1
 clear hN hF HP1 hb1 eT1 N0 F0
 go_wp2_with fail
 go_end0
 refine⟨rfl,bvw1,kClose,?_,qdt (qab [41]) (by decide) (by decide),FW.trans (uh F3)⟩
 show PN w1 B pb bvw1 (l++(sep last++[40,41])) kClose mv
 rw[show l++(sep last++[40,41])=((l++(sep last++[40]))++[41]) by simp]
 exact uh N2
theorem atomE_word(s:BA)(n f t a:Nat):AtomEC (.mk 4 s n [] f t a):=by
 intro w B pb bv l last mv Q v h hp hq hm hl hB
 cases hp with
 |word s n f t a hs=>
 have esh:=sh_word s n f t a
 rw[esh]at hl⊢
 simp only[lqa,lqc,lqn]at hl
 have ha0:=taExpr_Bool_Low
 have ha1:=taExpr_Bool_Up
 have ha2:=taExpr_Bool_Number
 have ha3:=taExpr_Bool_Bool
 have htl:=tl_of hs
 generalize(s.toList==[116,114,117,101])=bb at htl⊢
 have hws:(qb2 bb).size<=1000:=by unfold qb2;split<;>decide
 have hwn:(qb2 bb).toList≠[41]/\(qb2 bb).toList≠[44]/\(qb2 bb).toList≠[59]/\Fine (qb2 bb):=by
  unfold Fine qb2
  cases bb<;>simp[ByteArray.toList_eq]
 obtain⟨n1,n2,n3,hfi⟩:=hwn
 rw[<-htl]at hl⊢
 clear htl
 have hbW:Below w.heap.size w (w.alloc (.cells #[.int .i64 (f:Int),.int .i64 (t:Int),.bool bb] 426)):=(bw (.cells #[.int .i64 (f:Int),.int .i64 (t:Int),.bool bb] 426))
 have zW:(w.alloc (.cells #[.int .i64 (f:Int),.int .i64 (t:Int),.bool bb] 426)).heap.size=w.heap.size+1:=by simp
 have FW:=FN.of (B:=B) (pb:=pb) hbW
 have hzp:=h.lt
 have N0:=ai (h.bel hbW)
 have F0:=ai (FN.refl B pb (w.alloc (.cells #[.int .i64 (f:Int),.int .i64 (t:Int),.bool bb] 426)))
 have BXb:=ai (Bx.at w #[.int .i64 (f:Int),.int .i64 (t:Int),.bool bb] 426 (w.heap.size) (by simp))
 have HM:=ai (hm.fn FW)
 clear hm
 have HQ:=ai (hq.fn FW)
 clear h hq
 go_enter Tryz.func352,Tryz.ntmps352
 go_wp2_with fail
 refine(formatBool_C bb).mono ?_
 rintro e w'⟨rfl,rfl⟩
 have zp1:=(uh N0).lt
 rw[zW]at zp1
 have hb1:Below (w.alloc (.cells #[.int .i64 (f:Int),.int .i64 (t:Int),.bool bb] 426)).heap.size (w.alloc (.cells #[.int .i64 (f:Int),.int .i64 (t:Int),.bool bb] 426)) ((w.alloc (.cells #[.int .i64 (f:Int),.int .i64 (t:Int),.bool bb] 426)).alloc (.cells #[.string (qb2 bb)] 9)):=bw _
 have eT1:qbs l last [(qb2 bb)]=(l++(sep last++(qb2 bb).toList)):=by
  show(putL' l last (qb2 bb))=_
  rw[qav rfl n1 n2 n3]
 have HP1:=qbl ((uh N0).bel hb1) [(qb2 bb)] (by intro t ht;simp only[List.mem_cons,List.not_mem_nil,or_false]at ht;rcases ht with rfl<;>first|decide|assumption) (by simp) (by first|omega|(simp only[lqa,lqc,lqn];omega)) (w.heap.size+1) (Bx.at (w.alloc (.cells #[.int .i64 (f:Int),.int .i64 (t:Int),.bool bb] 426)) #[.string (qb2 bb)] 9 (w.heap.size+1) (by simp)) (by omega) (Or.inr ((Bx.at (w.alloc (.cells #[.int .i64 (f:Int),.int .i64 (t:Int),.bool bb] 426)) #[.string (qb2 bb)] 9 (w.heap.size+1) (by simp)).nby (by intro x hx c;simp at hx;subst hx;intro q;cases q)))
 rw[eT1]at HP1
 go_wp2_with fail
 refine HP1.mono ?_
 rintro e w1⟨rfl,bvw1,hN,hF⟩
 have N2:Hid (PN w1 B pb bvw1 (l++(sep last++(qb2 bb).toList)) (qb2 bb) mv):=ai hN
 have F3:=ai ((uh F0).trans ((FN.of hb1).trans hF))
 have zw1:=(uh F3).size
 rw[zW]at zw1
 clear hN hF HP1 hb1 eT1 N0 F0
 go_wp2_with fail
 go_end0
 refine⟨rfl,bvw1,(qb2 bb),?_,hfi,FW.trans (uh F3)⟩
 show PN w1 B pb bvw1 (l++(sep last++(qb2 bb).toList)) (qb2 bb) mv
 rw[show l++(sep last++(qb2 bb).toList)=(l++(sep last++(qb2 bb).toList)) by simp]
 exact uh N2
theorem atomE_num(s:BA)(n f t a:Nat)(HI:ItoaC)(hn:n<1000000000):AtomEC (.mk 3 s n [] f t a):=by
 intro w B pb bv l last mv Q v h hp hq hm hl hB
 cases hp with
 |num s n f t a=>
 have esh:=sh_num s n f t a
 rw[esh]at hl⊢
 simp only[lqa,lqc,lqn]at hl
 have ha0:=taExpr_Number_Low
 have ha1:=taExpr_Number_Up
 have ha2:=taExpr_Number_Number
 obtain⟨n1,n2,n3,n4,n5⟩:=dec_ne n
 have hfi:Fine (bs (dec n)):=by unfold Fine;rw[bs_list];exact⟨n4,n5⟩
 rw[<-bs_list (dec n)]at n1 n2 n3
 have hds:(bs (dec n)).size<=1000:=by rw[qa5];have:=dec_pow 8 n (by omega);omega
 have hbW:Below w.heap.size w (w.alloc (.cells #[.int .i64 (f:Int),.int .i64 (t:Int),.int .i64 (n:Int)] 431)):=(bw (.cells #[.int .i64 (f:Int),.int .i64 (t:Int),.int .i64 (n:Int)] 431))
 have zW:(w.alloc (.cells #[.int .i64 (f:Int),.int .i64 (t:Int),.int .i64 (n:Int)] 431)).heap.size=w.heap.size+1:=by simp
 have FW:=FN.of (B:=B) (pb:=pb) hbW
 have hzp:=h.lt
 have N0:=ai (h.bel hbW)
 have F0:=ai (FN.refl B pb (w.alloc (.cells #[.int .i64 (f:Int),.int .i64 (t:Int),.int .i64 (n:Int)] 431)))
 have BXb:=ai (Bx.at w #[.int .i64 (f:Int),.int .i64 (t:Int),.int .i64 (n:Int)] 431 (w.heap.size) (by simp))
 have HM:=ai (hm.fn FW)
 clear hm
 have HQ:=ai (hq.fn FW)
 clear h hq
 go_enter Tryz.func352,Tryz.ntmps352
 go_wp2_with fail
 refine(HI _ n hn (uh HQ).p).mono ?_
 rintro e wi⟨rfl,hbi⟩
 have Ni:=ai ((uh N0).bel hbi)
 have Fi:=ai ((uh F0).trans (FN.of hbi))
 have zi:=hbi.size
 rw[zW]at zi
 clear N0 F0 hbi
 have zp1:=(uh Ni).lt
 have hb1:Below wi.heap.size wi (wi.alloc (.cells #[.string (bs (dec n))] 9)):=bw _
 have eT1:qbs l last [(bs (dec n))]=(l++(sep last++(bs (dec n)).toList)):=by
  show(putL' l last (bs (dec n)))=_
  rw[qav rfl n1 n2 n3]
 have HP1:=qbl ((uh Ni).bel hb1) [(bs (dec n))] (by intro t ht;simp only[List.mem_cons,List.not_mem_nil,or_false]at ht;rcases ht with rfl<;>first|decide|assumption) (by simp) (by first|omega|(simp only[lqa,lqc,lqn];omega)) (wi.heap.size) (Bx.at wi #[.string (bs (dec n))] 9 (wi.heap.size) (by simp)) (by omega) (Or.inr ((Bx.at wi #[.string (bs (dec n))] 9 (wi.heap.size) (by simp)).nby (by intro x hx c;simp at hx;subst hx;intro q;cases q)))
 rw[eT1]at HP1
 go_wp2_with fail
 refine HP1.mono ?_
 rintro e w1⟨rfl,bvw1,hN,hF⟩
 have N2:Hid (PN w1 B pb bvw1 (l++(sep last++(bs (dec n)).toList)) (bs (dec n)) mv):=ai hN
 have F3:=ai ((uh Fi).trans ((FN.of hb1).trans hF))
 have zw1:=(uh F3).size
 rw[zW]at zw1
 clear hN hF HP1 hb1 eT1 Ni Fi
 go_wp2_with fail
 go_end0
 refine⟨rfl,bvw1,(bs (dec n)),?_,hfi,FW.trans (uh F3)⟩
 show PN w1 B pb bvw1 (l++(sep last++dec n)) (bs (dec n)) mv
 rw[show l++(sep last++dec n)=(l++(sep last++(bs (dec n)).toList)) by rw[bs_list]]
 exact uh N2
theorem atomE_pr(s:BA)(n:Nat)(x y:Nd)(f t a:Nat)(Hx:AtEC x)(Hy:AtEC y):AtomEC (.mk 6 s n [x,y] f t a):=by
 intro w B pb bv l last mv Q v h hp hq hm hl hB
 cases hp with
 |lt=>rename_i hc _ _ _ _;exfalso;omega|pr s n x y f t a vx vy hx hy=>
 have hx0:=hx
 obtain⟨tx,xx,rfl⟩:=hx.iface
 have hy0:=hy
 obtain⟨ty,xy,rfl⟩:=hy.iface
 have esh:=sh_pr s n x y f t a
 rw[esh]at hl⊢
 simp only[lqa,lqc,lqn]at hl
 have ha0:=taExpr_Pair_Low
 have ha1:=taExpr_Pair_Up
 have ha2:=taExpr_Pair_Number
 have ha3:=taExpr_Pair_Bool
 have ha4:=taExpr_Pair_Unit
 have ha5:=taExpr_Pair_Pair
 have hbW:Below w.heap.size w (w.alloc (.cells #[.int .i64 (f:Int),.int .i64 (t:Int),.iface tx (.agg xx),.iface ty (.agg xy)] 412)):=(bw (.cells #[.int .i64 (f:Int),.int .i64 (t:Int),.iface tx (.agg xx),.iface ty (.agg xy)] 412))
 have zW:(w.alloc (.cells #[.int .i64 (f:Int),.int .i64 (t:Int),.iface tx (.agg xx),.iface ty (.agg xy)] 412)).heap.size=w.heap.size+1:=by simp
 have FW:=FN.of (B:=B) (pb:=pb) hbW
 have hzp:=h.lt
 have N0:=ai (h.bel hbW)
 have F0:=ai (FN.refl B pb (w.alloc (.cells #[.int .i64 (f:Int),.int .i64 (t:Int),.iface tx (.agg xx),.iface ty (.agg xy)] 412)))
 have BXb:=ai (Bx.at w #[.int .i64 (f:Int),.int .i64 (t:Int),.iface tx (.agg xx),.iface ty (.agg xy)] 412 (w.heap.size) (by simp))
 have Vx:=ai (hx0.bel hbW)
 have Vy:=ai (hy0.bel hbW)
 have HM:=ai (hm.fn FW)
 clear hm
 have HQ:=ai (hq.fn FW)
 clear h hq
 go_enter Tryz.func352,Tryz.ntmps352
 have zp1:=(uh N0).lt
 rw[zW]at zp1
 have hb1:Below (w.alloc (.cells #[.int .i64 (f:Int),.int .i64 (t:Int),.iface tx (.agg xx),.iface ty (.agg xy)] 412)).heap.size (w.alloc (.cells #[.int .i64 (f:Int),.int .i64 (t:Int),.iface tx (.agg xx),.iface ty (.agg xy)] 412)) ((w.alloc (.cells #[.int .i64 (f:Int),.int .i64 (t:Int),.iface tx (.agg xx),.iface ty (.agg xy)] 412)).alloc (.cells #[.string kOpn] 9)):=bw _
 have eT1:qbs l last [kOpn]=(l++(sep last++[40])):=by
  show(putL' l last kOpn)=_
  rw[qav (qab [40]) (by decide) (by decide) (by decide)]
 have HP1:=qbl ((uh N0).bel hb1) [kOpn] (by intro t ht;simp only[List.mem_cons,List.not_mem_nil,or_false]at ht;rcases ht with rfl<;>first|decide|assumption) (by simp) (by first|omega|(simp only[lqa,lqc,lqn];omega)) (w.heap.size+1) (Bx.at (w.alloc (.cells #[.int .i64 (f:Int),.int .i64 (t:Int),.iface tx (.agg xx),.iface ty (.agg xy)] 412)) #[.string kOpn] 9 (w.heap.size+1) (by simp)) (by omega) (Or.inr ((Bx.at (w.alloc (.cells #[.int .i64 (f:Int),.int .i64 (t:Int),.iface tx (.agg xx),.iface ty (.agg xy)] 412)) #[.string kOpn] 9 (w.heap.size+1) (by simp)).nby (by intro x hx c;simp at hx;subst hx;intro q;cases q)))
 rw[eT1]at HP1
 go_wp2_with fail
 refine HP1.mono ?_
 rintro e w1⟨rfl,bvw1,hN,hF⟩
 have N2:Hid (PN w1 B pb bvw1 (l++(sep last++[40])) kOpn mv):=ai hN
 have F3:=ai ((uh F0).trans ((FN.of hb1).trans hF))
 have zw1:=(uh F3).size
 rw[zW]at zw1
 clear hN hF HP1 hb1 eT1 N0 F0
 obtain⟨c4,fc4,zc4⟩:=(uh F3).pn_ne (uh BXb) (by omega) (by intro x hx c;simp at hx;subst hx;intro q;cases q)
 have HS5:=Hx w1 B pb _ _ kOpn mv Q _ 0 (uh N2) ((uh Vx).fnQ (uh HQ) (uh F3)) ((uh HQ).fn (uh F3)) ((uh HM).fn (uh F3)) (by omega) (by rw[sep_opn];rw[qd6];simp only[lqa,lqc,lqn];omega) hB
 rw[sep_opn]at HS5
 rw[qd6]at HS5
 go_wp2_with fail
 clear c4 fc4 zc4
 refine HS5.mono ?_
 rintro e w2⟨rfl,bvw2,lastw2,hN,fiw2,hF⟩
 have N6:=ai hN
 have F7:=ai ((uh F3).trans hF)
 have zw2:=(uh F7).size
 rw[zW]at zw2
 clear hN hF HS5 N2 F3
 have zp8:=(uh N6).lt
 have hb8:Below w2.heap.size w2 (w2.alloc (.cells #[.string kComma] 9)):=bw _
 have eT8:qbs ((l++(sep last++[40]))++([]++sh x)) lastw2 [kComma]=(((l++(sep last++[40]))++([]++sh x))++[44]):=by
  show(putL' ((l++(sep last++[40]))++([]++sh x)) lastw2 kComma)=_
  rw[qey (qab [44]) (by decide)]
 have HP8:=qbl ((uh N6).bel hb8) [kComma] (by intro t ht;simp only[List.mem_cons,List.not_mem_nil,or_false]at ht;rcases ht with rfl<;>first|decide|assumption) (by simp) (by first|omega|(simp only[lqa,lqc,lqn];omega)) (w2.heap.size) (Bx.at w2 #[.string kComma] 9 (w2.heap.size) (by simp)) (by omega) (Or.inr ((Bx.at w2 #[.string kComma] 9 (w2.heap.size) (by simp)).nby (by intro x hx c;simp at hx;subst hx;intro q;cases q)))
 rw[eT8]at HP8
 go_wp2_with fail
 refine HP8.mono ?_
 rintro e w3⟨rfl,bvw3,hN,hF⟩
 have N9:Hid (PN w3 B pb bvw3 (((l++(sep last++[40]))++([]++sh x))++[44]) kComma mv):=ai hN
 have F10:=ai ((uh F7).trans ((FN.of hb8).trans hF))
 have zw3:=(uh F10).size
 rw[zW]at zw3
 clear hN hF HP8 hb8 eT8 N6 F7
 obtain⟨c11,fc11,zc11⟩:=(uh F10).pn_ne (uh BXb) (by omega) (by intro x hx c;simp at hx;subst hx;intro q;cases q)
 have HS12:=Hy w3 B pb _ _ kComma mv Q _ 0 (uh N9) ((uh Vy).fnQ (uh HQ) (uh F10)) ((uh HQ).fn (uh F10)) ((uh HM).fn (uh F10)) (by omega) (by rw[qb7 (qab [44]) (by decide) (by decide)];rw[qd6];simp only[lqa,lqc,lqn];omega) hB
 rw[qb7 (qab [44]) (by decide) (by decide)]at HS12
 rw[qd6]at HS12
 go_wp2_with fail
 clear c11 fc11 zc11
 refine HS12.mono ?_
 rintro e w4⟨rfl,bvw4,lastw4,hN,fiw4,hF⟩
 have N13:=ai hN
 have F14:=ai ((uh F10).trans hF)
 have zw4:=(uh F14).size
 rw[zW]at zw4
 clear hN hF HS12 N9 F10
 have zp15:=(uh N13).lt
 have hb15:Below w4.heap.size w4 (w4.alloc (.cells #[.string kClose] 9)):=bw _
 have eT15:qbs ((((l++(sep last++[40]))++([]++sh x))++[44])++([32]++sh y)) lastw4 [kClose]=(((((l++(sep last++[40]))++([]++sh x))++[44])++([32]++sh y))++[41]):=by
  show(putL' ((((l++(sep last++[40]))++([]++sh x))++[44])++([32]++sh y)) lastw4 kClose)=_
  rw[qey (qab [41]) (by decide)]
 have HP15:=qbl ((uh N13).bel hb15) [kClose] (by intro t ht;simp only[List.mem_cons,List.not_mem_nil,or_false]at ht;rcases ht with rfl<;>first|decide|assumption) (by simp) (by first|omega|(simp only[lqa,lqc,lqn];omega)) (w4.heap.size) (Bx.at w4 #[.string kClose] 9 (w4.heap.size) (by simp)) (by omega) (Or.inr ((Bx.at w4 #[.string kClose] 9 (w4.heap.size) (by simp)).nby (by intro x hx c;simp at hx;subst hx;intro q;cases q)))
 rw[eT15]at HP15
 go_wp2_with fail
 refine HP15.mono ?_
 rintro e w5⟨rfl,bvw5,hN,hF⟩
 have N16:Hid (PN w5 B pb bvw5 (((((l++(sep last++[40]))++([]++sh x))++[44])++([32]++sh y))++[41]) kClose mv):=ai hN
 have F17:=ai ((uh F14).trans ((FN.of hb15).trans hF))
 have zw5:=(uh F17).size
 rw[zW]at zw5
 clear hN hF HP15 hb15 eT15 N13 F14
 go_wp2_with fail
 go_end0
 refine⟨rfl,bvw5,kClose,?_,qdt (qab [41]) (by decide) (by decide),FW.trans (uh F17)⟩
 show PN w5 B pb bvw5 (l++(sep last++40::(sh x++([44,32]++(sh y++[41]))))) kClose mv
 rw[show l++(sep last++40::(sh x++([44,32]++(sh y++[41]))))=(((((l++(sep last++[40]))++([]++sh x))++[44])++([32]++sh y))++[41]) by simp]
 exact uh N16
theorem atomE_of(s:BA)(n:Nat)(x y:Nd)(f t a:Nat)(Hx:AtEC x)(Hy:AtC y):AtomEC (.mk 14 s n [x,y] f t a):=by
 intro w B pb bv l last mv Q v h hp hq hm hl hB
 cases hp with
 |lt=>rename_i hc _ _ _ _;exfalso;omega|of s n x y f t a vx vy hx hy=>
 have hx0:=hx
 obtain⟨tx,xx,rfl⟩:=hx.iface
 have hy0:=hy
 obtain⟨ty,xy,rfl⟩:=hy.iface
 have esh:=sh_of s n x y f t a
 rw[esh]at hl⊢
 simp only[lqa,lqc,lqn]at hl
 have ha0:=taExpr_Typed_Low
 have ha1:=taExpr_Typed_Up
 have ha2:=taExpr_Typed_Number
 have ha3:=taExpr_Typed_Bool
 have ha4:=taExpr_Typed_Unit
 have ha5:=taExpr_Typed_Pair
 have ha6:=taExpr_Typed_Typed
 have hT0:=hy0.sh3.1
 rw[<-hT0]at hl⊢
 have HT0:=ai hT0
 clear hT0
 have hbW:Below w.heap.size w (w.alloc (.cells #[.int .i64 (f:Int),.int .i64 (t:Int),.iface tx (.agg xx),.iface ty (.agg xy)] 414)):=(bw (.cells #[.int .i64 (f:Int),.int .i64 (t:Int),.iface tx (.agg xx),.iface ty (.agg xy)] 414))
 have zW:(w.alloc (.cells #[.int .i64 (f:Int),.int .i64 (t:Int),.iface tx (.agg xx),.iface ty (.agg xy)] 414)).heap.size=w.heap.size+1:=by simp
 have FW:=FN.of (B:=B) (pb:=pb) hbW
 have hzp:=h.lt
 have N0:=ai (h.bel hbW)
 have F0:=ai (FN.refl B pb (w.alloc (.cells #[.int .i64 (f:Int),.int .i64 (t:Int),.iface tx (.agg xx),.iface ty (.agg xy)] 414)))
 have BXb:=ai (Bx.at w #[.int .i64 (f:Int),.int .i64 (t:Int),.iface tx (.agg xx),.iface ty (.agg xy)] 414 (w.heap.size) (by simp))
 have Vx:=ai (hx0.bel hbW)
 have Vy:=ai (hy0.bel hbW)
 have HM:=ai (hm.fn FW)
 clear hm
 have HQ:=ai (hq.fn FW)
 clear h hq
 go_enter Tryz.func352,Tryz.ntmps352
 have zp1:=(uh N0).lt
 rw[zW]at zp1
 have hb1:Below (w.alloc (.cells #[.int .i64 (f:Int),.int .i64 (t:Int),.iface tx (.agg xx),.iface ty (.agg xy)] 414)).heap.size (w.alloc (.cells #[.int .i64 (f:Int),.int .i64 (t:Int),.iface tx (.agg xx),.iface ty (.agg xy)] 414)) ((w.alloc (.cells #[.int .i64 (f:Int),.int .i64 (t:Int),.iface tx (.agg xx),.iface ty (.agg xy)] 414)).alloc (.cells #[.string kOpn] 9)):=bw _
 have eT1:qbs l last [kOpn]=(l++(sep last++[40])):=by
  show(putL' l last kOpn)=_
  rw[qav (qab [40]) (by decide) (by decide) (by decide)]
 have HP1:=qbl ((uh N0).bel hb1) [kOpn] (by intro t ht;simp only[List.mem_cons,List.not_mem_nil,or_false]at ht;rcases ht with rfl<;>first|decide|assumption) (by simp) (by first|omega|(simp only[lqa,lqc,lqn];omega)) (w.heap.size+1) (Bx.at (w.alloc (.cells #[.int .i64 (f:Int),.int .i64 (t:Int),.iface tx (.agg xx),.iface ty (.agg xy)] 414)) #[.string kOpn] 9 (w.heap.size+1) (by simp)) (by omega) (Or.inr ((Bx.at (w.alloc (.cells #[.int .i64 (f:Int),.int .i64 (t:Int),.iface tx (.agg xx),.iface ty (.agg xy)] 414)) #[.string kOpn] 9 (w.heap.size+1) (by simp)).nby (by intro x hx c;simp at hx;subst hx;intro q;cases q)))
 rw[eT1]at HP1
 go_wp2_with fail
 refine HP1.mono ?_
 rintro e w1⟨rfl,bvw1,hN,hF⟩
 have N2:Hid (PN w1 B pb bvw1 (l++(sep last++[40])) kOpn mv):=ai hN
 have F3:=ai ((uh F0).trans ((FN.of hb1).trans hF))
 have zw1:=(uh F3).size
 rw[zW]at zw1
 clear hN hF HP1 hb1 eT1 N0 F0
 obtain⟨c4,fc4,zc4⟩:=(uh F3).pn_ne (uh BXb) (by omega) (by intro x hx c;simp at hx;subst hx;intro q;cases q)
 have HS5:=Hx w1 B pb _ _ kOpn mv Q _ 0 (uh N2) ((uh Vx).fnQ (uh HQ) (uh F3)) ((uh HQ).fn (uh F3)) ((uh HM).fn (uh F3)) (by omega) (by rw[sep_opn];rw[qd6];simp only[lqa,lqc,lqn];omega) hB
 rw[sep_opn]at HS5
 rw[qd6]at HS5
 go_wp2_with fail
 clear c4 fc4 zc4
 refine HS5.mono ?_
 rintro e w2⟨rfl,bvw2,lastw2,hN,fiw2,hF⟩
 have N6:=ai hN
 have F7:=ai ((uh F3).trans hF)
 have zw2:=(uh F7).size
 rw[zW]at zw2
 clear hN hF HS5 N2 F3
 have zp8:=(uh N6).lt
 have hb8:Below w2.heap.size w2 (w2.alloc (.cells #[.string qcx] 9)):=bw _
 have eT8:qbs ((l++(sep last++[40]))++([]++sh x)) lastw2 [qcx]=(((l++(sep last++[40]))++([]++sh x))++([32]++[58])):=by
  show(putL' ((l++(sep last++[40]))++([]++sh x)) lastw2 qcx)=_
  rw[qav (qab [58]) (by decide) (by decide) (by decide),qba fiw2]
 have HP8:=qbl ((uh N6).bel hb8) [qcx] (by intro t ht;simp only[List.mem_cons,List.not_mem_nil,or_false]at ht;rcases ht with rfl<;>first|decide|assumption) (by simp) (by first|omega|(simp only[lqa,lqc,lqn];omega)) (w2.heap.size) (Bx.at w2 #[.string qcx] 9 (w2.heap.size) (by simp)) (by omega) (Or.inr ((Bx.at w2 #[.string qcx] 9 (w2.heap.size) (by simp)).nby (by intro x hx c;simp at hx;subst hx;intro q;cases q)))
 rw[eT8]at HP8
 go_wp2_with fail
 refine HP8.mono ?_
 rintro e w3⟨rfl,bvw3,hN,hF⟩
 have N9:Hid (PN w3 B pb bvw3 (((l++(sep last++[40]))++([]++sh x))++([32]++[58])) qcx mv):=ai hN
 have F10:=ai ((uh F7).trans ((FN.of hb8).trans hF))
 have zw3:=(uh F10).size
 rw[zW]at zw3
 clear hN hF HP8 hb8 eT8 N6 F7
 obtain⟨c11,fc11,zc11⟩:=(uh F10).pn_ne (uh BXb) (by omega) (by intro x hx c;simp at hx;subst hx;intro q;cases q)
 have HS12:=Hy w3 B pb _ _ qcx mv Q _ 0 (uh N9) ((uh Vy).fnQ (uh HQ).q (uh F10)) ((uh HQ).fn (uh F10)).q (by omega) (by rw[qb7 (qab [58]) (by decide) (by decide)];simp only[lqa,lqc,lqn];omega) hB
 rw[qb7 (qab [58]) (by decide) (by decide)]at HS12
 go_wp2_with fail
 clear c11 fc11 zc11
 refine HS12.mono ?_
 rintro e w4⟨rfl,bvw4,lastw4,hN,fiw4,hF⟩
 have N13:=ai hN
 have F14:=ai ((uh F10).trans hF)
 have zw4:=(uh F14).size
 rw[zW]at zw4
 clear hN hF HS12 N9 F10
 have zp15:=(uh N13).lt
 have hb15:Below w4.heap.size w4 (w4.alloc (.cells #[.string kClose] 9)):=bw _
 have eT15:qbs ((((l++(sep last++[40]))++([]++sh x))++([32]++[58]))++([32]++wT y 0)) lastw4 [kClose]=(((((l++(sep last++[40]))++([]++sh x))++([32]++[58]))++([32]++wT y 0))++[41]):=by
  show(putL' ((((l++(sep last++[40]))++([]++sh x))++([32]++[58]))++([32]++wT y 0)) lastw4 kClose)=_
  rw[qey (qab [41]) (by decide)]
 have HP15:=qbl ((uh N13).bel hb15) [kClose] (by intro t ht;simp only[List.mem_cons,List.not_mem_nil,or_false]at ht;rcases ht with rfl<;>first|decide|assumption) (by simp) (by first|omega|(simp only[lqa,lqc,lqn];omega)) (w4.heap.size) (Bx.at w4 #[.string kClose] 9 (w4.heap.size) (by simp)) (by omega) (Or.inr ((Bx.at w4 #[.string kClose] 9 (w4.heap.size) (by simp)).nby (by intro x hx c;simp at hx;subst hx;intro q;cases q)))
 rw[eT15]at HP15
 go_wp2_with fail
 refine HP15.mono ?_
 rintro e w5⟨rfl,bvw5,hN,hF⟩
 have N16:Hid (PN w5 B pb bvw5 (((((l++(sep last++[40]))++([]++sh x))++([32]++[58]))++([32]++wT y 0))++[41]) kClose mv):=ai hN
 have F17:=ai ((uh F14).trans ((FN.of hb15).trans hF))
 have zw5:=(uh F17).size
 rw[zW]at zw5
 clear hN hF HP15 hb15 eT15 N13 F14
 go_wp2_with fail
 go_end0
 refine⟨rfl,bvw5,kClose,?_,qdt (qab [41]) (by decide) (by decide),FW.trans (uh F17)⟩
 show PN w5 B pb bvw5 (l++(sep last++40::(sh x++([32,58,32]++(wT y 0++[41]))))) kClose mv
 rw[show l++(sep last++40::(sh x++([32,58,32]++(wT y 0++[41]))))=(((((l++(sep last++[40]))++([]++sh x))++([32]++[58]))++([32]++wT y 0))++[41]) by simp]
 exact uh N16
theorem bareE_atom{nd:Nd}(HA:AtomEC nd)(hk:∀k s n L f t a,nd=.mk k s n L f t a->k=1\/k=2\/k=3\/k=4\/k=5\/k=6\/k=14):BareEC nd:=by
 intro w B pb bv l last mv Q v h hp hq hm hl hB
 have HC:=HA w B pb bv l last mv Q v h hp hq hm hl hB
 clear hm
 cases hp with
 |low s n f t a hs=>
  have h0_:=taExpr_Low_Fun
  have h1_:=taExpr_Low_Let
  have h2_:=taExpr_Low_If
  have h3_:=taExpr_Low_Match
  have h4_:=taExpr_Low_Call
  go_enter Tryz.func302,Tryz.ntmps302
  go_wp2_with fail
  refine HC.mono ?_
  intro e w1 hp1
  have hp2:=hp1
  obtain⟨rfl,_⟩:=hp1
  go_wp2_with fail
  go_end0
  exact hp2
 |up s n f t a hs=>
  have h0_:=taExpr_Up_Fun
  have h1_:=taExpr_Up_Let
  have h2_:=taExpr_Up_If
  have h3_:=taExpr_Up_Match
  have h4_:=taExpr_Up_Call
  go_enter Tryz.func302,Tryz.ntmps302
  go_wp2_with fail
  refine HC.mono ?_
  intro e w1 hp1
  have hp2:=hp1
  obtain⟨rfl,_⟩:=hp1
  go_wp2_with fail
  go_end0
  exact hp2
 |num s n f t a=>
  have h0_:=qfm
  have h1_:=qfn
  have h2_:=taExpr_Number_If
  have h3_:=qeo
  have h4_:=qe4
  go_enter Tryz.func302,Tryz.ntmps302
  go_wp2_with fail
  refine HC.mono ?_
  intro e w1 hp1
  have hp2:=hp1
  obtain⟨rfl,_⟩:=hp1
  go_wp2_with fail
  go_end0
  exact hp2
 |word s n f t a hs=>
  have h0_:=taExpr_Bool_Fun
  have h1_:=taExpr_Bool_Let
  have h2_:=taExpr_Bool_If
  have h3_:=qfk
  have h4_:=taExpr_Bool_Call
  go_enter Tryz.func302,Tryz.ntmps302
  go_wp2_with fail
  refine HC.mono ?_
  intro e w1 hp1
  have hp2:=hp1
  obtain⟨rfl,_⟩:=hp1
  go_wp2_with fail
  go_end0
  exact hp2
 |unit s n f t a=>
  have h0_:=taExpr_Unit_Fun
  have h1_:=taExpr_Unit_Let
  have h2_:=taExpr_Unit_If
  have h3_:=qfq
  have h4_:=taExpr_Unit_Call
  go_enter Tryz.func302,Tryz.ntmps302
  go_wp2_with fail
  refine HC.mono ?_
  intro e w1 hp1
  have hp2:=hp1
  obtain⟨rfl,_⟩:=hp1
  go_wp2_with fail
  go_end0
  exact hp2
 |pr s n x y f t a vx vy hx hy=>
  have h0_:=taExpr_Pair_Fun
  have h1_:=taExpr_Pair_Let
  have h2_:=taExpr_Pair_If
  have h3_:=qfo
  have h4_:=taExpr_Pair_Call
  go_enter Tryz.func302,Tryz.ntmps302
  go_wp2_with fail
  refine HC.mono ?_
  intro e w1 hp1
  have hp2:=hp1
  obtain⟨rfl,_⟩:=hp1
  go_wp2_with fail
  go_end0
  exact hp2
 |of s n x y f t a vx vy hx hy=>
  have h0_:=taExpr_Typed_Fun
  have h1_:=taExpr_Typed_Let
  have h2_:=taExpr_Typed_If
  have h3_:=qe5
  have h4_:=qfp
  go_enter Tryz.func302,Tryz.ntmps302
  go_wp2_with fail
  refine HC.mono ?_
  intro e w1 hp1
  have hp2:=hp1
  obtain⟨rfl,_⟩:=hp1
  go_wp2_with fail
  go_end0
  exact hp2
 |lt c=>have:=hk _ _ _ _ _ _ _ rfl;rename_i hc _ _ _ _;omega|_=>have:=hk _ _ _ _ _ _ _ rfl;omega
end
end
section
open Go Go.RowKit Go.ChangeMaps Un
section
variable {w:World}
theorem bareE_fn(s:BA)(n:Nat)(x:Nd)(f t a:Nat)(hss:s.size<=1000)(Hx:AtEC x):BareEC (.mk 9 s n [x] f t a):=by
 intro w B pb bv l last mv Q v h hp hq hm hl hB
 cases hp with
 |fn s n x f t a y vx hs hy hx=>
 have hx0:=hx
 obtain⟨tx,xx,rfl⟩:=hx.iface
 have esh:=sh_fn s n x f t a
 rw[esh]at hl⊢
 simp only[lqa,lqc,lqn]at hl
 have ha0:=taExpr_Fun_Fun
 obtain⟨n1,n2,n3⟩:=low_ne hs
 have hfi:=fine_low hs
 have hbW:Below w.heap.size w (w.alloc (.cells #[.int .i64 (f:Int),.int .i64 (t:Int),.int .i64 (a:Int),.int .i64 (y:Int),.string s,.iface tx (.agg xx)] 416)):=(bw (.cells #[.int .i64 (f:Int),.int .i64 (t:Int),.int .i64 (a:Int),.int .i64 (y:Int),.string s,.iface tx (.agg xx)] 416))
 have zW:(w.alloc (.cells #[.int .i64 (f:Int),.int .i64 (t:Int),.int .i64 (a:Int),.int .i64 (y:Int),.string s,.iface tx (.agg xx)] 416)).heap.size=w.heap.size+1:=by simp
 have FW:=FN.of (B:=B) (pb:=pb) hbW
 have hzp:=h.lt
 have N0:=ai (h.bel hbW)
 have F0:=ai (FN.refl B pb (w.alloc (.cells #[.int .i64 (f:Int),.int .i64 (t:Int),.int .i64 (a:Int),.int .i64 (y:Int),.string s,.iface tx (.agg xx)] 416)))
 have BXb:=ai (Bx.at w #[.int .i64 (f:Int),.int .i64 (t:Int),.int .i64 (a:Int),.int .i64 (y:Int),.string s,.iface tx (.agg xx)] 416 (w.heap.size) (by simp))
 have Vx:=ai (hx0.bel hbW)
 have HM:=ai (hm.fn FW)
 clear hm
 clear hy
 have HQ:=ai (hq.fn FW)
 clear h hq
 go_enter Tryz.func302,Tryz.ntmps302
 have zp1:=(uh N0).lt
 rw[zW]at zp1
 have hb1:Below (w.alloc (.cells #[.int .i64 (f:Int),.int .i64 (t:Int),.int .i64 (a:Int),.int .i64 (y:Int),.string s,.iface tx (.agg xx)] 416)).heap.size (w.alloc (.cells #[.int .i64 (f:Int),.int .i64 (t:Int),.int .i64 (a:Int),.int .i64 (y:Int),.string s,.iface tx (.agg xx)] 416)) ((w.alloc (.cells #[.int .i64 (f:Int),.int .i64 (t:Int),.int .i64 (a:Int),.int .i64 (y:Int),.string s,.iface tx (.agg xx)] 416)).alloc (.cells #[.string kFun,.string s,.string kArrow] 9)):=bw _
 have eT1:qbs l last [kFun,s,kArrow]=(((l++(sep last++[102,117,110]))++([32]++s.toList))++([32]++[45,62])):=by
  show(putL' (putL' (putL' l last kFun) kFun s) s kArrow)=_
  rw[qav (qab [102,117,110]) (by decide) (by decide) (by decide),qav rfl n1 n2 n3,qb7 (qab [102,117,110]) (by decide) (by decide),qav (qab [45,62]) (by decide) (by decide) (by decide),qba hfi]
 have HP1:=qbl ((uh N0).bel hb1) [kFun,s,kArrow] (by intro t ht;simp only[List.mem_cons,List.not_mem_nil,or_false]at ht;rcases ht with rfl|rfl|rfl<;>first|decide|assumption) (by simp) (by first|omega|(simp only[lqa,lqc,lqn];omega)) (w.heap.size+1) (Bx.at (w.alloc (.cells #[.int .i64 (f:Int),.int .i64 (t:Int),.int .i64 (a:Int),.int .i64 (y:Int),.string s,.iface tx (.agg xx)] 416)) #[.string kFun,.string s,.string kArrow] 9 (w.heap.size+1) (by simp)) (by omega) (Or.inr ((Bx.at (w.alloc (.cells #[.int .i64 (f:Int),.int .i64 (t:Int),.int .i64 (a:Int),.int .i64 (y:Int),.string s,.iface tx (.agg xx)] 416)) #[.string kFun,.string s,.string kArrow] 9 (w.heap.size+1) (by simp)).nby (by intro x hx c;simp at hx;subst hx;intro q;cases q)))
 rw[eT1]at HP1
 go_wp2_with fail
 refine HP1.mono ?_
 rintro e w1⟨rfl,bvw1,hN,hF⟩
 have N2:Hid (PN w1 B pb bvw1 (((l++(sep last++[102,117,110]))++([32]++s.toList))++([32]++[45,62])) kArrow mv):=ai hN
 have F3:=ai ((uh F0).trans ((FN.of hb1).trans hF))
 have zw1:=(uh F3).size
 rw[zW]at zw1
 clear hN hF HP1 hb1 eT1 N0 F0
 obtain⟨c4,fc4,zc4⟩:=(uh F3).pn_ne (uh BXb) (by omega) (by intro x hx c;simp at hx;subst hx;intro q;cases q)
 have HS5:=Hx w1 B pb _ _ kArrow mv Q _ 0 (uh N2) ((uh Vx).fnQ (uh HQ) (uh F3)) ((uh HQ).fn (uh F3)) ((uh HM).fn (uh F3)) (by omega) (by rw[qb7 (qab [45,62]) (by decide) (by decide)];rw[qd6];simp only[lqa,lqc,lqn];omega) hB
 rw[qb7 (qab [45,62]) (by decide) (by decide)]at HS5
 rw[qd6]at HS5
 go_wp2_with fail
 clear c4 fc4 zc4
 refine HS5.mono ?_
 rintro e w2⟨rfl,bvw2,lastw2,hN,fiw2,hF⟩
 have N6:=ai hN
 have F7:=ai ((uh F3).trans hF)
 have zw2:=(uh F7).size
 rw[zW]at zw2
 clear hN hF HS5 N2 F3
 go_wp2_with fail
 go_end0
 refine⟨rfl,bvw2,lastw2,?_,fiw2,FW.trans (uh F7)⟩
 show PN w2 B pb bvw2 (l++(sep last++([102,117,110,32]++(s.toList++([32,45,62,32]++sh x))))) lastw2 mv
 rw[show l++(sep last++([102,117,110,32]++(s.toList++([32,45,62,32]++sh x))))=((((l++(sep last++[102,117,110]))++([32]++s.toList))++([32]++[45,62]))++([32]++sh x)) by simp]
 exact uh N6
theorem bareE_call(s:BA)(n:Nat)(x y:Nd)(f t a:Nat)(Hx:AtEC x)(Hy:AtEC y):BareEC (.mk 8 s n [x,y] f t a):=by
 intro w B pb bv l last mv Q v h hp hq hm hl hB
 cases hp with
 |lt=>rename_i hc _ _ _ _;exfalso;omega|call s n x y f t a vx vy hx hy=>
 have hx0:=hx
 obtain⟨tx,xx,rfl⟩:=hx.iface
 have hy0:=hy
 obtain⟨ty,xy,rfl⟩:=hy.iface
 have esh:=sh_call s n x y f t a
 rw[esh]at hl⊢
 simp only[lqa,lqc,lqn]at hl
 have ha0:=taExpr_Call_Fun
 have ha1:=taExpr_Call_Let
 have ha2:=taExpr_Call_If
 have ha3:=qfl
 have ha4:=taExpr_Call_Call
 have hbW:Below w.heap.size w (w.alloc (.cells #[.int .i64 (f:Int),.int .i64 (t:Int),.iface tx (.agg xx),.iface ty (.agg xy)] 424)):=(bw (.cells #[.int .i64 (f:Int),.int .i64 (t:Int),.iface tx (.agg xx),.iface ty (.agg xy)] 424))
 have zW:(w.alloc (.cells #[.int .i64 (f:Int),.int .i64 (t:Int),.iface tx (.agg xx),.iface ty (.agg xy)] 424)).heap.size=w.heap.size+1:=by simp
 have FW:=FN.of (B:=B) (pb:=pb) hbW
 have hzp:=h.lt
 have N0:=ai (h.bel hbW)
 have F0:=ai (FN.refl B pb (w.alloc (.cells #[.int .i64 (f:Int),.int .i64 (t:Int),.iface tx (.agg xx),.iface ty (.agg xy)] 424)))
 have BXb:=ai (Bx.at w #[.int .i64 (f:Int),.int .i64 (t:Int),.iface tx (.agg xx),.iface ty (.agg xy)] 424 (w.heap.size) (by simp))
 have Vx:=ai (hx0.bel hbW)
 have Vy:=ai (hy0.bel hbW)
 have HM:=ai (hm.fn FW)
 clear hm
 have HQ:=ai (hq.fn FW)
 clear h hq
 go_enter Tryz.func302,Tryz.ntmps302
 obtain⟨c1,fc1,zc1⟩:=(uh F0).pn_ne (uh BXb) (by omega) (by intro x hx c;simp at hx;subst hx;intro q;cases q)
 have HS2:=Hx (w.alloc (.cells #[.int .i64 (f:Int),.int .i64 (t:Int),.iface tx (.agg xx),.iface ty (.agg xy)] 424)) B pb _ _ last mv Q _ 3 (uh N0) ((uh Vx).fnQ (uh HQ) (uh F0)) ((uh HQ).fn (uh F0)) ((uh HM).fn (uh F0)) (by omega) (by simp only[lqa,lqc,lqn];omega) hB
 go_wp2_with fail
 clear c1 fc1 zc1
 refine HS2.mono ?_
 rintro e w1⟨rfl,bvw1,lastw1,hN,fiw1,hF⟩
 have N3:=ai hN
 have F4:=ai ((uh F0).trans hF)
 have zw1:=(uh F4).size
 rw[zW]at zw1
 clear hN hF HS2 N0 F0
 obtain⟨c5,fc5,zc5⟩:=(uh F4).pn_ne (uh BXb) (by omega) (by intro x hx c;simp at hx;subst hx;intro q;cases q)
 have HS6:=Hy w1 B pb _ _ lastw1 mv Q _ 4 (uh N3) ((uh Vy).fnQ (uh HQ) (uh F4)) ((uh HQ).fn (uh F4)) ((uh HM).fn (uh F4)) (by omega) (by rw[qba fiw1];simp only[lqa,lqc,lqn];omega) hB
 rw[qba fiw1]at HS6
 go_wp2_with fail
 clear c5 fc5 zc5
 refine HS6.mono ?_
 rintro e w2⟨rfl,bvw2,lastw2,hN,fiw2,hF⟩
 have N7:=ai hN
 have F8:=ai ((uh F4).trans hF)
 have zw2:=(uh F8).size
 rw[zW]at zw2
 clear hN hF HS6 N3 F4
 go_wp2_with fail
 go_end0
 refine⟨rfl,bvw2,lastw2,?_,fiw2,FW.trans (uh F8)⟩
 show PN w2 B pb bvw2 (l++(sep last++(atW x 3++(32::atW y 4)))) lastw2 mv
 rw[show l++(sep last++(atW x 3++(32::atW y 4)))=((l++(sep last++atW x 3))++([32]++atW y 4)) by simp]
 exact uh N7
theorem bareE_ite(s:BA)(n:Nat)(x y z:Nd)(f t a:Nat)(Hx:AtEC x)(Hy:AtEC y)(Hz:AtEC z):BareEC (.mk 12 s n [x,y,z] f t a):=by
 intro w B pb bv l last mv Q v h hp hq hm hl hB
 cases hp with
 |ite s n x y z f t a vx vy vz hx hy hz=>
 have hx0:=hx
 obtain⟨tx,xx,rfl⟩:=hx.iface
 have hy0:=hy
 obtain⟨ty,xy,rfl⟩:=hy.iface
 have hz0:=hz
 obtain⟨tz,xz,rfl⟩:=hz.iface
 have esh:=sh_if s n x y z f t a
 rw[esh]at hl⊢
 simp only[lqa,lqc,lqn]at hl
 have ha0:=taExpr_If_Fun
 have ha1:=taExpr_If_Let
 have ha2:=taExpr_If_If
 have hbW:Below w.heap.size w (w.alloc (.cells #[.int .i64 (f:Int),.int .i64 (t:Int),.iface tx (.agg xx),.iface ty (.agg xy),.iface tz (.agg xz)] 420)):=(bw (.cells #[.int .i64 (f:Int),.int .i64 (t:Int),.iface tx (.agg xx),.iface ty (.agg xy),.iface tz (.agg xz)] 420))
 have zW:(w.alloc (.cells #[.int .i64 (f:Int),.int .i64 (t:Int),.iface tx (.agg xx),.iface ty (.agg xy),.iface tz (.agg xz)] 420)).heap.size=w.heap.size+1:=by simp
 have FW:=FN.of (B:=B) (pb:=pb) hbW
 have hzp:=h.lt
 have N0:=ai (h.bel hbW)
 have F0:=ai (FN.refl B pb (w.alloc (.cells #[.int .i64 (f:Int),.int .i64 (t:Int),.iface tx (.agg xx),.iface ty (.agg xy),.iface tz (.agg xz)] 420)))
 have BXb:=ai (Bx.at w #[.int .i64 (f:Int),.int .i64 (t:Int),.iface tx (.agg xx),.iface ty (.agg xy),.iface tz (.agg xz)] 420 (w.heap.size) (by simp))
 have Vx:=ai (hx0.bel hbW)
 have Vy:=ai (hy0.bel hbW)
 have Vz:=ai (hz0.bel hbW)
 have HM:=ai (hm.fn FW)
 clear hm
 have HQ:=ai (hq.fn FW)
 clear h hq
 go_enter Tryz.func302,Tryz.ntmps302
 have zp1:=(uh N0).lt
 rw[zW]at zp1
 have hb1:Below (w.alloc (.cells #[.int .i64 (f:Int),.int .i64 (t:Int),.iface tx (.agg xx),.iface ty (.agg xy),.iface tz (.agg xz)] 420)).heap.size (w.alloc (.cells #[.int .i64 (f:Int),.int .i64 (t:Int),.iface tx (.agg xx),.iface ty (.agg xy),.iface tz (.agg xz)] 420)) ((w.alloc (.cells #[.int .i64 (f:Int),.int .i64 (t:Int),.iface tx (.agg xx),.iface ty (.agg xy),.iface tz (.agg xz)] 420)).alloc (.cells #[.string kIf] 9)):=bw _
 have eT1:qbs l last [kIf]=(l++(sep last++[105,102])):=by
  show(putL' l last kIf)=_
  rw[qav (qab [105,102]) (by decide) (by decide) (by decide)]
 have HP1:=qbl ((uh N0).bel hb1) [kIf] (by intro t ht;simp only[List.mem_cons,List.not_mem_nil,or_false]at ht;rcases ht with rfl<;>first|decide|assumption) (by simp) (by first|omega|(simp only[lqa,lqc,lqn];omega)) (w.heap.size+1) (Bx.at (w.alloc (.cells #[.int .i64 (f:Int),.int .i64 (t:Int),.iface tx (.agg xx),.iface ty (.agg xy),.iface tz (.agg xz)] 420)) #[.string kIf] 9 (w.heap.size+1) (by simp)) (by omega) (Or.inr ((Bx.at (w.alloc (.cells #[.int .i64 (f:Int),.int .i64 (t:Int),.iface tx (.agg xx),.iface ty (.agg xy),.iface tz (.agg xz)] 420)) #[.string kIf] 9 (w.heap.size+1) (by simp)).nby (by intro x hx c;simp at hx;subst hx;intro q;cases q)))
 rw[eT1]at HP1
 go_wp2_with fail
 refine HP1.mono ?_
 rintro e w1⟨rfl,bvw1,hN,hF⟩
 have N2:Hid (PN w1 B pb bvw1 (l++(sep last++[105,102])) kIf mv):=ai hN
 have F3:=ai ((uh F0).trans ((FN.of hb1).trans hF))
 have zw1:=(uh F3).size
 rw[zW]at zw1
 clear hN hF HP1 hb1 eT1 N0 F0
 obtain⟨c4,fc4,zc4⟩:=(uh F3).pn_ne (uh BXb) (by omega) (by intro x hx c;simp at hx;subst hx;intro q;cases q)
 have HS5:=Hx w1 B pb _ _ kIf mv Q _ 0 (uh N2) ((uh Vx).fnQ (uh HQ) (uh F3)) ((uh HQ).fn (uh F3)) ((uh HM).fn (uh F3)) (by omega) (by rw[qb7 (qab [105,102]) (by decide) (by decide)];rw[qd6];simp only[lqa,lqc,lqn];omega) hB
 rw[qb7 (qab [105,102]) (by decide) (by decide)]at HS5
 rw[qd6]at HS5
 go_wp2_with fail
 clear c4 fc4 zc4
 refine HS5.mono ?_
 rintro e w2⟨rfl,bvw2,lastw2,hN,fiw2,hF⟩
 have N6:=ai hN
 have F7:=ai ((uh F3).trans hF)
 have zw2:=(uh F7).size
 rw[zW]at zw2
 clear hN hF HS5 N2 F3
 have zp8:=(uh N6).lt
 have hb8:Below w2.heap.size w2 (w2.alloc (.cells #[.string qdo] 9)):=bw _
 have eT8:qbs ((l++(sep last++[105,102]))++([32]++sh x)) lastw2 [qdo]=(((l++(sep last++[105,102]))++([32]++sh x))++([32]++[116,104,101,110])):=by
  show(putL' ((l++(sep last++[105,102]))++([32]++sh x)) lastw2 qdo)=_
  rw[qav (qab [116,104,101,110]) (by decide) (by decide) (by decide),qba fiw2]
 have HP8:=qbl ((uh N6).bel hb8) [qdo] (by intro t ht;simp only[List.mem_cons,List.not_mem_nil,or_false]at ht;rcases ht with rfl<;>first|decide|assumption) (by simp) (by first|omega|(simp only[lqa,lqc,lqn];omega)) (w2.heap.size) (Bx.at w2 #[.string qdo] 9 (w2.heap.size) (by simp)) (by omega) (Or.inr ((Bx.at w2 #[.string qdo] 9 (w2.heap.size) (by simp)).nby (by intro x hx c;simp at hx;subst hx;intro q;cases q)))
 rw[eT8]at HP8
 go_wp2_with fail
 refine HP8.mono ?_
 rintro e w3⟨rfl,bvw3,hN,hF⟩
 have N9:Hid (PN w3 B pb bvw3 (((l++(sep last++[105,102]))++([32]++sh x))++([32]++[116,104,101,110])) qdo mv):=ai hN
 have F10:=ai ((uh F7).trans ((FN.of hb8).trans hF))
 have zw3:=(uh F10).size
 rw[zW]at zw3
 clear hN hF HP8 hb8 eT8 N6 F7
 obtain⟨c11,fc11,zc11⟩:=(uh F10).pn_ne (uh BXb) (by omega) (by intro x hx c;simp at hx;subst hx;intro q;cases q)
 have HS12:=Hy w3 B pb _ _ qdo mv Q _ 0 (uh N9) ((uh Vy).fnQ (uh HQ) (uh F10)) ((uh HQ).fn (uh F10)) ((uh HM).fn (uh F10)) (by omega) (by rw[qb7 (qab [116,104,101,110]) (by decide) (by decide)];rw[qd6];simp only[lqa,lqc,lqn];omega) hB
 rw[qb7 (qab [116,104,101,110]) (by decide) (by decide)]at HS12
 rw[qd6]at HS12
 go_wp2_with fail
 clear c11 fc11 zc11
 refine HS12.mono ?_
 rintro e w4⟨rfl,bvw4,lastw4,hN,fiw4,hF⟩
 have N13:=ai hN
 have F14:=ai ((uh F10).trans hF)
 have zw4:=(uh F14).size
 rw[zW]at zw4
 clear hN hF HS12 N9 F10
 have zp15:=(uh N13).lt
 have hb15:Below w4.heap.size w4 (w4.alloc (.cells #[.string qer] 9)):=bw _
 have eT15:qbs ((((l++(sep last++[105,102]))++([32]++sh x))++([32]++[116,104,101,110]))++([32]++sh y)) lastw4 [qer]=(((((l++(sep last++[105,102]))++([32]++sh x))++([32]++[116,104,101,110]))++([32]++sh y))++([32]++[101,108,115,101])):=by
  show(putL' ((((l++(sep last++[105,102]))++([32]++sh x))++([32]++[116,104,101,110]))++([32]++sh y)) lastw4 qer)=_
  rw[qav (qab [101,108,115,101]) (by decide) (by decide) (by decide),qba fiw4]
 have HP15:=qbl ((uh N13).bel hb15) [qer] (by intro t ht;simp only[List.mem_cons,List.not_mem_nil,or_false]at ht;rcases ht with rfl<;>first|decide|assumption) (by simp) (by first|omega|(simp only[lqa,lqc,lqn];omega)) (w4.heap.size) (Bx.at w4 #[.string qer] 9 (w4.heap.size) (by simp)) (by omega) (Or.inr ((Bx.at w4 #[.string qer] 9 (w4.heap.size) (by simp)).nby (by intro x hx c;simp at hx;subst hx;intro q;cases q)))
 rw[eT15]at HP15
 go_wp2_with fail
 refine HP15.mono ?_
 rintro e w5⟨rfl,bvw5,hN,hF⟩
 have N16:Hid (PN w5 B pb bvw5 (((((l++(sep last++[105,102]))++([32]++sh x))++([32]++[116,104,101,110]))++([32]++sh y))++([32]++[101,108,115,101])) qer mv):=ai hN
 have F17:=ai ((uh F14).trans ((FN.of hb15).trans hF))
 have zw5:=(uh F17).size
 rw[zW]at zw5
 clear hN hF HP15 hb15 eT15 N13 F14
 obtain⟨c18,fc18,zc18⟩:=(uh F17).pn_ne (uh BXb) (by omega) (by intro x hx c;simp at hx;subst hx;intro q;cases q)
 have HS19:=Hz w5 B pb _ _ qer mv Q _ 0 (uh N16) ((uh Vz).fnQ (uh HQ) (uh F17)) ((uh HQ).fn (uh F17)) ((uh HM).fn (uh F17)) (by omega) (by rw[qb7 (qab [101,108,115,101]) (by decide) (by decide)];rw[qd6];simp only[lqa,lqc,lqn];omega) hB
 rw[qb7 (qab [101,108,115,101]) (by decide) (by decide)]at HS19
 rw[qd6]at HS19
 go_wp2_with fail
 clear c18 fc18 zc18
 refine HS19.mono ?_
 rintro e w6⟨rfl,bvw6,lastw6,hN,fiw6,hF⟩
 have N20:=ai hN
 have F21:=ai ((uh F17).trans hF)
 have zw6:=(uh F21).size
 rw[zW]at zw6
 clear hN hF HS19 N16 F17
 go_wp2_with fail
 go_end0
 refine⟨rfl,bvw6,lastw6,?_,fiw6,FW.trans (uh F21)⟩
 show PN w6 B pb bvw6 (l++(sep last++([105,102,32]++(sh x++([32,116,104,101,110,32]++(sh y++([32,101,108,115,101,32]++sh z))))))) lastw6 mv
 rw[show l++(sep last++([105,102,32]++(sh x++([32,116,104,101,110,32]++(sh y++([32,101,108,115,101,32]++sh z))))))=((((((l++(sep last++[105,102]))++([32]++sh x))++([32]++[116,104,101,110]))++([32]++sh y))++([32]++[101,108,115,101]))++([32]++sh z)) by simp]
 exact uh N20
theorem bindingW_C(r:Bool)(s:BA)(hs:LowN s)(hss:s.size<=1000)(x:Nd)(Hx:AtEC x){B pb:Nat}{bv:Value}{l:List UInt8}{last:BA}{mv:Value}{Q:Nat->Prop}(a y:Int){tx:TypeId}{xx:Array Value}(h:PN w B pb bv l last mv)(hx0:PE w Q x (.iface tx (.agg xx)))(hq:NT w pb Q)(hm:PM w pb mv)(hl:(l++(sep last++letS r s.toList (sh x))).length<=800000)(hB:B<=pb):
 Calls Tryz.prog 112 #[.pointer (some ⟨pb,0,none⟩),.agg #[.bool r,.int .i64 a,.int .i64 y,.string s,.iface tx (.agg xx)]] w (qcc B pb mv (l++(sep last++letS r s.toList (sh x))) w):=by
 obtain⟨n1,n2,n3⟩:=low_ne hs
 have hfi:=fine_low hs
 unfold letS at hl⊢
 simp only[lqa,lqc,lqn]at hl
 cases r with
 |false=>
  simp only[Bool.false_eq_true,if_false,lqn]at hl
  simp only[Bool.false_eq_true,if_false,List.nil_append]
  have hbW:Below w.heap.size w (w.alloc (.cells #[.bool false,.int .i64 a,.int .i64 y,.string s,.iface tx (.agg xx)] 218)):=(bw (.cells #[.bool false,.int .i64 a,.int .i64 y,.string s,.iface tx (.agg xx)] 218))
  have zW:(w.alloc (.cells #[.bool false,.int .i64 a,.int .i64 y,.string s,.iface tx (.agg xx)] 218)).heap.size=w.heap.size+1:=by simp
  have FW:=FN.of (B:=B) (pb:=pb) hbW
  have hzp:=h.lt
  have N0:=ai (h.bel hbW)
  have F0:=ai (FN.refl B pb (w.alloc (.cells #[.bool false,.int .i64 a,.int .i64 y,.string s,.iface tx (.agg xx)] 218)))
  have BXb:=ai (Bx.at w #[.bool false,.int .i64 a,.int .i64 y,.string s,.iface tx (.agg xx)] 218 (w.heap.size) (by simp))
  have Vx:=ai (hx0.bel hbW)
  have HM:=ai (hm.fn FW)
  clear hm
  have HQ:=ai (hq.fn FW)
  clear h hq
  go_enter Tryz.func112,Tryz.ntmps112
  have zp1:=(uh N0).lt
  rw[zW]at zp1
  have hb1:Below (w.alloc (.cells #[.bool false,.int .i64 a,.int .i64 y,.string s,.iface tx (.agg xx)] 218)).heap.size (w.alloc (.cells #[.bool false,.int .i64 a,.int .i64 y,.string s,.iface tx (.agg xx)] 218)) ((w.alloc (.cells #[.bool false,.int .i64 a,.int .i64 y,.string s,.iface tx (.agg xx)] 218)).alloc (.cells #[.string kLet] 9)):=bw _
  have eT1:qbs l last [kLet]=(l++(sep last++[108,101,116])):=by
   show(putL' l last kLet)=_
   rw[qav (qab [108,101,116]) (by decide) (by decide) (by decide)]
  have HP1:=qbl ((uh N0).bel hb1) [kLet] (by intro t ht;simp only[List.mem_cons,List.not_mem_nil,or_false]at ht;rcases ht with rfl<;>first|decide|assumption) (by simp) (by first|omega|(simp only[lqa,lqc,lqn];omega)) (w.heap.size+1) (Bx.at (w.alloc (.cells #[.bool false,.int .i64 a,.int .i64 y,.string s,.iface tx (.agg xx)] 218)) #[.string kLet] 9 (w.heap.size+1) (by simp)) (by omega) (Or.inr ((Bx.at (w.alloc (.cells #[.bool false,.int .i64 a,.int .i64 y,.string s,.iface tx (.agg xx)] 218)) #[.string kLet] 9 (w.heap.size+1) (by simp)).nby (by intro x hx c;simp at hx;subst hx;intro q;cases q)))
  rw[eT1]at HP1
  go_wp2_with fail
  refine HP1.mono ?_
  rintro e w1⟨rfl,bvw1,hN,hF⟩
  have N2:Hid (PN w1 B pb bvw1 (l++(sep last++[108,101,116])) kLet mv):=ai hN
  have F3:=ai ((uh F0).trans ((FN.of hb1).trans hF))
  have zw1:=(uh F3).size
  rw[zW]at zw1
  clear hN hF HP1 hb1 eT1 N0 F0
  obtain⟨c4,fc4,zc4⟩:=(uh F3).pn_ne (uh BXb) (by omega) (by intro x hx c;simp at hx;subst hx;intro q;cases q)
  have zp5:=(uh N2).lt
  have hb5:Below w1.heap.size w1 (w1.alloc (.cells #[.string s,.string kEq] 9)):=bw _
  have eT5:qbs (l++(sep last++[108,101,116])) kLet [s,kEq]=(((l++(sep last++[108,101,116]))++([32]++s.toList))++([32]++[61])):=by
   show(putL' (putL' (l++(sep last++[108,101,116])) kLet s) s kEq)=_
   rw[qav rfl n1 n2 n3,qb7 (qab [108,101,116]) (by decide) (by decide),qav (qab [61]) (by decide) (by decide) (by decide),qba hfi]
  have HP5:=qbl ((uh N2).bel hb5) [s,kEq] (by intro t ht;simp only[List.mem_cons,List.not_mem_nil,or_false]at ht;rcases ht with rfl|rfl<;>first|decide|assumption) (by simp) (by first|omega|(simp only[lqa,lqc,lqn];omega)) (w1.heap.size) (Bx.at w1 #[.string s,.string kEq] 9 (w1.heap.size) (by simp)) (by omega) (Or.inr ((Bx.at w1 #[.string s,.string kEq] 9 (w1.heap.size) (by simp)).nby (by intro x hx c;simp at hx;subst hx;intro q;cases q)))
  rw[eT5]at HP5
  go_wp2_with fail
  clear c4 fc4 zc4
  refine HP5.mono ?_
  rintro e w3⟨rfl,bvw3,hN,hF⟩
  have N6:Hid (PN w3 B pb bvw3 (((l++(sep last++[108,101,116]))++([32]++s.toList))++([32]++[61])) kEq mv):=ai hN
  have F7:=ai ((uh F3).trans ((FN.of hb5).trans hF))
  have zw3:=(uh F7).size
  rw[zW]at zw3
  clear hN hF HP5 hb5 eT5 N2 F3
  obtain⟨c8,fc8,zc8⟩:=(uh F7).pn_ne (uh BXb) (by omega) (by intro x hx c;simp at hx;subst hx;intro q;cases q)
  have HS9:=Hx w3 B pb _ _ kEq mv Q _ 0 (uh N6) ((uh Vx).fnQ (uh HQ) (uh F7)) ((uh HQ).fn (uh F7)) ((uh HM).fn (uh F7)) (by omega) (by rw[qb7 (qab [61]) (by decide) (by decide)];rw[qd6];simp only[lqa,lqc,lqn];omega) hB
  rw[qb7 (qab [61]) (by decide) (by decide)]at HS9
  rw[qd6]at HS9
  go_wp2_with fail
  clear c8 fc8 zc8
  refine HS9.mono ?_
  rintro e w4⟨rfl,bvw4,lastw4,hN,fiw4,hF⟩
  have N10:=ai hN
  have F11:=ai ((uh F7).trans hF)
  have zw4:=(uh F11).size
  rw[zW]at zw4
  clear hN hF HS9 N6 F7
  go_wp2_with fail
  go_end0
  refine⟨rfl,bvw4,lastw4,?_,fiw4,FW.trans (uh F11)⟩
  show PN w4 B pb bvw4 (l++(sep last++([108,101,116,32]++(s.toList++([32,61,32]++sh x))))) lastw4 mv
  rw[show l++(sep last++([108,101,116,32]++(s.toList++([32,61,32]++sh x))))=((((l++(sep last++[108,101,116]))++([32]++s.toList))++([32]++[61]))++([32]++sh x)) by simp]
  exact uh N10
 |true=>
  simp only[if_true,lqc,lqn]at hl
  simp only[if_true]
  have hbW:Below w.heap.size w (w.alloc (.cells #[.bool true,.int .i64 a,.int .i64 y,.string s,.iface tx (.agg xx)] 218)):=(bw (.cells #[.bool true,.int .i64 a,.int .i64 y,.string s,.iface tx (.agg xx)] 218))
  have zW:(w.alloc (.cells #[.bool true,.int .i64 a,.int .i64 y,.string s,.iface tx (.agg xx)] 218)).heap.size=w.heap.size+1:=by simp
  have FW:=FN.of (B:=B) (pb:=pb) hbW
  have hzp:=h.lt
  have N0:=ai (h.bel hbW)
  have F0:=ai (FN.refl B pb (w.alloc (.cells #[.bool true,.int .i64 a,.int .i64 y,.string s,.iface tx (.agg xx)] 218)))
  have BXb:=ai (Bx.at w #[.bool true,.int .i64 a,.int .i64 y,.string s,.iface tx (.agg xx)] 218 (w.heap.size) (by simp))
  have Vx:=ai (hx0.bel hbW)
  have HM:=ai (hm.fn FW)
  clear hm
  have HQ:=ai (hq.fn FW)
  clear h hq
  go_enter Tryz.func112,Tryz.ntmps112
  have zp1:=(uh N0).lt
  rw[zW]at zp1
  have hb1:Below (w.alloc (.cells #[.bool true,.int .i64 a,.int .i64 y,.string s,.iface tx (.agg xx)] 218)).heap.size (w.alloc (.cells #[.bool true,.int .i64 a,.int .i64 y,.string s,.iface tx (.agg xx)] 218)) ((w.alloc (.cells #[.bool true,.int .i64 a,.int .i64 y,.string s,.iface tx (.agg xx)] 218)).alloc (.cells #[.string kLet] 9)):=bw _
  have eT1:qbs l last [kLet]=(l++(sep last++[108,101,116])):=by
   show(putL' l last kLet)=_
   rw[qav (qab [108,101,116]) (by decide) (by decide) (by decide)]
  have HP1:=qbl ((uh N0).bel hb1) [kLet] (by intro t ht;simp only[List.mem_cons,List.not_mem_nil,or_false]at ht;rcases ht with rfl<;>first|decide|assumption) (by simp) (by first|omega|(simp only[lqa,lqc,lqn];omega)) (w.heap.size+1) (Bx.at (w.alloc (.cells #[.bool true,.int .i64 a,.int .i64 y,.string s,.iface tx (.agg xx)] 218)) #[.string kLet] 9 (w.heap.size+1) (by simp)) (by omega) (Or.inr ((Bx.at (w.alloc (.cells #[.bool true,.int .i64 a,.int .i64 y,.string s,.iface tx (.agg xx)] 218)) #[.string kLet] 9 (w.heap.size+1) (by simp)).nby (by intro x hx c;simp at hx;subst hx;intro q;cases q)))
  rw[eT1]at HP1
  go_wp2_with fail
  refine HP1.mono ?_
  rintro e w1⟨rfl,bvw1,hN,hF⟩
  have N2:Hid (PN w1 B pb bvw1 (l++(sep last++[108,101,116])) kLet mv):=ai hN
  have F3:=ai ((uh F0).trans ((FN.of hb1).trans hF))
  have zw1:=(uh F3).size
  rw[zW]at zw1
  clear hN hF HP1 hb1 eT1 N0 F0
  obtain⟨c4,fc4,zc4⟩:=(uh F3).pn_ne (uh BXb) (by omega) (by intro x hx c;simp at hx;subst hx;intro q;cases q)
  have zp5:=(uh N2).lt
  have hb5:Below w1.heap.size w1 (w1.alloc (.cells #[.string kRec] 9)):=bw _
  have eT5:qbs (l++(sep last++[108,101,116])) kLet [kRec]=((l++(sep last++[108,101,116]))++([32]++[114,101,99])):=by
   show(putL' (l++(sep last++[108,101,116])) kLet kRec)=_
   rw[qav (qab [114,101,99]) (by decide) (by decide) (by decide),qb7 (qab [108,101,116]) (by decide) (by decide)]
  have HP5:=qbl ((uh N2).bel hb5) [kRec] (by intro t ht;simp only[List.mem_cons,List.not_mem_nil,or_false]at ht;rcases ht with rfl<;>first|decide|assumption) (by simp) (by first|omega|(simp only[lqa,lqc,lqn];omega)) (w1.heap.size) (Bx.at w1 #[.string kRec] 9 (w1.heap.size) (by simp)) (by omega) (Or.inr ((Bx.at w1 #[.string kRec] 9 (w1.heap.size) (by simp)).nby (by intro x hx c;simp at hx;subst hx;intro q;cases q)))
  rw[eT5]at HP5
  go_wp2_with fail
  clear c4 fc4 zc4
  refine HP5.mono ?_
  rintro e w2⟨rfl,bvw2,hN,hF⟩
  have N6:Hid (PN w2 B pb bvw2 ((l++(sep last++[108,101,116]))++([32]++[114,101,99])) kRec mv):=ai hN
  have F7:=ai ((uh F3).trans ((FN.of hb5).trans hF))
  have zw2:=(uh F7).size
  rw[zW]at zw2
  clear hN hF HP5 hb5 eT5 N2 F3
  obtain⟨c8,fc8,zc8⟩:=(uh F7).pn_ne (uh BXb) (by omega) (by intro x hx c;simp at hx;subst hx;intro q;cases q)
  have zp9:=(uh N6).lt
  have hb9:Below w2.heap.size w2 (w2.alloc (.cells #[.string s,.string kEq] 9)):=bw _
  have eT9:qbs ((l++(sep last++[108,101,116]))++([32]++[114,101,99])) kRec [s,kEq]=((((l++(sep last++[108,101,116]))++([32]++[114,101,99]))++([32]++s.toList))++([32]++[61])):=by
   show(putL' (putL' ((l++(sep last++[108,101,116]))++([32]++[114,101,99])) kRec s) s kEq)=_
   rw[qav rfl n1 n2 n3,qb7 (qab [114,101,99]) (by decide) (by decide),qav (qab [61]) (by decide) (by decide) (by decide),qba hfi]
  have HP9:=qbl ((uh N6).bel hb9) [s,kEq] (by intro t ht;simp only[List.mem_cons,List.not_mem_nil,or_false]at ht;rcases ht with rfl|rfl<;>first|decide|assumption) (by simp) (by first|omega|(simp only[lqa,lqc,lqn];omega)) (w2.heap.size) (Bx.at w2 #[.string s,.string kEq] 9 (w2.heap.size) (by simp)) (by omega) (Or.inr ((Bx.at w2 #[.string s,.string kEq] 9 (w2.heap.size) (by simp)).nby (by intro x hx c;simp at hx;subst hx;intro q;cases q)))
  rw[eT9]at HP9
  go_wp2_with fail
  clear c8 fc8 zc8
  refine HP9.mono ?_
  rintro e w3⟨rfl,bvw3,hN,hF⟩
  have N10:Hid (PN w3 B pb bvw3 ((((l++(sep last++[108,101,116]))++([32]++[114,101,99]))++([32]++s.toList))++([32]++[61])) kEq mv):=ai hN
  have F11:=ai ((uh F7).trans ((FN.of hb9).trans hF))
  have zw3:=(uh F11).size
  rw[zW]at zw3
  clear hN hF HP9 hb9 eT9 N6 F7
  obtain⟨c12,fc12,zc12⟩:=(uh F11).pn_ne (uh BXb) (by omega) (by intro x hx c;simp at hx;subst hx;intro q;cases q)
  have HS13:=Hx w3 B pb _ _ kEq mv Q _ 0 (uh N10) ((uh Vx).fnQ (uh HQ) (uh F11)) ((uh HQ).fn (uh F11)) ((uh HM).fn (uh F11)) (by omega) (by rw[qb7 (qab [61]) (by decide) (by decide)];rw[qd6];simp only[lqa,lqc,lqn];omega) hB
  rw[qb7 (qab [61]) (by decide) (by decide)]at HS13
  rw[qd6]at HS13
  go_wp2_with fail
  clear c12 fc12 zc12
  refine HS13.mono ?_
  rintro e w4⟨rfl,bvw4,lastw4,hN,fiw4,hF⟩
  have N14:=ai hN
  have F15:=ai ((uh F11).trans hF)
  have zw4:=(uh F15).size
  rw[zW]at zw4
  clear hN hF HS13 N10 F11
  go_wp2_with fail
  go_end0
  refine⟨rfl,bvw4,lastw4,?_,fiw4,FW.trans (uh F15)⟩
  show PN w4 B pb bvw4 (l++(sep last++([108,101,116,32]++([114,101,99,32]++(s.toList++([32,61,32]++sh x)))))) lastw4 mv
  rw[show l++(sep last++([108,101,116,32]++([114,101,99,32]++(s.toList++([32,61,32]++sh x)))))=(((((l++(sep last++[108,101,116]))++([32]++[114,101,99]))++([32]++s.toList))++([32]++[61]))++([32]++sh x)) by simp]
  exact uh N14
theorem PE.inv_lt{Q:Nat->Prop}{c:Nat}{s:BA}{n:Nat}{x z:Nd}{f t a:Nat}{v:Value}(h:PE w Q (.mk c s n [x,z] f t a) v)(hc:c=10\/c=11):∃(y:Nat)(vx vz:Value),v=.iface 418 (.agg #[.int .i64 (f:Int),.int .i64 (t:Int),.bool (c==11),.int .i64 (a:Int),.int .i64 (y:Int),.string s,vx,vz])/\LowN s/\y=a+s.size/\PE w Q x vx/\PE w Q z vz:=by
 rcases hc with rfl|rfl
 .cases h with
  |lt c s n x z f t a y vx vz hc hs hy hx hz=>exact⟨y,vx,vz,rfl,hs,hy,hx,hz⟩
 .cases h with
  |lt c s n x z f t a y vx vz hc hs hy hx hz=>exact⟨y,vx,vz,rfl,hs,hy,hx,hz⟩
theorem bareE_lt(c:Nat)(hc0:c=10\/c=11)(s:BA)(n:Nat)(x z:Nd)(f t a:Nat)(hss:s.size<=1000)(Hx:AtEC x)(Hz:AtEC z):BareEC (.mk c s n [x,z] f t a):=by
 intro w B pb bv l last mv Q v h hp hq hm hl hB
 obtain⟨y,vx,vz,rfl,hs,hy,hx,hz⟩:=hp.inv_lt hc0
 have hc:=hc0
 have hx0:=hx
 obtain⟨tx,xx,rfl⟩:=hx.iface
 have hz0:=hz
 obtain⟨tz,xz,rfl⟩:=hz.iface
 have esh:=sh_let c hc s n x z f t a
 rw[esh]at hl⊢
 simp only[lqa,lqc,lqn]at hl
 have ha0:=taExpr_Let_Fun
 have ha1:=taExpr_Let_Let
 skip
 have hbW:Below w.heap.size w (w.alloc (.cells #[.int .i64 (f:Int),.int .i64 (t:Int),.bool (c==11),.int .i64 (a:Int),.int .i64 (y:Int),.string s,.iface tx (.agg xx),.iface tz (.agg xz)] 418)):=(bw (.cells #[.int .i64 (f:Int),.int .i64 (t:Int),.bool (c==11),.int .i64 (a:Int),.int .i64 (y:Int),.string s,.iface tx (.agg xx),.iface tz (.agg xz)] 418))
 have zW:(w.alloc (.cells #[.int .i64 (f:Int),.int .i64 (t:Int),.bool (c==11),.int .i64 (a:Int),.int .i64 (y:Int),.string s,.iface tx (.agg xx),.iface tz (.agg xz)] 418)).heap.size=w.heap.size+1:=by simp
 have FW:=FN.of (B:=B) (pb:=pb) hbW
 have hzp:=h.lt
 have N0:=ai (h.bel hbW)
 have F0:=ai (FN.refl B pb (w.alloc (.cells #[.int .i64 (f:Int),.int .i64 (t:Int),.bool (c==11),.int .i64 (a:Int),.int .i64 (y:Int),.string s,.iface tx (.agg xx),.iface tz (.agg xz)] 418)))
 have BXb:=ai (Bx.at w #[.int .i64 (f:Int),.int .i64 (t:Int),.bool (c==11),.int .i64 (a:Int),.int .i64 (y:Int),.string s,.iface tx (.agg xx),.iface tz (.agg xz)] 418 (w.heap.size) (by simp))
 have Vx:=ai (hx0.bel hbW)
 have Vz:=ai (hz0.bel hbW)
 have HM:=ai (hm.fn FW)
 clear hm
 clear hy
 have HQ:=ai (hq.fn FW)
 clear h hq
 go_enter Tryz.func302,Tryz.ntmps302
 obtain⟨c1,fc1,zc1⟩:=(uh F0).pn_ne (uh BXb) (by omega) (by intro x hx c;simp at hx;subst hx;intro q;cases q)
 have HS2:=bindingW_C (c==11) s hs hss x Hx (a:Int) (y:Int) (uh N0) ((uh Vx).fnQ (uh HQ) (uh F0)) ((uh HQ).fn (uh F0)) ((uh HM).fn (uh F0)) (by simp only[lqa,lqc,lqn];omega) hB
 go_wp2_with fail
 clear c1 fc1 zc1
 refine HS2.mono ?_
 rintro e w1⟨rfl,bvw1,lastw1,hN,fiw1,hF⟩
 have N3:=ai hN
 have F4:=ai ((uh F0).trans hF)
 have zw1:=(uh F4).size
 rw[zW]at zw1
 clear hN hF HS2 N0 F0
 have zp5:=(uh N3).lt
 have hb5:Below w1.heap.size w1 (w1.alloc (.cells #[.string kIn] 9)):=bw _
 have eT5:qbs (l++(sep last++letS (c==11) s.toList (sh x))) lastw1 [kIn]=((l++(sep last++letS (c==11) s.toList (sh x)))++([32]++[105,110])):=by
  show(putL' (l++(sep last++letS (c==11) s.toList (sh x))) lastw1 kIn)=_
  rw[qav (qab [105,110]) (by decide) (by decide) (by decide),qba fiw1]
 have HP5:=qbl ((uh N3).bel hb5) [kIn] (by intro t ht;simp only[List.mem_cons,List.not_mem_nil,or_false]at ht;rcases ht with rfl<;>first|decide|assumption) (by simp) (by first|omega|(simp only[lqa,lqc,lqn];omega)) (w1.heap.size) (Bx.at w1 #[.string kIn] 9 (w1.heap.size) (by simp)) (by omega) (Or.inr ((Bx.at w1 #[.string kIn] 9 (w1.heap.size) (by simp)).nby (by intro x hx c;simp at hx;subst hx;intro q;cases q)))
 rw[eT5]at HP5
 go_wp2_with fail
 refine HP5.mono ?_
 rintro e w2⟨rfl,bvw2,hN,hF⟩
 have N6:Hid (PN w2 B pb bvw2 ((l++(sep last++letS (c==11) s.toList (sh x)))++([32]++[105,110])) kIn mv):=ai hN
 have F7:=ai ((uh F4).trans ((FN.of hb5).trans hF))
 have zw2:=(uh F7).size
 rw[zW]at zw2
 clear hN hF HP5 hb5 eT5 N3 F4
 obtain⟨c8,fc8,zc8⟩:=(uh F7).pn_ne (uh BXb) (by omega) (by intro x hx c;simp at hx;subst hx;intro q;cases q)
 have HS9:=Hz w2 B pb _ _ kIn mv Q _ 0 (uh N6) ((uh Vz).fnQ (uh HQ) (uh F7)) ((uh HQ).fn (uh F7)) ((uh HM).fn (uh F7)) (by omega) (by rw[qb7 (qab [105,110]) (by decide) (by decide)];rw[qd6];simp only[lqa,lqc,lqn];omega) hB
 rw[qb7 (qab [105,110]) (by decide) (by decide)]at HS9
 rw[qd6]at HS9
 go_wp2_with fail
 clear c8 fc8 zc8
 refine HS9.mono ?_
 rintro e w3⟨rfl,bvw3,lastw3,hN,fiw3,hF⟩
 have N10:=ai hN
 have F11:=ai ((uh F7).trans hF)
 have zw3:=(uh F11).size
 rw[zW]at zw3
 clear hN hF HS9 N6 F7
 go_wp2_with fail
 go_end0
 refine⟨rfl,bvw3,lastw3,?_,fiw3,FW.trans (uh F11)⟩
 show PN w3 B pb bvw3 (l++(sep last++(letS (c==11) s.toList (sh x)++([32,105,110,32]++sh z)))) lastw3 mv
 rw[show l++(sep last++(letS (c==11) s.toList (sh x)++([32,105,110,32]++sh z)))=(((l++(sep last++letS (c==11) s.toList (sh x)))++([32]++[105,110]))++([32]++sh z)) by simp]
 exact uh N10
end
end
section
open Go Go.RowKit Go.ChangeMaps Un
def qct:Bool->List (Nd×Nd)->List UInt8
 |_,[]=>[]|b,p::r=>([32]++(if b then[119,105,116,104]else[124]))++(([32]++sh p.1)++(([32]++[45,62])++(([32]++sh p.2)++qct false r)))
def armW(b:Bool)(p:Nd×Nd):List UInt8:=([32]++(if b then[119,105,116,104]else[124]))++(([32]++sh p.1)++(([32]++[45,62])++([32]++sh p.2)))
theorem armsW_take:∀(b:Bool)(A:List (Nd×Nd))(j:Nat)(h:j<A.length),qct b (A.take (j+1))=qct b (A.take j)++armW (b&&j==0) A[j]
 |b,[],j,h=>by simp at h|b,p::r,0,h=>by simp[qct,armW]|b,p::r,j+1,h=>by
  have ih:=armsW_take false r j (by simpa using h)
  simp only[List.take_succ_cons,qct,ih,List.getElem_cons_succ]
  simp[armW]
theorem armsW_le(b:Bool):∀(A:List (Nd×Nd))(j:Nat),(qct b (A.take j)).length<=(qct b A).length:=by
 intro A
 induction A generalizing b with
 |nil=>intro j;simp[qct]|cons p r ih=>
  intro j
  cases j with
  |zero=>simp[qct]|succ j=>have:=ih false j;simp only[List.take_succ_cons,qct,lqa]at this⊢;omega
theorem prL_arm:∀A:List (Nd×Nd),∀b,qc6 b (prL (armN A))=(match A with|[]=>[]|p::r=>(if b then[]else[32,124,32])++(sh p.1++([32,45,62,32]++(sh p.2++qc6 false (prL (armN r))))))
 |[],b=>by simp[armN,prL,qc6]|p::r,b=>by simp[armN,prL,qc6]
theorem armsP_W:∀A:List (Nd×Nd),qc6 false (prL (armN A))=qct false A
 |[]=>by simp[armN,prL,qc6,qct]|p::r=>by rw[prL_arm];simp[qct,armsP_W r]
theorem sh_match(s:BA)(n:Nat)(x:Nd)(A:List (Nd×Nd))(h0:A≠[])(f t a:Nat):sh (.mk 13 s n (x::armN A) f t a)=[109,97,116,99,104]++(([32]++sh x)++(qct true A++([32]++[101,110,100]))):=by
 cases A with
 |nil=>exact absurd rfl h0|cons p r=>
  have e:sh (.mk 13 s n (x::armN (p::r)) f t a)=[109,97,116,99,104,32]++(sh x++([32,119,105,116,104,32]++(qc6 true (prL (armN (p::r)))++[32,101,110,100]))):=by simp[sh,qcb,prL,gP]
  rw[e,prL_arm]
  simp[qct,armsP_W r]
def divT(b:Bool):BA:=if b then kWith else kBar
theorem divT_list(b:Bool):(divT b).toList=if b then[119,105,116,104]else[124]:=by cases b<;>exact qab _
def MatchRel(B pb:Nat)(mv:Value)(l:List UInt8)(A:List (Nd×Nd))(w:World)(gk:Nat)(v:Value)(wr:World):Prop:=
 ∃(j:Nat)(bv':Value)(last':BA),Hid (gk=A.length-j)/\j<=A.length/\v=.int .i64 (j:Int)/\PN wr B pb bv' (l++qct true (A.take j)) last' mv/\Fine last'/\FN B pb w wr
section
variable {w:World}
theorem divider_C(i:Nat)(s:BA):Calls Tryz.prog 194 #[.int .i64 (i:Int),.string s] w fun e w'=>e=.returned (.string (if i=0 then s else kBar))/\w=w':=by
 by_cases h:i=0
 .subst h
  go_enter Tryz.func194,Tryz.ntmps194
  go_wp2_with fail
  go_ret
  exact⟨rfl,rfl⟩
 .have h1:((i:Int)==0)=false:=by simp;omega
  go_enter Tryz.func194,Tryz.ntmps194
  go_wp2_with fail
  go_ret
  exact⟨by simp[h],rfl⟩
theorem matchW_C(x:Nd)(A:List (Nd×Nd))(Hx:AtEC x)(HP:∀i(h:i<A.length),AtPC A[i].1)(HE:∀i(h:i<A.length),AtEC A[i].2)(hAl:A.length<=1001){B pb:Nat}{bv:Value}{l:List UInt8}{last:BA}{mv:Value}{Q:Nat->Prop}(f t:Int){tx:TypeId}{xx:Array Value}(g sc:Nat)(vp ve:Nat->Value)(h:PN w B pb bv l last mv)(hx0:PE w Q x (.iface tx (.agg xx)))(hg:Q g)(hgz:g<w.heap.size)(hc:∀i,i<A.length->(∃u v,w.cell? ⟨g,i*4,none⟩=some (.int .i64 u)/\w.cell? ⟨g,i*4+1,none⟩=some (.int .i64 v))/\w.cell? ⟨g,i*4+2,none⟩=some (vp i)/\w.cell? ⟨g,i*4+3,none⟩=some (ve i))(hp:∀i(h:i<A.length),PP w Q A[i].1 (vp i))(he:∀i(h:i<A.length),PE w Q A[i].2 (ve i))(hq:NT w pb Q)(hm:PM w pb mv)(hl:(l++(sep last++([109,97,116,99,104]++(([32]++sh x)++(qct true A++([32]++[101,110,100])))))).length<=800000)(hB:B<=pb):
 Calls Tryz.prog 351 #[.pointer (some ⟨pb,0,none⟩),.agg #[.int .i64 f,.int .i64 t,.iface tx (.agg xx),.slice (some ⟨g,0,none⟩) A.length sc]] w (qcc B pb mv (l++(sep last++([109,97,116,99,104]++(([32]++sh x)++(qct true A++([32]++[101,110,100])))))) w):=by
 simp only[lqa,lqc,lqn]at hl
 have Hq:=ai hq
 have Hc:=ai hc
 have Hp:=ai hp
 have He:=ai he
 have Hm:=ai hm
 clear hc hp he
 have hbW:Below w.heap.size w (w.alloc (.cells #[.int .i64 f,.int .i64 t,.iface tx (.agg xx),.slice (some ⟨g,0,none⟩) A.length sc] 225)):=(bw (.cells #[.int .i64 f,.int .i64 t,.iface tx (.agg xx),.slice (some ⟨g,0,none⟩) A.length sc] 225))
 have zW:(w.alloc (.cells #[.int .i64 f,.int .i64 t,.iface tx (.agg xx),.slice (some ⟨g,0,none⟩) A.length sc] 225)).heap.size=w.heap.size+1:=by simp
 have FW:=FN.of (B:=B) (pb:=pb) hbW
 have hzp:=h.lt
 have N0:=ai (h.bel hbW)
 have F0:=ai (FN.refl B pb (w.alloc (.cells #[.int .i64 f,.int .i64 t,.iface tx (.agg xx),.slice (some ⟨g,0,none⟩) A.length sc] 225)))
 have BXb:=ai (Bx.at w #[.int .i64 f,.int .i64 t,.iface tx (.agg xx),.slice (some ⟨g,0,none⟩) A.length sc] 225 (w.heap.size) (by simp))
 have Vx:=ai (hx0.bel hbW)
 have HM:=ai (hm.fn FW)
 clear hm
 have HQ:=ai (hq.fn FW)
 clear h hq
 go_enter Tryz.func351,Tryz.ntmps351
 have zp1:=(uh N0).lt
 rw[zW]at zp1
 have hb1:Below (w.alloc (.cells #[.int .i64 f,.int .i64 t,.iface tx (.agg xx),.slice (some ⟨g,0,none⟩) A.length sc] 225)).heap.size (w.alloc (.cells #[.int .i64 f,.int .i64 t,.iface tx (.agg xx),.slice (some ⟨g,0,none⟩) A.length sc] 225)) ((w.alloc (.cells #[.int .i64 f,.int .i64 t,.iface tx (.agg xx),.slice (some ⟨g,0,none⟩) A.length sc] 225)).alloc (.cells #[.string qbc] 9)):=bw _
 have eT1:qbs l last [qbc]=(l++(sep last++[109,97,116,99,104])):=by
  show(putL' l last qbc)=_
  rw[qav (qab [109,97,116,99,104]) (by decide) (by decide) (by decide)]
 have HP1:=qbl ((uh N0).bel hb1) [qbc] (by intro t ht;simp only[List.mem_cons,List.not_mem_nil,or_false]at ht;rcases ht with rfl<;>first|decide|assumption) (by simp) (by first|omega|(simp only[lqa,lqc,lqn];omega)) (w.heap.size+1) (Bx.at (w.alloc (.cells #[.int .i64 f,.int .i64 t,.iface tx (.agg xx),.slice (some ⟨g,0,none⟩) A.length sc] 225)) #[.string qbc] 9 (w.heap.size+1) (by simp)) (by omega) (Or.inr ((Bx.at (w.alloc (.cells #[.int .i64 f,.int .i64 t,.iface tx (.agg xx),.slice (some ⟨g,0,none⟩) A.length sc] 225)) #[.string qbc] 9 (w.heap.size+1) (by simp)).nby (by intro x hx c;simp at hx;subst hx;intro q;cases q)))
 rw[eT1]at HP1
 go_wp2_with fail
 refine HP1.mono ?_
 rintro e w1⟨rfl,bvw1,hN,hF⟩
 have N2:Hid (PN w1 B pb bvw1 (l++(sep last++[109,97,116,99,104])) qbc mv):=ai hN
 have F3:=ai ((uh F0).trans ((FN.of hb1).trans hF))
 have zw1:=(uh F3).size
 rw[zW]at zw1
 clear hN hF HP1 hb1 eT1 N0 F0
 obtain⟨c4,fc4,zc4⟩:=(uh F3).pn_ne (uh BXb) (by omega) (by intro x hx c;simp at hx;subst hx;intro q;cases q)
 have HS5:=Hx w1 B pb _ _ qbc mv Q _ 0 (uh N2) ((uh Vx).fnQ (uh HQ) (uh F3)) ((uh HQ).fn (uh F3)) ((uh HM).fn (uh F3)) (by omega) (by rw[qb7 (qab [109,97,116,99,104]) (by decide) (by decide)];rw[qd6];simp only[lqa,lqc,lqn];omega) hB
 rw[qb7 (qab [109,97,116,99,104]) (by decide) (by decide)]at HS5
 rw[qd6]at HS5
 go_wp2_with fail
 clear c4 fc4 zc4
 refine HS5.mono ?_
 rintro e w2⟨rfl,bvw2,lastw2,hN,fiw2,hF⟩
 have N6:=ai hN
 have F7:=ai ((uh F3).trans hF)
 have zw2:=(uh F7).size
 rw[zW]at zw2
 clear hN hF HS5 N2 F3
 obtain⟨c8,fc8,zc8⟩:=(uh F7).pn_ne (uh BXb) (by omega) (by intro x hx c;simp at hx;subst hx;intro q;cases q)
 go_wp2_with fail
 go_loopg[16] A.length (fun gk v wr=>MatchRel B pb mv (l++(sep last++[109,97,116,99,104])++([32]++sh x)) A w gk v wr)
 case atStart=>exact⟨0,bvw2,lastw2,ai rfl,Nat.zero_le _,rfl,by simpa[qct]using uh N6,fiw2,FW.trans (uh F7)⟩
 case round=>
  clear N6 F7 c8 fc8 zc8
  obtain⟨j,bv2,last2,hgk,hj,rfl,N2,fi2,F2⟩:=hrel
  have zF2:=F2.size
  by_cases hjl:j<A.length
  .have hd:(j:Int)<(A.length:Int):=by omega
   obtain⟨⟨u1,u2,k0,k1⟩,k2,k3⟩:=uh Hc j hjl
   have cb:∀o,wr.cell? ⟨g,o,none⟩=w.cell? ⟨g,o,none⟩:=fun o=>World.cell?_of_block (a:=⟨g,o,none⟩) (F2.block g hgz ((uh Hq).q g hg).2.1 (Or.inr ((uh Hq).q g hg).2.2))
   rw[<-cb]at k0 k1 k2 k3
   clear cb
   have PJ:=(uh Hp j hjl).fnQ (uh Hq) F2
   have EJ:=(uh He j hjl).fnQ (uh Hq) F2
   obtain⟨tp,xp,hvp⟩:=PJ.iface
   obtain⟨te,xe,hve⟩:=EJ.iface
   rw[hvp]at PJ k2
   rw[hve]at EJ k3
   have ft:=armsW_take true A j hjl
   have fl:=armsW_le true A (j+1)
   rw[ft]at fl
   simp only[armW,lqa,lqc,lqn]at fl
   have hq:=(uh Hq).fn F2
   have hm:=(uh Hm).fn F2
   obtain⟨db,hdb⟩:∃db,db=(true&&j==0):=⟨_,rfl⟩
   rw[<-hdb]at ft fl
   have hdl:=divT_list db
   have hds:(divT db).size<=1000:=by cases db<;>decide
   have hdn:(divT db).toList≠[41]/\(divT db).toList≠[44]/\(divT db).toList≠[59]/\Fine (divT db):=by unfold Fine;rw[hdl];cases db<;>simp
   obtain⟨d1,d2,d3,dfi⟩:=hdn
   have HD:∀W:World,Calls Tryz.prog 194 #[.int .i64 (j:Int),.string kWith] W fun e w'=>e=.returned (.string (divT db))/\W=w':=fun W=>(divider_C j kWith).mono fun e w' q=>⟨by rw[q.1,hdb];unfold divT;by_cases hj0:j=0<;>simp[hj0],q.2⟩
   rw[<-hdl]at fl
   have HFT:=ai ft
   have Hdl:=ai hdl
   clear ft hdb hdl
   have hbW:Below wr.heap.size wr (wr.alloc (.cells #[.int .i64 u1,.int .i64 u2,.iface tp (.agg xp),.iface te (.agg xe)] 334)):=(bw (.cells #[.int .i64 u1,.int .i64 u2,.iface tp (.agg xp),.iface te (.agg xe)] 334))
   have zW:(wr.alloc (.cells #[.int .i64 u1,.int .i64 u2,.iface tp (.agg xp),.iface te (.agg xe)] 334)).heap.size=wr.heap.size+1:=by simp
   have FW:=FN.of (B:=B) (pb:=pb) hbW
   have hzp:=N2.lt
   have N0:=ai (N2.bel hbW)
   have F0:=ai (FN.refl B pb (wr.alloc (.cells #[.int .i64 u1,.int .i64 u2,.iface tp (.agg xp),.iface te (.agg xe)] 334)))
   have BXarm:=ai (Bx.at wr #[.int .i64 u1,.int .i64 u2,.iface tp (.agg xp),.iface te (.agg xe)] 334 (wr.heap.size) (by simp))
   have Vp:=ai (PJ.bel hbW)
   have Ve:=ai (EJ.bel hbW)
   have HM:=ai (hm.fn FW)
   have HQ:=ai (hq.fn FW)
   clear hm hq
   go_wp2_with fail
   refine(HD _).mono ?_
   rintro e w'⟨rfl,rfl⟩
   clear HD
   have zp401:=(uh N0).lt
   rw[zW]at zp401
   have hb401:Below (wr.alloc (.cells #[.int .i64 u1,.int .i64 u2,.iface tp (.agg xp),.iface te (.agg xe)] 334)).heap.size (wr.alloc (.cells #[.int .i64 u1,.int .i64 u2,.iface tp (.agg xp),.iface te (.agg xe)] 334)) ((wr.alloc (.cells #[.int .i64 u1,.int .i64 u2,.iface tp (.agg xp),.iface te (.agg xe)] 334)).alloc (.cells #[.string (divT db)] 9)):=bw _
   have eT401:qbs ((l++(sep last++[109,97,116,99,104])++([32]++sh x))++qct true (A.take j)) last2 [(divT db)]=(((l++(sep last++[109,97,116,99,104])++([32]++sh x))++qct true (A.take j))++([32]++(divT db).toList)):=by
    show(putL' ((l++(sep last++[109,97,116,99,104])++([32]++sh x))++qct true (A.take j)) last2 (divT db))=_
    rw[qav rfl d1 d2 d3,qba fi2]
   have HP401:=qbl ((uh N0).bel hb401) [(divT db)] (by intro t ht;simp only[List.mem_cons,List.not_mem_nil,or_false]at ht;rcases ht with rfl<;>first|decide|assumption) (by simp) (by first|omega|(simp only[lqa,lqc,lqn];omega)) (wr.heap.size+1) (Bx.at (wr.alloc (.cells #[.int .i64 u1,.int .i64 u2,.iface tp (.agg xp),.iface te (.agg xe)] 334)) #[.string (divT db)] 9 (wr.heap.size+1) (by simp)) (by omega) (Or.inr ((Bx.at (wr.alloc (.cells #[.int .i64 u1,.int .i64 u2,.iface tp (.agg xp),.iface te (.agg xe)] 334)) #[.string (divT db)] 9 (wr.heap.size+1) (by simp)).nby (by intro x hx c;simp at hx;subst hx;intro q;cases q)))
   rw[eT401]at HP401
   go_wp2_with fail
   refine HP401.mono ?_
   rintro e w3⟨rfl,bvw3,hN,hF⟩
   have N402:Hid (PN w3 B pb bvw3 (((l++(sep last++[109,97,116,99,104])++([32]++sh x))++qct true (A.take j))++([32]++(divT db).toList)) (divT db) mv):=ai hN
   have F403:=ai ((uh F0).trans ((FN.of hb401).trans hF))
   have zw3:=(uh F403).size
   rw[zW]at zw3
   clear hN hF HP401 hb401 eT401 N0 F0
   obtain⟨c404,fc404,zc404⟩:=(uh F403).pn_ne (uh BXarm) (by omega) (by intro x hx c;simp at hx;subst hx;intro q;cases q)
   have HS405:=(HP j hjl) w3 B pb _ _ (divT db) mv Q _ 0 (uh N402) ((uh Vp).fnQ (uh HQ) (uh F403)) ((uh HQ).fn (uh F403)) (by omega) (by rw[qba dfi];rw[atPt_0];simp only[lqa,lqc,lqn];omega) hB
   rw[qba dfi]at HS405
   rw[atPt_0]at HS405
   go_wp2_with fail
   clear c404 fc404 zc404
   refine HS405.mono ?_
   rintro e w4⟨rfl,bvw4,lastw4,hN,fiw4,hF⟩
   have N406:=ai hN
   have F407:=ai ((uh F403).trans hF)
   have zw4:=(uh F407).size
   rw[zW]at zw4
   clear hN hF HS405 N402 F403
   have zp408:=(uh N406).lt
   have hb408:Below w4.heap.size w4 (w4.alloc (.cells #[.string kArrow] 9)):=bw _
   have eT408:qbs ((((l++(sep last++[109,97,116,99,104])++([32]++sh x))++qct true (A.take j))++([32]++(divT db).toList))++([32]++sh A[j].1)) lastw4 [kArrow]=(((((l++(sep last++[109,97,116,99,104])++([32]++sh x))++qct true (A.take j))++([32]++(divT db).toList))++([32]++sh A[j].1))++([32]++[45,62])):=by
    show(putL' ((((l++(sep last++[109,97,116,99,104])++([32]++sh x))++qct true (A.take j))++([32]++(divT db).toList))++([32]++sh A[j].1)) lastw4 kArrow)=_
    rw[qav (qab [45,62]) (by decide) (by decide) (by decide),qba fiw4]
   have HP408:=qbl ((uh N406).bel hb408) [kArrow] (by intro t ht;simp only[List.mem_cons,List.not_mem_nil,or_false]at ht;rcases ht with rfl<;>first|decide|assumption) (by simp) (by first|omega|(simp only[lqa,lqc,lqn];omega)) (w4.heap.size) (Bx.at w4 #[.string kArrow] 9 (w4.heap.size) (by simp)) (by omega) (Or.inr ((Bx.at w4 #[.string kArrow] 9 (w4.heap.size) (by simp)).nby (by intro x hx c;simp at hx;subst hx;intro q;cases q)))
   rw[eT408]at HP408
   go_wp2_with fail
   refine HP408.mono ?_
   rintro e w5⟨rfl,bvw5,hN,hF⟩
   have N409:Hid (PN w5 B pb bvw5 (((((l++(sep last++[109,97,116,99,104])++([32]++sh x))++qct true (A.take j))++([32]++(divT db).toList))++([32]++sh A[j].1))++([32]++[45,62])) kArrow mv):=ai hN
   have F410:=ai ((uh F407).trans ((FN.of hb408).trans hF))
   have zw5:=(uh F410).size
   rw[zW]at zw5
   clear hN hF HP408 hb408 eT408 N406 F407
   obtain⟨c411,fc411,zc411⟩:=(uh F410).pn_ne (uh BXarm) (by omega) (by intro x hx c;simp at hx;subst hx;intro q;cases q)
   have HS412:=(HE j hjl) w5 B pb _ _ kArrow mv Q _ 0 (uh N409) ((uh Ve).fnQ (uh HQ) (uh F410)) ((uh HQ).fn (uh F410)) ((uh HM).fn (uh F410)) (by omega) (by rw[qb7 (qab [45,62]) (by decide) (by decide)];rw[qd6];simp only[lqa,lqc,lqn];omega) hB
   rw[qb7 (qab [45,62]) (by decide) (by decide)]at HS412
   rw[qd6]at HS412
   go_wp2_with fail
   clear c411 fc411 zc411
   refine HS412.mono ?_
   rintro e w6⟨rfl,bvw6,lastw6,hN,fiw6,hF⟩
   have N413:=ai hN
   have F414:=ai ((uh F410).trans hF)
   have zw6:=(uh F414).size
   rw[zW]at zw6
   clear hN hF HS412 N409 F410
   go_wp2_with fail
   go_roundg(A.length-(j+1))
   case measure=>rw[uh hgk];omega
   case rel=>
    refine⟨j+1,bvw6,lastw6,ai rfl,by omega,by go_num,?_,fiw6,F2.trans (FW.trans (uh F414))⟩
    rw[uh HFT]
    have e9:(l++(sep last++[109,97,116,99,104])++([32]++sh x))++(qct true (A.take j)++armW db A[j])=((((((l++(sep last++[109,97,116,99,104])++([32]++sh x))++qct true (A.take j))++([32]++(divT db).toList))++([32]++sh A[j].1))++([32]++[45,62]))++([32]++sh A[j].2)):=by rw[uh Hdl];simp[armW]
    rw[e9]
    exact uh N413
  .have hd:decide ((j:Int)<(A.length:Int))=false:=by simp;omega
   have ej:j=A.length:=by omega
   subst ej
   rw[List.take_length]at N2
   have zq:=N2.lt
   have hbE:Below wr.heap.size wr (wr.alloc (.cells #[.string kEnd] 9)):=bw _
   have eT:qbs ((l++(sep last++[109,97,116,99,104])++([32]++sh x))++qct true A) last2 [kEnd]=((l++(sep last++[109,97,116,99,104])++([32]++sh x))++qct true A)++([32]++[101,110,100]):=by
    show(putL' _ last2 kEnd)=_
    rw[qav (qab [101,110,100]) (by decide) (by decide) (by decide),qba fi2]
   have HPE:=qbl (N2.bel hbE) [kEnd] (by intro t ht;simp only[List.mem_cons,List.not_mem_nil,or_false]at ht;subst ht;decide) (by simp) (by simp only[lqa,lqc,lqn];omega) wr.heap.size (Bx.new wr #[.string kEnd] 9) (by omega) (Or.inr ((Bx.new wr #[.string kEnd] 9).nby (by intro x hx c;simp at hx;subst hx;intro q;cases q)))
   rw[eT]at HPE
   go_wp2_with fail
   refine HPE.mono ?_
   rintro e w9⟨rfl,bv9,hN9,hF9⟩
   have HN9:=ai hN9
   have HF9:=ai (F2.trans ((FN.of hbE).trans hF9))
   clear hN9 hF9 HPE
   go_wp2_with fail
   go_end0
   refine⟨rfl,bv9,kEnd,?_,qdt (qab [101,110,100]) (by decide) (by decide),uh HF9⟩
   show PN w9 B pb bv9 (l++(sep last++([109,97,116,99,104]++(([32]++sh x)++(qct true A++([32]++[101,110,100])))))) kEnd mv
   rw[show l++(sep last++([109,97,116,99,104]++(([32]++sh x)++(qct true A++([32]++[101,110,100])))))=((l++(sep last++[109,97,116,99,104])++([32]++sh x))++qct true A)++([32]++[101,110,100]) by simp]
   exact uh HN9
end
end
end Go.Proofs.YtoceemjbcgmojaaGreatDoor

import Derived.Test.YtoceemjbcgmojaaGreatDoorQSp
import Derived.Test.YtoceemjbcgmojaaGreatDoorQSq
import Derived.Test.YtoceemjbcgmojaaGreatDoorQSt
set_option linter.all false
set_option maxRecDepth 100000
set_option maxHeartbeats 200000
namespace Go.Proofs.YtoceemjbcgmojaaGreatDoor
section
open Go Go.RowKit
section
variable {rb g cap:Nat} {T:List Pu.Tok}
theorem less_okD{sum:M Nd}{k k1:Nat}{x:Nd}(h:sum k=.ok (x,k1))(hl:isT (tk T k1) kLess=true):qe8 T sum k=bnd sum (fun y k'=>.ok (.mk 7 kLess 0 [x,y] (tk T k).frm (qan T k') (tk T k).frm,k')) (k1+1):=by
 unfold qe8
 rw[qcd h]
 simp only[hl,if_true]
theorem less_no'{sum:M Nd}{k k1:Nat}{x:Nd}(h:sum k=.ok (x,k1))(hl:isT (tk T k1) kLess=false):qe8 T sum k=.ok (x,k1):=by
 unfold qe8
 rw[qcd h]
 simp[hl]
theorem less_bad{sum:M Nd}{k:Nat}{fl:Fl}(h:sum k=.error fl):qe8 T sum k=.error fl:=by
 unfold qe8
 rw[qb8 h]
theorem exprD_C:∀n,NodeC rb g cap T 120 #[.pointer (some ⟨rb,0,none⟩)] (qaq T n) n
 |0=>by
  intro w σ h hf
  cases σ with
  |ok k=>
   have:=hf k rfl
   have:=mlt h
   omega
  |error fl=>
   have H0:=small_C0 (rb:=rb) (g:=g) (cap:=cap) (T:=T) 3 (qam T (qaq T 0) (typM T 0) 3)
   have HS:=sum_C (product_C (call_C H0 (qaw (qdg 0) (qa2 0) 3)) (qd8 (qaw (qdg 0) (qa2 0) 3))) (prod_lts (qd8 (qaw (qdg 0) (qa2 0) 3)))
   refine(less_no HS h (fun k q=>by cases q) rfl rfl rfl rfl rfl).mono ?_
   rintro e w'⟨x,e1,e2,e3,_⟩
   exact⟨x,e1,e2,e3,fun k a k' q=>by cases q⟩
 |n+1=>by
  have HE:=exprD_C n
  have hmE:Mono (qaq T n):=qdg n
  have HF:=function_C HE
  have HI:=choice_C HE hmE
  have HM:=match_C (pat_C n) HE (qdk n) hmE
  have HB:=bound_C HE HF
  have hsm:=qaw (T:=T) hmE (qa2 (T:=T) n) 3
  have HS:=sum_C (product_C (call_C (small_C 3 (by simp) (part_expr HE) (fun _=>typ_C n) hmE) hsm) (qd8 hsm)) (prod_lts (qd8 hsm))
  have hsl:∀k a k',sumM T (qby T (qbh T (qam T (qaq T n) (typM T n) 3))) k=.ok (a,k')->k<k':=sum_lts (prod_lts (qd8 hsm))
  intro w σ h hf
  cases σ with
  |error fl=>
   refine(less_no HS h (fun k q=>by cases q) rfl rfl rfl rfl rfl).mono ?_
   rintro e w'⟨x,e1,e2,e3,_⟩
   exact⟨x,e1,e2,e3,fun k a k' q=>by cases q⟩
  |ok k=>
   have hk:=hf k rfl
   cases h0:isT (tk T k) kFun with
   |true=>
    have e0:qaq T (n+1) k=funM T (qaq T n) k:=by simp only[qaq,h0,if_true]
    refine(expr_function HF h hf h0).mono ?_
    rintro e w'⟨x,e1,e2,e3,e4⟩
    refine⟨x,e1,e2,?_,fun k1 a k' q r=>?_⟩
    .simp only[nx]at e3⊢;rw[e0];exact e3
    .cases q;rw[e0]at r;exact e4 k a k' rfl r
   |false=>
    cases h1:isT (tk T k) kIf with
    |true=>
     have e0:qaq T (n+1) k=qdr T (qaq T n) k:=by simp[qaq,h0,h1]
     refine(expr_choice HI h hf h0 h1).mono ?_
     rintro e w'⟨x,e1,e2,e3,e4⟩
     refine⟨x,e1,e2,?_,fun k1 a k' q r=>?_⟩
     .simp only[nx]at e3⊢;rw[e0];exact e3
     .cases q;rw[e0]at r;exact e4 k a k' rfl r
    |false=>
     cases h2:isT (tk T k) qbc with
     |true=>
      have e0:qaq T (n+1) k=qel T (patM T n) (qaq T n) k:=by simp[qaq,h0,h1,h2]
      refine(expr_match HM h hf h0 h1 h2).mono ?_
      rintro e w'⟨x,e1,e2,e3,e4⟩
      refine⟨x,e1,e2,?_,fun k1 a k' q r=>?_⟩
      .simp only[nx]at e3⊢;rw[e0];exact e3
      .cases q;rw[e0]at r;exact e4 k a k' rfl r
     |false=>
      cases h3:isT (tk T k) kLet with
      |true=>
       have e0:qaq T (n+1) k=letM T (qaq T n) k:=by simp[qaq,h0,h1,h2,h3]
       refine(expr_let HB HE hmE h hf h0 h1 h2 h3).mono ?_
       rintro e w'⟨x,e1,e2,e3,e4⟩
       refine⟨x,e1,e2,?_,fun k1 a k' q r=>?_⟩
       .simp only[nx]at e3⊢;rw[e0];exact e3
       .cases q;rw[e0]at r;exact e4 k a k' rfl r
      |false=>
       have e0:qaq T (n+1) k=qe8 T (sumM T (qby T (qbh T (qam T (qaq T n) (typM T n) 3)))) k:=by simp[qaq,h0,h1,h2,h3]
       generalize hsum:sumM T (qby T (qbh T (qam T (qaq T n) (typM T n) 3)))=sum at HS hsl e0
       cases hs:sum k with
       |error fl=>
        refine(less_no HS h hf h0 h1 h2 h3 (by simp[nx,hs,isS])).mono ?_
        rintro e w'⟨x,e1,e2,e3,e4⟩
        refine⟨x,e1,e2,?_,fun k1 a k' q r=>?_⟩
        .simp only[nx,hs]at e3⊢;rw[e0,less_bad hs];exact e3
        .cases q;rw[e0,less_bad hs]at r;cases r
       |ok p=>
        obtain⟨x0,k1⟩:=p
        cases hl:isT (tk T k1) kLess with
        |false=>
         refine(less_no HS h hf h0 h1 h2 h3 (by simp[nx,hs,isS,hl])).mono ?_
         rintro e w'⟨x,e1,e2,e3,e4⟩
         refine⟨x,e1,e2,?_,fun k2 a k' q r=>?_⟩
         .simp only[nx,hs]at e3⊢;rw[e0,less_no' hs hl];exact e3
         .cases q;rw[e0,less_no' hs hl]at r;cases r;exact e4 k x0 k1 rfl hs
        |true=>
         refine(less_yes HS hsl h hk h0 h1 h2 h3 hs hl).mono ?_
         rintro e w'⟨x,e1,e2,e3,e4⟩
         refine⟨x,e1,e2,?_,fun k2 a k' q r=>?_⟩
         .simp only[nx]at e3⊢
          rw[e0,less_okD hs hl]
          cases hs2:sum (k1+1)with
          |error fl=>rw[qb8 hs2];simpa[hs2]using e3|ok p2=>obtain⟨y,k3⟩:=p2;rw[qcd hs2];simpa[hs2]using e3
         .cases q
          rw[e0,less_okD hs hl]at r
          obtain⟨y,k3,q1,r1⟩:=qad r
          cases r1
          exact e4 y k' q1
end
end
end Go.Proofs.YtoceemjbcgmojaaGreatDoor

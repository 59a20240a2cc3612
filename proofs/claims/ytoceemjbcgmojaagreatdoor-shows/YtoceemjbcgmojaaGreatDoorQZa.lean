import Derived.Test.YtoceemjbcgmojaaGreatDoorQIc
import Derived.Test.YtoceemjbcgmojaaGreatDoorQYb
import Derived.Test.YtoceemjbcgmojaaGreatDoorQVb
set_option linter.all false
set_option maxRecDepth 100000
set_option maxHeartbeats 10000000
namespace Go.Proofs.YtoceemjbcgmojaaGreatDoor
section
open Go Go.RowKit Go.ChangeMaps Un
def atW(nd:Nd)(p:Nat):List UInt8:=Un.par (decide (lv nd-1<p)) (sh nd)
theorem qd6(nd:Nd):atW nd 0=sh nd:=by unfold atW;rw[show decide (lv nd-1<0)=false by simp];rfl
theorem atW_at(nd:Nd)(p:Nat)(h:1<=p):atW nd p=atP (lv nd,sh nd) (p+1):=by
 unfold atW atP
 rw[show decide (lv nd-1<p)=decide (lv nd<p+1) by simp;omega]
theorem par_f(x:List UInt8):Un.par false x=x:=rfl
theorem par_t(x:List UInt8):Un.par true x=40::(x++[41]):=rfl
def qbs(l:List UInt8)(last:BA):List BA->List UInt8
 |[]=>l|t::ts=>qbs (putL' l last t) t ts
def lastOf(last:BA):List BA->BA
 |[]=>last|t::ts=>lastOf t ts
theorem putsL_app(l:List UInt8)(last:BA)(ts us:List BA):qbs l last (ts++us)=qbs (qbs l last ts) (lastOf last ts) us:=by
 induction ts generalizing l last with
 |nil=>rfl|cons t ts ih=>simp only[List.cons_append,qbs,lastOf,ih]
theorem lastOf_app(last:BA)(ts us:List BA):lastOf last (ts++us)=lastOf (lastOf last ts) us:=by
 induction ts generalizing last with
 |nil=>rfl|cons t ts ih=>simp only[List.cons_append,lastOf,ih]
theorem putL_len(l:List UInt8)(last t:BA):(putL' l last t).length<=l.length+1+t.size:=by
 unfold putL'
 split<;>simp<;>omega
theorem putsL_len(l:List UInt8)(last:BA)(ts:List BA)(h:∀t∈ts,t.size<=1000):(qbs l last ts).length<=l.length+ts.length*1001:=by
 induction ts generalizing l last with
 |nil=>simp[qbs]|cons t ts ih=>
  have h1:=ih (putL' l last t) t (fun x hx=>h x (List.mem_cons_of_mem _ hx))
  have h2:=putL_len l last t
  have h3:=h t (List.mem_cons_self ..)
  simp only[qbs,lqc]at*
  omega
def PutsRel(B pb:Nat)(l:List UInt8)(last:BA)(ts:List BA)(mv:Value)(w:World)(gk:Nat)(v:Value)(wr:World):Prop:=
 ∃(j:Nat)(bv':Value),Hid (gk=ts.length-j)/\j<=ts.length/\v=.int .i64 (j:Int)/\PN wr B pb bv' (qbs l last (ts.take j)) (lastOf last (ts.take j)) mv/\FN B pb w wr
section
variable {w:World} {B pb:Nat} {bv:Value} {l:List UInt8} {last:BA} {mv:Value}
theorem qbl(h:PN w B pb bv l last mv)(ts:List BA)(ht:∀t∈ts,t.size<=1000)(hn:ts.length<=10)(hl:l.length<=850000)(g:Nat)(hg:Bx w g (ts.map Value.string).toArray)(hgp:g≠pb)(hgn:g<B\/Nby w g):
 Calls Tryz.prog 193 #[.pointer (some ⟨pb,0,none⟩),.slice (some ⟨g,0,none⟩) ts.length ts.length] w fun e w'=>e=.returned (.tuple #[])/\∃bv',PN w' B pb bv' (qbs l last ts) (lastOf last ts) mv/\FN B pb w w':=by
 have HN:=ai h
 have HG:=ai hg
 have Hgn:=ai hgn
 clear h hg hgn
 go_enter Tryz.func193,Tryz.ntmps193
 go_wp2_with fail
 go_loopg[8] ts.length (fun gk v wr=>PutsRel B pb l last ts mv w gk v wr)
 case atStart=>exact⟨0,bv,ai rfl,Nat.zero_le _,rfl,uh HN,FN.refl _ _ _⟩
 case round=>
  obtain⟨j,bv',hgk,hj,rfl,N,F⟩:=hrel
  by_cases hjl:j<ts.length
  .have hd:(j:Int)<(ts.length:Int):=by omega
   have hmem:=ht _ (List.getElem_mem hjl)
   have hG:=(uh HG).fn hgp (uh Hgn) F
   have cg:wr.cell? ⟨g,j,none⟩=some (.string ts[j]):=by rw[hG.c j];simp[hjl]
   have hlen:=putsL_len l last (ts.take j) (fun t q=>ht t (List.mem_of_mem_take q))
   simp only[List.length_take]at hlen
   have htk:ts.take (j+1)=ts.take j++[ts[j]]:=by rw[List.take_add_one,List.getElem?_eq_getElem hjl];rfl
   have htk1:=ai (show qbs l last (ts.take (j+1))=putL' (qbs l last (ts.take j)) (lastOf last (ts.take j)) ts[j] by rw[htk,putsL_app];rfl)
   have htk2:=ai (show lastOf last (ts.take (j+1))=ts[j] by rw[htk,lastOf_app];rfl)
   obtain⟨c2,f2⟩:=N.cells
   have HN:=ai N
   have HF:=ai F
   clear N F hG htk
   generalize qbs l last (ts.take j)=lj at HN hlen htk1 c2
   generalize lastOf last (ts.take j)=lastj at HN htk1 c2
   generalize hu:ts[j]=tj at cg hmem htk1 htk2
   clear hu
   have hm9:min j ts.length<=10:=by omega
   by_cases hsp:spB lastj tj=true
   .go_wp2_with(first|(go_at_call 298;refine(spaced_C lastj tj).mono ?_;rw[hsp];rintro e w'⟨rfl,rfl⟩)|(go_at_call 197;refine(writeByte_C (uh HN) 32 (by omega)).mono ?_;rintro e w1⟨rfl,bv1,hN1,hF1⟩;have HN1:=ai hN1;have HF1:=ai ((uh HF).trans (Fr.fn (uh HN) hF1));clear hN1 hF1)|(go_at_call 299;refine(qeh (uh HN1) tj (by omega) (by simp;omega)).mono ?_;rintro e w2⟨rfl,bv2,hN2,hF2⟩;have HN2:=ai hN2;have HF2:=ai ((uh HF1).trans (Fr.fn (uh HN1) hF2));obtain⟨c3,f3⟩:=hN2.cells;clear hN2 hF2))
    go_roundg(ts.length-(j+1))
    case measure=>rw[uh hgk];omega
    case rel=>exact⟨j+1,bv2,ai rfl,by omega,by go_num,by rw[uh htk1,uh htk2];unfold putL';rw[if_pos hsp];exact(uh HN2).last_ tj,(uh HF2).trans (FN.last_ _ _ _ _)⟩
   .have hsp':spB lastj tj=false:=by simpa using hsp
    go_wp2_with(first|(go_at_call 298;refine(spaced_C lastj tj).mono ?_;rw[hsp'];rintro e w'⟨rfl,rfl⟩)|(go_at_call 299;refine(qeh (uh HN) tj (by omega) (by omega)).mono ?_;rintro e w2⟨rfl,bv2,hN2,hF2⟩;have HN2:=ai hN2;have HF2:=ai ((uh HF).trans (Fr.fn (uh HN) hF2));obtain⟨c3,f3⟩:=hN2.cells;clear hN2 hF2))
    go_roundg(ts.length-(j+1))
    case measure=>rw[uh hgk];omega
    case rel=>exact⟨j+1,bv2,ai rfl,by omega,by go_num,by rw[uh htk1,uh htk2];unfold putL';rw[if_neg hsp,List.append_nil];exact(uh HN2).last_ tj,(uh HF2).trans (FN.last_ _ _ _ _)⟩
  .have hd:decide ((j:Int)<(ts.length:Int))=false:=by simp;omega
   have ej:j=ts.length:=by omega
   subst ej
   rw[List.take_length]at N
   go_wp2_with fail
   go_end0
   exact⟨rfl,bv',N,F⟩
end
end
section
open Go Go.RowKit Go.ChangeMaps Un
abbrev opW(a b c d:Nat):Value:=.func (.func 296) #[] #[.pointer (some ⟨a,0,none⟩),.pointer (some ⟨b,0,none⟩),.pointer (some ⟨c,0,none⟩),.pointer (some ⟨d,0,none⟩)]
def opN(i j:Nat):Nat:=([[0,1,1],[1,1,2],[1,1,2],[2,2,3]].getD i []).getD j 0
def opB(pb i j:Nat):Value:=if j=0 then .pointer (some ⟨pb,0,none⟩)else .int .i64 ((opN i (j-1):Nat):Int)
def PM(w:World)(pb:Nat)(mv:Value):Prop:=
 ∃(mb:Nat)(x:Nat->Nat->Nat),mv=.map (some mb)/\mb≠pb/\MS Value.string w mb [(kLess,opW (x 0 0) (x 0 1) (x 0 2) (x 0 3)),(kPlus,opW (x 1 0) (x 1 1) (x 1 2) (x 1 3)),(kMinus,opW (x 2 0) (x 2 1) (x 2 2) (x 2 3)),(kStar,opW (x 3 0) (x 3 1) (x 3 2) (x 3 3))]/\∀i j,i<4->j<4->x i j≠pb/\Bx w (x i j) #[opB pb i j]
theorem opB_nby(pb i j:Nat)(y:Value)(h:(#[opB pb i j]:Array Value)[0]? =some y)(c:Int):y≠.int .u8 c:=by
 simp at h
 subst h
 unfold opB
 split<;>(intro q;cases q)
theorem PM.fn{B pb:Nat}{w w':World}{mv:Value}(h:PM w pb mv)(hf:FN B pb w w'):PM w' pb mv:=by
 obtain⟨mb,x,e,hn,hM,hB⟩:=h
 refine⟨mb,x,e,hn,hM.same (hf.block mb hM.lt hn (Or.inr ?_)),fun i j hi hj=>⟨(hB i j hi hj).1,hf.pn_ne (hB i j hi hj).2 (hB i j hi hj).1 (opB_nby pb i j)⟩⟩
 obtain⟨es,clock,hb,_⟩:=hM
 intro y hy c
 simp[World.cell?,hb]at hy
section
variable {w:World} {B pb:Nat} {bv:Value} {l:List UInt8} {last:BA} {mv:Value}
theorem penOp_X(p x y z:Nat):Calls Tryz.prog 192 #[.pointer (some ⟨p,0,none⟩),.int .i64 (x:Int),.int .i64 (y:Int),.int .i64 (z:Int)] w fun e w'=>∃a b c d,e=.returned (opW a b c d)/\w.heap.size<=a/\w.heap.size<=b/\w.heap.size<=c/\w.heap.size<=d/\Bx w' a #[.pointer (some ⟨p,0,none⟩)]/\Bx w' b #[.int .i64 (x:Int)]/\Bx w' c #[.int .i64 (y:Int)]/\Bx w' d #[.int .i64 (z:Int)]/\Below w.heap.size w w':=by
 have hmf:∀(fn:Fn)(first cap:Array Value)(w:World),(Instr.makeFunc fn first cap).run Tryz.prog w=.ok (.func fn first cap) w:=fun _ _ _ _=>rfl
 go_enter Tryz.func192,Tryz.ntmps192
 go_wp2_with fail
 go_ret
 refine⟨w.heap.size,w.heap.size+1,w.heap.size+2,w.heap.size+3,rfl,br _,by omega,by omega,by omega,?_,?_,?_,?_,(((bw _).alloc (by simp) _).alloc (by simp;omega) _).alloc (by simp;omega) _⟩
 .exact(((Bx.new w #[.pointer (some ⟨p,0,none⟩)] _).alloc _).alloc _).alloc _
 .exact((Bx.at _ #[.int .i64 (x:Int)] _ _ (by simp)).alloc _).alloc _
 .exact(Bx.at _ #[.int .i64 (y:Int)] _ _ (by simp)).alloc _
 .exact Bx.at _ #[.int .i64 (z:Int)] _ _ (by simp)
theorem penRules_X(p:Nat):Calls Tryz.prog 110 #[.pointer (some ⟨p,0,none⟩)] w fun e w'=>∃(mb:Nat)(x:Nat->Nat->Nat),e=.returned (.map (some mb))/\w.heap.size<=mb/\MS Value.string w' mb [(kLess,opW (x 0 0) (x 0 1) (x 0 2) (x 0 3)),(kPlus,opW (x 1 0) (x 1 1) (x 1 2) (x 1 3)),(kMinus,opW (x 2 0) (x 2 1) (x 2 2) (x 2 3)),(kStar,opW (x 3 0) (x 3 1) (x 3 2) (x 3 3))]/\(∀i j,i<4->j<4->w.heap.size<=x i j/\Bx w' (x i j) #[opB p i j])/\Below w.heap.size w w':=by
 have H:=ai (Ma.new (w:=w))
 have HB:=ai ((Below.refl w.heap.size w).alloc (br _) (.map #[] 0))
 have hmm:= @run_makeMap Tryz.prog
 go_enter Tryz.func110,Tryz.ntmps110
 go_wp2_with fail
 refine(penOp_X p 0 1 1).mono ?_
 intro e w1 hp
 obtain⟨a0,b0,c0,d0,rfl,ha,hb',hc,hd,ya,yb,yc,yd,hb⟩:=hp
 have la0:=Nat.lt_of_lt_of_le (uh H).lt ha
 have lb0:=Nat.lt_of_lt_of_le (uh H).lt hb'
 have lc0:=Nat.lt_of_lt_of_le (uh H).lt hc
 have ld0:=Nat.lt_of_lt_of_le (uh H).lt hd
 have Xa0:=ai ya
 have Xb0:=ai yb
 have Xc0:=ai yc
 have Xd0:=ai yd
 have H:=ai ((uh H).below hb)
 have HB:=ai ((uh HB).trans (hb.mono (uh HB).size))
 clear hb ha hb' hc hd ya yb yc yd
 go_wp2_with(refine qbx _ rfl _ _ _ _ (Or.inl rfl) (KL.str Tryz.underlying9) Tryz.underlying135 _ _ rfl (uh H) _ _ rfl rfl trivial (fun _ _=>trivial) ?_;clear H;intro w' H' O';have H:=ai H';have HB:=ai (One.below (uh HB) O' (by exact br _));have Xa0:=ai ((uh Xa0).one O' (Nat.ne_of_gt la0));have Xb0:=ai ((uh Xb0).one O' (Nat.ne_of_gt lb0));have Xc0:=ai ((uh Xc0).one O' (Nat.ne_of_gt lc0));have Xd0:=ai ((uh Xd0).one O' (Nat.ne_of_gt ld0));clear H' O')
 refine(penOp_X p 1 1 2).mono ?_
 intro e w2 hp
 obtain⟨a1,b1,c1,d1,rfl,ha,hb',hc,hd,ya,yb,yc,yd,hb⟩:=hp
 have la1:=Nat.lt_of_lt_of_le (uh H).lt ha
 have lb1:=Nat.lt_of_lt_of_le (uh H).lt hb'
 have lc1:=Nat.lt_of_lt_of_le (uh H).lt hc
 have ld1:=Nat.lt_of_lt_of_le (uh H).lt hd
 have Xa0:=ai ((uh Xa0).below hb)
 have Xb0:=ai ((uh Xb0).below hb)
 have Xc0:=ai ((uh Xc0).below hb)
 have Xd0:=ai ((uh Xd0).below hb)
 have Xa1:=ai ya
 have Xb1:=ai yb
 have Xc1:=ai yc
 have Xd1:=ai yd
 have H:=ai ((uh H).below hb)
 have HB:=ai ((uh HB).trans (hb.mono (uh HB).size))
 clear hb ha hb' hc hd ya yb yc yd
 go_wp2_with(refine qbx _ rfl _ _ _ _ (Or.inl rfl) (KL.str Tryz.underlying9) Tryz.underlying135 _ _ rfl (uh H) _ _ rfl rfl trivial (fun _ _=>trivial) ?_;clear H;intro w' H' O';have H:=ai H';have HB:=ai (One.below (uh HB) O' (by exact br _));have Xa0:=ai ((uh Xa0).one O' (Nat.ne_of_gt la0));have Xb0:=ai ((uh Xb0).one O' (Nat.ne_of_gt lb0));have Xc0:=ai ((uh Xc0).one O' (Nat.ne_of_gt lc0));have Xd0:=ai ((uh Xd0).one O' (Nat.ne_of_gt ld0));have Xa1:=ai ((uh Xa1).one O' (Nat.ne_of_gt la1));have Xb1:=ai ((uh Xb1).one O' (Nat.ne_of_gt lb1));have Xc1:=ai ((uh Xc1).one O' (Nat.ne_of_gt lc1));have Xd1:=ai ((uh Xd1).one O' (Nat.ne_of_gt ld1));clear H' O')
 refine(penOp_X p 1 1 2).mono ?_
 intro e w3 hp
 obtain⟨a2,b2,c2,d2,rfl,ha,hb',hc,hd,ya,yb,yc,yd,hb⟩:=hp
 have la2:=Nat.lt_of_lt_of_le (uh H).lt ha
 have lb2:=Nat.lt_of_lt_of_le (uh H).lt hb'
 have lc2:=Nat.lt_of_lt_of_le (uh H).lt hc
 have ld2:=Nat.lt_of_lt_of_le (uh H).lt hd
 have Xa0:=ai ((uh Xa0).below hb)
 have Xb0:=ai ((uh Xb0).below hb)
 have Xc0:=ai ((uh Xc0).below hb)
 have Xd0:=ai ((uh Xd0).below hb)
 have Xa1:=ai ((uh Xa1).below hb)
 have Xb1:=ai ((uh Xb1).below hb)
 have Xc1:=ai ((uh Xc1).below hb)
 have Xd1:=ai ((uh Xd1).below hb)
 have Xa2:=ai ya
 have Xb2:=ai yb
 have Xc2:=ai yc
 have Xd2:=ai yd
 have H:=ai ((uh H).below hb)
 have HB:=ai ((uh HB).trans (hb.mono (uh HB).size))
 clear hb ha hb' hc hd ya yb yc yd
 go_wp2_with(refine qbx _ rfl _ _ _ _ (Or.inl rfl) (KL.str Tryz.underlying9) Tryz.underlying135 _ _ rfl (uh H) _ _ rfl rfl trivial (fun _ _=>trivial) ?_;clear H;intro w' H' O';have H:=ai H';have HB:=ai (One.below (uh HB) O' (by exact br _));have Xa0:=ai ((uh Xa0).one O' (Nat.ne_of_gt la0));have Xb0:=ai ((uh Xb0).one O' (Nat.ne_of_gt lb0));have Xc0:=ai ((uh Xc0).one O' (Nat.ne_of_gt lc0));have Xd0:=ai ((uh Xd0).one O' (Nat.ne_of_gt ld0));have Xa1:=ai ((uh Xa1).one O' (Nat.ne_of_gt la1));have Xb1:=ai ((uh Xb1).one O' (Nat.ne_of_gt lb1));have Xc1:=ai ((uh Xc1).one O' (Nat.ne_of_gt lc1));have Xd1:=ai ((uh Xd1).one O' (Nat.ne_of_gt ld1));have Xa2:=ai ((uh Xa2).one O' (Nat.ne_of_gt la2));have Xb2:=ai ((uh Xb2).one O' (Nat.ne_of_gt lb2));have Xc2:=ai ((uh Xc2).one O' (Nat.ne_of_gt lc2));have Xd2:=ai ((uh Xd2).one O' (Nat.ne_of_gt ld2));clear H' O')
 refine(penOp_X p 2 2 3).mono ?_
 intro e w4 hp
 obtain⟨a3,b3,c3,d3,rfl,ha,hb',hc,hd,ya,yb,yc,yd,hb⟩:=hp
 have la3:=Nat.lt_of_lt_of_le (uh H).lt ha
 have lb3:=Nat.lt_of_lt_of_le (uh H).lt hb'
 have lc3:=Nat.lt_of_lt_of_le (uh H).lt hc
 have ld3:=Nat.lt_of_lt_of_le (uh H).lt hd
 have Xa0:=ai ((uh Xa0).below hb)
 have Xb0:=ai ((uh Xb0).below hb)
 have Xc0:=ai ((uh Xc0).below hb)
 have Xd0:=ai ((uh Xd0).below hb)
 have Xa1:=ai ((uh Xa1).below hb)
 have Xb1:=ai ((uh Xb1).below hb)
 have Xc1:=ai ((uh Xc1).below hb)
 have Xd1:=ai ((uh Xd1).below hb)
 have Xa2:=ai ((uh Xa2).below hb)
 have Xb2:=ai ((uh Xb2).below hb)
 have Xc2:=ai ((uh Xc2).below hb)
 have Xd2:=ai ((uh Xd2).below hb)
 have Xa3:=ai ya
 have Xb3:=ai yb
 have Xc3:=ai yc
 have Xd3:=ai yd
 have H:=ai ((uh H).below hb)
 have HB:=ai ((uh HB).trans (hb.mono (uh HB).size))
 clear hb ha hb' hc hd ya yb yc yd
 go_wp2_with(refine qbx _ rfl _ _ _ _ (Or.inl rfl) (KL.str Tryz.underlying9) Tryz.underlying135 _ _ rfl (uh H) _ _ rfl rfl trivial (fun _ _=>trivial) ?_;clear H;intro w' H' O';have H:=ai H';have HB:=ai (One.below (uh HB) O' (by exact br _));have Xa0:=ai ((uh Xa0).one O' (Nat.ne_of_gt la0));have Xb0:=ai ((uh Xb0).one O' (Nat.ne_of_gt lb0));have Xc0:=ai ((uh Xc0).one O' (Nat.ne_of_gt lc0));have Xd0:=ai ((uh Xd0).one O' (Nat.ne_of_gt ld0));have Xa1:=ai ((uh Xa1).one O' (Nat.ne_of_gt la1));have Xb1:=ai ((uh Xb1).one O' (Nat.ne_of_gt lb1));have Xc1:=ai ((uh Xc1).one O' (Nat.ne_of_gt lc1));have Xd1:=ai ((uh Xd1).one O' (Nat.ne_of_gt ld1));have Xa2:=ai ((uh Xa2).one O' (Nat.ne_of_gt la2));have Xb2:=ai ((uh Xb2).one O' (Nat.ne_of_gt lb2));have Xc2:=ai ((uh Xc2).one O' (Nat.ne_of_gt lc2));have Xd2:=ai ((uh Xd2).one O' (Nat.ne_of_gt ld2));have Xa3:=ai ((uh Xa3).one O' (Nat.ne_of_gt la3));have Xb3:=ai ((uh Xb3).one O' (Nat.ne_of_gt lb3));have Xc3:=ai ((uh Xc3).one O' (Nat.ne_of_gt lc3));have Xd3:=ai ((uh Xd3).one O' (Nat.ne_of_gt ld3));clear H' O')
 go_ret
 refine⟨_,fun i j=>([[a0,b0,c0,d0],[a1,b1,c1,d1],[a2,b2,c2,d2],[a3,b3,c3,d3]].getD i []).getD j 0,rfl,br _,uh H,?_,uh HB⟩
 intro i j hi hj
 match i,hi,j,hj with
 |0,_,0,_=>exact⟨Nat.le_of_lt la0,uh Xa0⟩|0,_,1,_=>exact⟨Nat.le_of_lt lb0,uh Xb0⟩|0,_,2,_=>exact⟨Nat.le_of_lt lc0,uh Xc0⟩|0,_,3,_=>exact⟨Nat.le_of_lt ld0,uh Xd0⟩|1,_,0,_=>exact⟨Nat.le_of_lt la1,uh Xa1⟩|1,_,1,_=>exact⟨Nat.le_of_lt lb1,uh Xb1⟩|1,_,2,_=>exact⟨Nat.le_of_lt lc1,uh Xc1⟩|1,_,3,_=>exact⟨Nat.le_of_lt ld1,uh Xd1⟩|2,_,0,_=>exact⟨Nat.le_of_lt la2,uh Xa2⟩|2,_,1,_=>exact⟨Nat.le_of_lt lb2,uh Xb2⟩|2,_,2,_=>exact⟨Nat.le_of_lt lc2,uh Xc2⟩|2,_,3,_=>exact⟨Nat.le_of_lt ld2,uh Xd2⟩|3,_,0,_=>exact⟨Nat.le_of_lt la3,uh Xa3⟩|3,_,1,_=>exact⟨Nat.le_of_lt lb3,uh Xb3⟩|3,_,2,_=>exact⟨Nat.le_of_lt lc3,uh Xc3⟩|3,_,3,_=>exact⟨Nat.le_of_lt ld3,uh Xd3⟩
theorem newPen_X:Calls Tryz.prog 51 #[] w fun e w'=>e=.returned (.pointer (some ⟨w.heap.size,0,none⟩))/\(∃mv,PN w' w.heap.size w.heap.size (.slice none 0 0) [] ⟨#[]⟩ mv/\PM w' w.heap.size mv)/\Below w.heap.size w w':=by
 have hb0:Below w.heap.size w (w.alloc (.cells #[.pointer none,.slice none 0 0,.string ⟨#[]⟩,.map none] 137)):=bw _
 have h0:(w.alloc (.cells #[.pointer none,.slice none 0 0,.string ⟨#[]⟩,.map none] 137)).heap[w.heap.size]? =some (.cells #[.pointer none,.slice none 0 0,.string ⟨#[]⟩,.map none] 137 (0,0)):=(MapKept.heap_alloc w _).1
 have H0:=ai h0
 have hz:(w.alloc (.cells #[.pointer none,.slice none 0 0,.string ⟨#[]⟩,.map none] 137)).heap.size=w.heap.size+1:=by simp
 clear h0
 go_enter Tryz.func51,Tryz.ntmps51
 go_wp2_with fail
 refine(penRules_X w.heap.size).mono ?_
 rintro e w1⟨mb,x,rfl,hle,hM,hX,hb⟩
 have h1:w1.heap[w.heap.size]? =some (.cells #[.pointer none,.slice none 0 0,.string ⟨#[]⟩,.map none] 137 (0,0)):=(hb.block _ (by simp)).trans (uh H0)
 have c3:w1.cell? ⟨w.heap.size,3,none⟩=some (.map none):=(by simp[World.cell?,h1])
 have f3:w1.frozen? ⟨w.heap.size,3,none⟩=false:=(by simp[World.frozen?,h1])
 have H1:=ai h1
 have HB1:=ai (hb0.trans (hb.mono hb0.size))
 rw[hz]at hle hX
 have HM:=ai hM
 have HX:=ai hX
 clear h1 hb hM hX
 go_wp2_with fail
 go_ret
 have hzz:=(uh HB1).size
 refine⟨rfl,⟨.map (some mb),⟨⟨_,(qd2 (uh H1) 3 _).trans (by simp),Or.inl rfl⟩,⟨rfl,Or.inl ⟨rfl,rfl⟩⟩,fun _=>rfl,by simp[World.setCell];exact hzz⟩,mb,x,rfl,by omega,(uh HM).setC (by omega) 3 _,fun i j hi hj=>?_⟩,(uh HB1).setCell (p:=⟨w.heap.size,3,none⟩) (br _) _⟩
 have:=uh HX i j hi hj
 exact⟨by omega,this.2.setO'' (by omega) 3 _⟩
theorem group2_X{F b0 b1:Nat}{d:Bool}{txt:List UInt8}(I:World->Prop)(hI:∀w w',I w->FN B pb w w'->I w')(hcf:∀args w,(callFunc F args).run Tryz.prog w=.ok (.enter F args) w)(HC:∀w bv l last,PN w B pb bv l last mv->I w->(l++(sep last++txt)).length<=800000->Calls Tryz.prog F #[.pointer (some ⟨b0,0,none⟩),.pointer (some ⟨b1,0,none⟩)] w (qcc B pb mv (l++(sep last++txt)) w))(h:PN w B pb bv l last mv)(hi:I w)(hl:(l++(sep last++Un.par d txt)).length<=800000):
 Calls Tryz.prog 130 #[.pointer (some ⟨pb,0,none⟩),.bool d,.func (.func F) #[] #[.pointer (some ⟨b0,0,none⟩),.pointer (some ⟨b1,0,none⟩)]] w (qcc B pb mv (l++(sep last++Un.par d txt)) w):=by
 cases d with
 |false=>
  rw[par_f]at hl⊢
  have HC1:=HC w bv l last h hi hl
  clear HC
  go_enter Tryz.func130,Tryz.ntmps130
  go_wp2_with fail
  refine HC1.mono ?_
  intro e w1 hp1
  have hp2:=hp1
  obtain⟨rfl,_⟩:=hp1
  go_wp2_with fail
  go_end0
  exact hp2
 |true=>
  rw[par_t]at hl⊢
  simp only[lqc,lqa,lqn]at hl
  have hzp:=h.lt
  have hb0:Below w.heap.size w (w.alloc (.cells #[.string tOpen] 9)):=bw _
  have HP:=put_C (h.bel hb0) tOpen (by decide) (by omega) w.heap.size (Bx.new w #[.string tOpen] 9) (by omega)
  have hpt:putL' l last tOpen=l++(sep last++[40]):=by
   have:=qez (l:=l) (last:=last) (t:=tOpen) (by rw[show tOpen.toList=[40]from qab [40]];decide) (by rw[show tOpen.toList=[40]from qab [40]];decide) (by rw[show tOpen.toList=[40]from qab [40]];decide)
   rw[this,show tOpen.toList=[40]from qab [40]]
  rw[hpt]at HP
  go_enter Tryz.func130,Tryz.ntmps130
  go_wp2_with fail
  refine HP.mono ?_
  rintro e w1⟨rfl,bv1,N1,F1⟩
  have FA:=(FN.of (B:=B) (pb:=pb) hb0).trans F1
  have HC1:=HC w1 bv1 _ tOpen N1 (hI _ _ hi FA) (by simp only[lqa,lqc,lqn,qef];omega)
  rw[qef]at HC1
  clear HC
  go_wp2_with fail
  refine HC1.mono ?_
  rintro e w2⟨rfl,bv2,last2,N2,fi2,F2⟩
  have hzp2:=N2.lt
  have hb2:Below w2.heap.size w2 (w2.alloc (.cells #[.string tClose] 9)):=bw _
  have HP2:=put_C (N2.bel hb2) tClose (by decide) (by simp only[lqa,lqc,lqn,qef];omega) w2.heap.size (Bx.new w2 #[.string tClose] 9) (by omega)
  rw[put_tight (Or.inl (qab [41])),show tClose.toList=[41]from qab [41]]at HP2
  go_wp2_with fail
  refine HP2.mono ?_
  rintro e w3⟨rfl,bv3,N3,F3⟩
  go_wp2_with fail
  go_end0
  refine⟨rfl,bv3,tClose,?_,⟨by rw[show tClose.toList=[41]from qab [41]];decide,by rw[show tClose.toList=[41]from qab [41]];decide⟩,(FA.trans F2).trans ((FN.of hb2).trans F3)⟩
  have e9:l++(sep last++[40])++([]++txt)++[41]=l++(sep last++40::(txt++[41])):=by simp
  rw[<-e9]
  exact N3
theorem group4_X{F b0 b1 b2 b3:Nat}{d:Bool}{txt:List UInt8}(I:World->Prop)(hI:∀w w',I w->FN B pb w w'->I w')(hcf:∀args w,(callFunc F args).run Tryz.prog w=.ok (.enter F args) w)(HC:∀w bv l last,PN w B pb bv l last mv->I w->(l++(sep last++txt)).length<=800000->Calls Tryz.prog F #[.pointer (some ⟨b0,0,none⟩),.pointer (some ⟨b1,0,none⟩),.pointer (some ⟨b2,0,none⟩),.pointer (some ⟨b3,0,none⟩)] w (qcc B pb mv (l++(sep last++txt)) w))(h:PN w B pb bv l last mv)(hi:I w)(hl:(l++(sep last++Un.par d txt)).length<=800000):
 Calls Tryz.prog 130 #[.pointer (some ⟨pb,0,none⟩),.bool d,.func (.func F) #[] #[.pointer (some ⟨b0,0,none⟩),.pointer (some ⟨b1,0,none⟩),.pointer (some ⟨b2,0,none⟩),.pointer (some ⟨b3,0,none⟩)]] w (qcc B pb mv (l++(sep last++Un.par d txt)) w):=by
 cases d with
 |false=>
  rw[par_f]at hl⊢
  have HC1:=HC w bv l last h hi hl
  clear HC
  go_enter Tryz.func130,Tryz.ntmps130
  go_wp2_with fail
  refine HC1.mono ?_
  intro e w1 hp1
  have hp2:=hp1
  obtain⟨rfl,_⟩:=hp1
  go_wp2_with fail
  go_end0
  exact hp2
 |true=>
  rw[par_t]at hl⊢
  simp only[lqc,lqa,lqn]at hl
  have hzp:=h.lt
  have hb0:Below w.heap.size w (w.alloc (.cells #[.string tOpen] 9)):=bw _
  have HP:=put_C (h.bel hb0) tOpen (by decide) (by omega) w.heap.size (Bx.new w #[.string tOpen] 9) (by omega)
  have hpt:putL' l last tOpen=l++(sep last++[40]):=by
   have:=qez (l:=l) (last:=last) (t:=tOpen) (by rw[show tOpen.toList=[40]from qab [40]];decide) (by rw[show tOpen.toList=[40]from qab [40]];decide) (by rw[show tOpen.toList=[40]from qab [40]];decide)
   rw[this,show tOpen.toList=[40]from qab [40]]
  rw[hpt]at HP
  go_enter Tryz.func130,Tryz.ntmps130
  go_wp2_with fail
  refine HP.mono ?_
  rintro e w1⟨rfl,bv1,N1,F1⟩
  have FA:=(FN.of (B:=B) (pb:=pb) hb0).trans F1
  have HC1:=HC w1 bv1 _ tOpen N1 (hI _ _ hi FA) (by simp only[lqa,lqc,lqn,qef];omega)
  rw[qef]at HC1
  clear HC
  go_wp2_with fail
  refine HC1.mono ?_
  rintro e w2⟨rfl,bv2,last2,N2,fi2,F2⟩
  have hzp2:=N2.lt
  have hb2:Below w2.heap.size w2 (w2.alloc (.cells #[.string tClose] 9)):=bw _
  have HP2:=put_C (N2.bel hb2) tClose (by decide) (by simp only[lqa,lqc,lqn,qef];omega) w2.heap.size (Bx.new w2 #[.string tClose] 9) (by omega)
  rw[put_tight (Or.inl (qab [41])),show tClose.toList=[41]from qab [41]]at HP2
  go_wp2_with fail
  refine HP2.mono ?_
  rintro e w3⟨rfl,bv3,N3,F3⟩
  go_wp2_with fail
  go_end0
  refine⟨rfl,bv3,tClose,?_,⟨by rw[show tClose.toList=[41]from qab [41]];decide,by rw[show tClose.toList=[41]from qab [41]];decide⟩,(FA.trans F2).trans ((FN.of hb2).trans F3)⟩
  have e9:l++(sep last++[40])++([]++txt)++[41]=l++(sep last++40::(txt++[41])):=by simp
  rw[<-e9]
  exact N3
end
end
section
open Go Go.RowKit Go.ChangeMaps Un
theorem qav{l:List UInt8}{last t:BA}{bs:List UInt8}(h:t.toList=bs)(h1:bs≠[41])(h2:bs≠[44])(h3:bs≠[59]):putL' l last t=l++(sep last++bs):=by
 rw[qez (by rw[h];exact h1) (by rw[h];exact h2) (by rw[h];exact h3),h]
theorem qey{l:List UInt8}{last t:BA}{bs:List UInt8}(h:t.toList=bs)(h':bs=[41]\/bs=[44]\/bs=[59]):putL' l last t=l++bs:=by
 unfold putL' spB
 rw[show t.data.toList=t.toList from(ByteArray.toList_eq t).symm,h]
 rcases h' with rfl|rfl|rfl<;>simp
theorem qb7{t:BA}{bs:List UInt8}(h:t.toList=bs)(h1:bs≠[])(h2:bs≠[40]):sep t=[32]:=qba (qdt h h1 h2)
theorem sep_opn:sep kOpn=[]:=qef
structure NT(w:World)(pb:Nat)(Q:Nat->Prop):Prop where
 q:NQ w pb Q
 p:P10 w
 n:2≠pb
theorem NT.fn{B pb:Nat}{w w':World}{Q:Nat->Prop}(h:NT w pb Q)(hf:FN B pb w w'):NT w' pb Q:=
 ⟨h.q.fn hf,h.p.block hf.size (hf.block 2 h.p.z h.n (Or.inr (fun x hx c=>by
  have:=h.p.c 0 (by omega)
  rw[hx]at this
  injection this with this
  rw[this]
  intro q
  cases q))),h.n⟩
instance (w:World) (pb:Nat) (Q:Nat->Prop):Coe (NT w pb Q) (NQ w pb Q):=⟨fun h=>h.q⟩
theorem PP.fnQ{B pb:Nat}{w w':World}{Q:Nat->Prop}{nd:Nd}{v:Value}(h:PP w Q nd v)(hq:NT w pb Q)(hf:FN B pb w w'):PP w' Q nd v:=h.move hf.size (fun b p z=>hf.block b z (hq.q b p).2.1 (Or.inr (hq.q b p).2.2)) (fun _ p _=>p)
theorem PE.fnQ{B pb:Nat}{w w':World}{Q:Nat->Prop}{nd:Nd}{v:Value}(h:PE w Q nd v)(hq:NT w pb Q)(hf:FN B pb w w'):PE w' Q nd v:=h.move hf.size (fun b p z=>hf.block b z (hq.q b p).2.1 (Or.inr (hq.q b p).2.2)) (fun _ p _=>p)
theorem up_ne{s:BA}(h:UpN s):s.toList≠[41]/\s.toList≠[44]/\s.toList≠[59]:=⟨upN_ne h 41 [] (by decide),upN_ne h 44 [] (by decide),upN_ne h 59 [] (by decide)⟩
theorem lowN_ne{s:BA}(h:LowN s)(c:UInt8)(r:List UInt8)(hc:Pu.lowB c.toNat=false):s.toList≠c::r:=by
 obtain⟨x,r',h1,h2⟩:=h
 rw[h1]
 intro e
 injection e with e1 _
 rw[e1,hc]at h2
 cases h2
theorem low_ne{s:BA}(h:LowN s):s.toList≠[41]/\s.toList≠[44]/\s.toList≠[59]:=⟨lowN_ne h 41 [] (by decide),lowN_ne h 44 [] (by decide),lowN_ne h 59 [] (by decide)⟩
theorem fine_low{s:BA}(h:LowN s):Fine s:=⟨fun e=>(by obtain⟨x,r,h1,_⟩:=h;rw[h1]at e;cases e),lowN_ne h 40 [] (by decide)⟩
def prk:Nd->Nat
 |.mk k _ _ L _ _ _=>if k=2/\L≠[]then 0 else 1
def atPt(nd:Nd)(k:Nat):List UInt8:=Un.par (decide (prk nd<k)) (sh nd)
theorem atPt_0(nd:Nd):atPt nd 0=sh nd:=by unfold atPt;rw[show decide (prk nd<0)=false by simp];rfl
def AtPC(nd:Nd):Prop:=∀(w:World)(B pb:Nat)(bv:Value)(l:List UInt8)(last:BA)(mv:Value)(Q:Nat->Prop)(v:Value)(k:Nat),PN w B pb bv l last mv->PP w Q nd v->NT w pb Q->k<=1->(l++(sep last++atPt nd k)).length<=800000->B<=pb->
 Calls Tryz.prog 236 #[.pointer (some ⟨pb,0,none⟩),v,.int .i64 (k:Int)] w (qcc B pb mv (l++(sep last++atPt nd k)) w)
def BarePC(nd:Nd):Prop:=∀(w:World)(B pb:Nat)(bv:Value)(l:List UInt8)(last:BA)(mv:Value)(Q:Nat->Prop)(v:Value),PN w B pb bv l last mv->PP w Q nd v->NT w pb Q->(l++(sep last++sh nd)).length<=800000->B<=pb->
 Calls Tryz.prog 328 #[.pointer (some ⟨pb,0,none⟩),v] w (qcc B pb mv (l++(sep last++sh nd)) w)
end
section
open Go Go.RowKit Go.ChangeMaps Un
abbrev TaN(I D A:TypeId)(z:Array Value):Prop:=∀(x:Array Value)(w:World),(Instr.typeAssert (.iface D (.agg x)) I A true).run Tryz.prog w=.ok (.tuple #[.agg z,.bool false]) w
abbrev zaCall:Array Value:=#[.int .i64 0,.int .i64 0,.nilIface,.nilIface]
abbrev zaFun:Array Value:=#[.int .i64 0,.int .i64 0,.int .i64 0,.int .i64 0,.string ⟨#[]⟩,.nilIface]
abbrev zaIf:Array Value:=#[.int .i64 0,.int .i64 0,.nilIface,.nilIface,.nilIface]
abbrev zaLet:Array Value:=#[.int .i64 0,.int .i64 0,.bool false,.int .i64 0,.int .i64 0,.string ⟨#[]⟩,.nilIface,.nilIface]
abbrev qeq:Array Value:=#[.int .i64 0,.int .i64 0,.nilIface,.slice none 0 0]
abbrev qc5:Array Value:=#[.int .i64 0,.int .i64 0,.string ⟨#[]⟩,.nilIface,.nilIface]
abbrev zaLow:Array Value:=#[.int .i64 0,.int .i64 0,.string ⟨#[]⟩]
abbrev qe7:Array Value:=#[.int .i64 0,.int .i64 0,.int .i64 0]
abbrev zaUp:Array Value:=#[.int .i64 0,.int .i64 0,.string ⟨#[]⟩]
abbrev zaBool:Array Value:=#[.int .i64 0,.int .i64 0,.bool false]
abbrev zaUnit:Array Value:=#[.int .i64 0,.int .i64 0]
abbrev zaPair:Array Value:=#[.int .i64 0,.int .i64 0,.nilIface,.nilIface]
abbrev zaMade:Array Value:=#[.int .i64 0,.int .i64 0,.int .i64 0,.int .i64 0,.string ⟨#[]⟩,.slice none 0 0]
abbrev zaAny:Array Value:=#[.int .i64 0,.int .i64 0]
theorem taExpr_Binary_Binary(a0 a1 a2 a3 a4:Value)(w:World):(Instr.typeAssert (.iface 422 (.agg #[a0,a1,a2,a3,a4])) 216 422 true).run Tryz.prog w=.ok (.tuple #[(.agg #[a0,a1,a2,a3,a4]),.bool true]) w:=by kernel_rfl
theorem taExpr_Bool_Binary:TaN 216 426 422 qc5:=fun _ _=>by kernel_rfl
theorem taExpr_Bool_Bool(a0 a1 a2:Value)(w:World):(Instr.typeAssert (.iface 426 (.agg #[a0,a1,a2])) 216 426 true).run Tryz.prog w=.ok (.tuple #[(.agg #[a0,a1,a2]),.bool true]) w:=by kernel_rfl
theorem taExpr_Bool_Call:TaN 216 426 424 zaCall:=fun _ _=>by kernel_rfl
theorem taExpr_Bool_Fun:TaN 216 426 416 zaFun:=fun _ _=>by kernel_rfl
theorem taExpr_Bool_If:TaN 216 426 420 zaIf:=fun _ _=>by kernel_rfl
theorem taExpr_Bool_Let:TaN 216 426 418 zaLet:=fun _ _=>by kernel_rfl
theorem taExpr_Bool_Low:TaN 216 426 466 zaLow:=fun _ _=>by kernel_rfl
theorem qfk:TaN 216 426 225 qeq:=fun _ _=>by kernel_rfl
theorem taExpr_Bool_Number:TaN 216 426 431 qe7:=fun _ _=>by kernel_rfl
theorem taExpr_Bool_Up:TaN 216 426 513 zaUp:=fun _ _=>by kernel_rfl
theorem taExpr_Call_Binary:TaN 216 424 422 qc5:=fun _ _=>by kernel_rfl
theorem taExpr_Call_Call(a0 a1 a2 a3:Value)(w:World):(Instr.typeAssert (.iface 424 (.agg #[a0,a1,a2,a3])) 216 424 true).run Tryz.prog w=.ok (.tuple #[(.agg #[a0,a1,a2,a3]),.bool true]) w:=by kernel_rfl
theorem taExpr_Call_Fun:TaN 216 424 416 zaFun:=fun _ _=>by kernel_rfl
theorem taExpr_Call_If:TaN 216 424 420 zaIf:=fun _ _=>by kernel_rfl
theorem taExpr_Call_Let:TaN 216 424 418 zaLet:=fun _ _=>by kernel_rfl
theorem qfl:TaN 216 424 225 qeq:=fun _ _=>by kernel_rfl
theorem taExpr_Fun_Binary:TaN 216 416 422 qc5:=fun _ _=>by kernel_rfl
theorem taExpr_Fun_Call:TaN 216 416 424 zaCall:=fun _ _=>by kernel_rfl
theorem taExpr_Fun_Fun(a0 a1 a2 a3 a4 a5:Value)(w:World):(Instr.typeAssert (.iface 416 (.agg #[a0,a1,a2,a3,a4,a5])) 216 416 true).run Tryz.prog w=.ok (.tuple #[(.agg #[a0,a1,a2,a3,a4,a5]),.bool true]) w:=by kernel_rfl
theorem taExpr_Fun_If:TaN 216 416 420 zaIf:=fun _ _=>by kernel_rfl
theorem taExpr_Fun_Let:TaN 216 416 418 zaLet:=fun _ _=>by kernel_rfl
theorem taExpr_Fun_Match:TaN 216 416 225 qeq:=fun _ _=>by kernel_rfl
theorem taExpr_If_Binary:TaN 216 420 422 qc5:=fun _ _=>by kernel_rfl
theorem taExpr_If_Call:TaN 216 420 424 zaCall:=fun _ _=>by kernel_rfl
theorem taExpr_If_Fun:TaN 216 420 416 zaFun:=fun _ _=>by kernel_rfl
theorem taExpr_If_If(a0 a1 a2 a3 a4:Value)(w:World):(Instr.typeAssert (.iface 420 (.agg #[a0,a1,a2,a3,a4])) 216 420 true).run Tryz.prog w=.ok (.tuple #[(.agg #[a0,a1,a2,a3,a4]),.bool true]) w:=by kernel_rfl
theorem taExpr_If_Let:TaN 216 420 418 zaLet:=fun _ _=>by kernel_rfl
theorem taExpr_If_Match:TaN 216 420 225 qeq:=fun _ _=>by kernel_rfl
theorem taExpr_Let_Binary:TaN 216 418 422 qc5:=fun _ _=>by kernel_rfl
theorem taExpr_Let_Call:TaN 216 418 424 zaCall:=fun _ _=>by kernel_rfl
theorem taExpr_Let_Fun:TaN 216 418 416 zaFun:=fun _ _=>by kernel_rfl
theorem taExpr_Let_If:TaN 216 418 420 zaIf:=fun _ _=>by kernel_rfl
theorem taExpr_Let_Let(a0 a1 a2 a3 a4 a5 a6 a7:Value)(w:World):(Instr.typeAssert (.iface 418 (.agg #[a0,a1,a2,a3,a4,a5,a6,a7])) 216 418 true).run Tryz.prog w=.ok (.tuple #[(.agg #[a0,a1,a2,a3,a4,a5,a6,a7]),.bool true]) w:=by kernel_rfl
theorem taExpr_Let_Match:TaN 216 418 225 qeq:=fun _ _=>by kernel_rfl
theorem taExpr_Low_Binary:TaN 216 466 422 qc5:=fun _ _=>by kernel_rfl
theorem taExpr_Low_Call:TaN 216 466 424 zaCall:=fun _ _=>by kernel_rfl
theorem taExpr_Low_Fun:TaN 216 466 416 zaFun:=fun _ _=>by kernel_rfl
theorem taExpr_Low_If:TaN 216 466 420 zaIf:=fun _ _=>by kernel_rfl
theorem taExpr_Low_Let:TaN 216 466 418 zaLet:=fun _ _=>by kernel_rfl
theorem taExpr_Low_Low(a0 a1 a2:Value)(w:World):(Instr.typeAssert (.iface 466 (.agg #[a0,a1,a2])) 216 466 true).run Tryz.prog w=.ok (.tuple #[(.agg #[a0,a1,a2]),.bool true]) w:=by kernel_rfl
theorem taExpr_Low_Match:TaN 216 466 225 qeq:=fun _ _=>by kernel_rfl
theorem taExpr_Match_Binary:TaN 216 225 422 qc5:=fun _ _=>by kernel_rfl
theorem taExpr_Match_Call:TaN 216 225 424 zaCall:=fun _ _=>by kernel_rfl
theorem taExpr_Match_Fun:TaN 216 225 416 zaFun:=fun _ _=>by kernel_rfl
theorem taExpr_Match_If:TaN 216 225 420 zaIf:=fun _ _=>by kernel_rfl
theorem taExpr_Match_Let:TaN 216 225 418 zaLet:=fun _ _=>by kernel_rfl
theorem qe3(a0 a1 a2 a3:Value)(w:World):(Instr.typeAssert (.iface 225 (.agg #[a0,a1,a2,a3])) 216 225 true).run Tryz.prog w=.ok (.tuple #[(.agg #[a0,a1,a2,a3]),.bool true]) w:=by kernel_rfl
theorem taExpr_Number_Binary:TaN 216 431 422 qc5:=fun _ _=>by kernel_rfl
theorem qe4:TaN 216 431 424 zaCall:=fun _ _=>by kernel_rfl
theorem qfm:TaN 216 431 416 zaFun:=fun _ _=>by kernel_rfl
theorem taExpr_Number_If:TaN 216 431 420 zaIf:=fun _ _=>by kernel_rfl
theorem qfn:TaN 216 431 418 zaLet:=fun _ _=>by kernel_rfl
theorem taExpr_Number_Low:TaN 216 431 466 zaLow:=fun _ _=>by kernel_rfl
theorem qeo:TaN 216 431 225 qeq:=fun _ _=>by kernel_rfl
theorem taExpr_Number_Number(a0 a1 a2:Value)(w:World):(Instr.typeAssert (.iface 431 (.agg #[a0,a1,a2])) 216 431 true).run Tryz.prog w=.ok (.tuple #[(.agg #[a0,a1,a2]),.bool true]) w:=by kernel_rfl
theorem taExpr_Number_Up:TaN 216 431 513 zaUp:=fun _ _=>by kernel_rfl
theorem taExpr_Pair_Binary:TaN 216 412 422 qc5:=fun _ _=>by kernel_rfl
theorem taExpr_Pair_Bool:TaN 216 412 426 zaBool:=fun _ _=>by kernel_rfl
theorem taExpr_Pair_Call:TaN 216 412 424 zaCall:=fun _ _=>by kernel_rfl
theorem taExpr_Pair_Fun:TaN 216 412 416 zaFun:=fun _ _=>by kernel_rfl
theorem taExpr_Pair_If:TaN 216 412 420 zaIf:=fun _ _=>by kernel_rfl
theorem taExpr_Pair_Let:TaN 216 412 418 zaLet:=fun _ _=>by kernel_rfl
theorem taExpr_Pair_Low:TaN 216 412 466 zaLow:=fun _ _=>by kernel_rfl
theorem qfo:TaN 216 412 225 qeq:=fun _ _=>by kernel_rfl
theorem taExpr_Pair_Number:TaN 216 412 431 qe7:=fun _ _=>by kernel_rfl
theorem taExpr_Pair_Pair(a0 a1 a2 a3:Value)(w:World):(Instr.typeAssert (.iface 412 (.agg #[a0,a1,a2,a3])) 216 412 true).run Tryz.prog w=.ok (.tuple #[(.agg #[a0,a1,a2,a3]),.bool true]) w:=by kernel_rfl
theorem taExpr_Pair_Unit:TaN 216 412 429 zaUnit:=fun _ _=>by kernel_rfl
theorem taExpr_Pair_Up:TaN 216 412 513 zaUp:=fun _ _=>by kernel_rfl
theorem taExpr_Typed_Binary:TaN 216 414 422 qc5:=fun _ _=>by kernel_rfl
theorem taExpr_Typed_Bool:TaN 216 414 426 zaBool:=fun _ _=>by kernel_rfl
theorem qfp:TaN 216 414 424 zaCall:=fun _ _=>by kernel_rfl
theorem taExpr_Typed_Fun:TaN 216 414 416 zaFun:=fun _ _=>by kernel_rfl
theorem taExpr_Typed_If:TaN 216 414 420 zaIf:=fun _ _=>by kernel_rfl
theorem taExpr_Typed_Let:TaN 216 414 418 zaLet:=fun _ _=>by kernel_rfl
theorem taExpr_Typed_Low:TaN 216 414 466 zaLow:=fun _ _=>by kernel_rfl
theorem qe5:TaN 216 414 225 qeq:=fun _ _=>by kernel_rfl
theorem taExpr_Typed_Number:TaN 216 414 431 qe7:=fun _ _=>by kernel_rfl
theorem taExpr_Typed_Pair:TaN 216 414 412 zaPair:=fun _ _=>by kernel_rfl
theorem taExpr_Typed_Typed(a0 a1 a2 a3:Value)(w:World):(Instr.typeAssert (.iface 414 (.agg #[a0,a1,a2,a3])) 216 414 true).run Tryz.prog w=.ok (.tuple #[(.agg #[a0,a1,a2,a3]),.bool true]) w:=by kernel_rfl
theorem taExpr_Typed_Unit:TaN 216 414 429 zaUnit:=fun _ _=>by kernel_rfl
theorem taExpr_Typed_Up:TaN 216 414 513 zaUp:=fun _ _=>by kernel_rfl
theorem taExpr_Unit_Binary:TaN 216 429 422 qc5:=fun _ _=>by kernel_rfl
theorem taExpr_Unit_Bool:TaN 216 429 426 zaBool:=fun _ _=>by kernel_rfl
theorem taExpr_Unit_Call:TaN 216 429 424 zaCall:=fun _ _=>by kernel_rfl
theorem taExpr_Unit_Fun:TaN 216 429 416 zaFun:=fun _ _=>by kernel_rfl
theorem taExpr_Unit_If:TaN 216 429 420 zaIf:=fun _ _=>by kernel_rfl
theorem taExpr_Unit_Let:TaN 216 429 418 zaLet:=fun _ _=>by kernel_rfl
theorem taExpr_Unit_Low:TaN 216 429 466 zaLow:=fun _ _=>by kernel_rfl
theorem qfq:TaN 216 429 225 qeq:=fun _ _=>by kernel_rfl
theorem taExpr_Unit_Number:TaN 216 429 431 qe7:=fun _ _=>by kernel_rfl
theorem taExpr_Unit_Unit(a0 a1:Value)(w:World):(Instr.typeAssert (.iface 429 (.agg #[a0,a1])) 216 429 true).run Tryz.prog w=.ok (.tuple #[(.agg #[a0,a1]),.bool true]) w:=by kernel_rfl
theorem taExpr_Unit_Up:TaN 216 429 513 zaUp:=fun _ _=>by kernel_rfl
theorem taExpr_Up_Binary:TaN 216 513 422 qc5:=fun _ _=>by kernel_rfl
theorem taExpr_Up_Call:TaN 216 513 424 zaCall:=fun _ _=>by kernel_rfl
theorem taExpr_Up_Fun:TaN 216 513 416 zaFun:=fun _ _=>by kernel_rfl
theorem taExpr_Up_If:TaN 216 513 420 zaIf:=fun _ _=>by kernel_rfl
theorem taExpr_Up_Let:TaN 216 513 418 zaLet:=fun _ _=>by kernel_rfl
theorem taExpr_Up_Low:TaN 216 513 466 zaLow:=fun _ _=>by kernel_rfl
theorem taExpr_Up_Match:TaN 216 513 225 qeq:=fun _ _=>by kernel_rfl
theorem taExpr_Up_Up(a0 a1 a2:Value)(w:World):(Instr.typeAssert (.iface 513 (.agg #[a0,a1,a2])) 216 513 true).run Tryz.prog w=.ok (.tuple #[(.agg #[a0,a1,a2]),.bool true]) w:=by kernel_rfl
theorem taPattern_Any_Any(a0 a1:Value)(w:World):(Instr.typeAssert (.iface 442 (.agg #[a0,a1])) 332 442 true).run Tryz.prog w=.ok (.tuple #[(.agg #[a0,a1]),.bool true]) w:=by kernel_rfl
theorem taPattern_Any_Made:TaN 332 442 410 zaMade:=fun _ _=>by kernel_rfl
theorem taPattern_Bool_Any:TaN 332 426 442 zaAny:=fun _ _=>by kernel_rfl
theorem taPattern_Bool_Bool(a0 a1 a2:Value)(w:World):(Instr.typeAssert (.iface 426 (.agg #[a0,a1,a2])) 332 426 true).run Tryz.prog w=.ok (.tuple #[(.agg #[a0,a1,a2]),.bool true]) w:=by kernel_rfl
theorem taPattern_Bool_Low:TaN 332 426 466 zaLow:=fun _ _=>by kernel_rfl
theorem taPattern_Bool_Made:TaN 332 426 410 zaMade:=fun _ _=>by kernel_rfl
theorem taPattern_Bool_Number:TaN 332 426 431 qe7:=fun _ _=>by kernel_rfl
theorem taPattern_Low_Any:TaN 332 466 442 zaAny:=fun _ _=>by kernel_rfl
theorem taPattern_Low_Low(a0 a1 a2:Value)(w:World):(Instr.typeAssert (.iface 466 (.agg #[a0,a1,a2])) 332 466 true).run Tryz.prog w=.ok (.tuple #[(.agg #[a0,a1,a2]),.bool true]) w:=by kernel_rfl
theorem taPattern_Low_Made:TaN 332 466 410 zaMade:=fun _ _=>by kernel_rfl
theorem taPattern_Made_Any:TaN 332 410 442 zaAny:=fun _ _=>by kernel_rfl
theorem taPattern_Made_Bool:TaN 332 410 426 zaBool:=fun _ _=>by kernel_rfl
theorem taPattern_Made_Low:TaN 332 410 466 zaLow:=fun _ _=>by kernel_rfl
theorem qep(a0 a1 a2 a3 a4 a5:Value)(w:World):(Instr.typeAssert (.iface 410 (.agg #[a0,a1,a2,a3,a4,a5])) 332 410 true).run Tryz.prog w=.ok (.tuple #[(.agg #[a0,a1,a2,a3,a4,a5]),.bool true]) w:=by kernel_rfl
theorem taPattern_Made_Number:TaN 332 410 431 qe7:=fun _ _=>by kernel_rfl
theorem taPattern_Made_Unit:TaN 332 410 429 zaUnit:=fun _ _=>by kernel_rfl
theorem taPattern_Number_Any:TaN 332 431 442 zaAny:=fun _ _=>by kernel_rfl
theorem taPattern_Number_Low:TaN 332 431 466 zaLow:=fun _ _=>by kernel_rfl
theorem taPattern_Number_Made:TaN 332 431 410 zaMade:=fun _ _=>by kernel_rfl
theorem qf2(a0 a1 a2:Value)(w:World):(Instr.typeAssert (.iface 431 (.agg #[a0,a1,a2])) 332 431 true).run Tryz.prog w=.ok (.tuple #[(.agg #[a0,a1,a2]),.bool true]) w:=by kernel_rfl
theorem qe9:TaN 332 433 442 zaAny:=fun _ _=>by kernel_rfl
theorem qet:TaN 332 433 426 zaBool:=fun _ _=>by kernel_rfl
theorem qfa:TaN 332 433 466 zaLow:=fun _ _=>by kernel_rfl
theorem qcy:TaN 332 433 410 zaMade:=fun _ _=>by kernel_rfl
theorem qeg:TaN 332 433 431 qe7:=fun _ _=>by kernel_rfl
theorem qdl(a0 a1 a2 a3:Value)(w:World):(Instr.typeAssert (.iface 433 (.agg #[a0,a1,a2,a3])) 332 433 true).run Tryz.prog w=.ok (.tuple #[(.agg #[a0,a1,a2,a3]),.bool true]) w:=by kernel_rfl
theorem qeu:TaN 332 433 429 zaUnit:=fun _ _=>by kernel_rfl
theorem taPattern_Unit_Any:TaN 332 429 442 zaAny:=fun _ _=>by kernel_rfl
theorem taPattern_Unit_Bool:TaN 332 429 426 zaBool:=fun _ _=>by kernel_rfl
theorem taPattern_Unit_Low:TaN 332 429 466 zaLow:=fun _ _=>by kernel_rfl
theorem taPattern_Unit_Made:TaN 332 429 410 zaMade:=fun _ _=>by kernel_rfl
theorem taPattern_Unit_Number:TaN 332 429 431 qe7:=fun _ _=>by kernel_rfl
theorem taPattern_Unit_Unit(a0 a1:Value)(w:World):(Instr.typeAssert (.iface 429 (.agg #[a0,a1])) 332 429 true).run Tryz.prog w=.ok (.tuple #[(.agg #[a0,a1]),.bool true]) w:=by kernel_rfl
section
variable {w:World}
def qb2(b:Bool):BA:=if b then kTrue else kFalse
theorem iformatBool_C(b:Bool):Calls Tryz.prog 381 #[.bool b] w fun e w'=>e=.returned (.string (qb2 b))/\w=w':=by
 cases b
 .go_enter Tryz.func381,Tryz.ntmps381
  go_wp2_with fail
  go_ret
  exact⟨rfl,rfl⟩
 .go_enter Tryz.func381,Tryz.ntmps381
  go_wp2_with fail
  go_ret
  exact⟨rfl,rfl⟩
theorem formatBool_C(b:Bool):Calls Tryz.prog 367 #[.bool b] w fun e w'=>e=.returned (.string (qb2 b))/\w=w':=by
 have HC:=iformatBool_C (w:=w) b
 go_enter Tryz.func367,Tryz.ntmps367
 go_wp2_with fail
 refine HC.mono ?_
 rintro e w1⟨rfl,rfl⟩
 go_wp2_with fail
 go_ret
 exact⟨rfl,rfl⟩
end
end
section
open Go Go.RowKit Go.ChangeMaps Un
def ItoaC:Prop:=∀(w:World)(n:Nat),n<1000000000->P10 w->Calls Tryz.prog 129 #[.int .i64 (n:Int)] w fun e w'=>e=.returned (.string (bs (dec n)))/\Below w.heap.size w w'
theorem bs_list(x:List UInt8):(bs x).toList=x:=by rw[ByteArray.toList_eq];rfl
theorem dg_in(n:Nat):48<=(dg n).toNat/\(dg n).toNat<=57:=by
 have h:n%10<10:=Nat.mod_lt _ (by decide)
 unfold dg
 generalize n%10=d at h
 match d,h with
 |0,_|1,_|2,_|3,_|4,_|5,_|6,_|7,_|8,_|9,_=>decide
theorem dec_ne(n:Nat):dec n≠[41]/\dec n≠[44]/\dec n≠[59]/\dec n≠[]/\dec n≠[40]:=by
 have key:∀m,∀x∈dec m,48<=x.toNat/\x.toNat<=57:=by
  intro m
  induction m using Nat.strongRecOn with
  |ind m ih=>
   intro x hx
   unfold dec at hx
   split at hx
   .rename_i h
    rcases List.mem_singleton.1 hx with rfl
    exact dg_in m
   .rename_i h
    rcases List.mem_append.1 hx with hx|hx
    .exact ih (m/10) (by omega) x hx
    .rcases List.mem_singleton.1 hx with rfl
     exact dg_in m
 have hne:dec n≠[]:=by
  unfold dec
  split<;>simp
 have one:∀c:UInt8,(c.toNat<48\/57<c.toNat)->dec n≠[c]:=fun c hc e=>by
  have:=key n c (by rw[e];simp)
  omega
 exact⟨one 41 (by decide),one 44 (by decide),one 59 (by decide),hne,one 40 (by decide)⟩
theorem dec_pow:∀k n,n<10^(k+1)->(dec n).length<=k+1
 |0,n,h=>by unfold dec;rw[if_pos (by omega)];simp|k+1,n,h=>by
  unfold dec
  split
  .simp
  .have:=dec_pow k (n/10) (by rw[Nat.pow_succ]at h;omega)
   simp
   omega
theorem tl_of{s:BA}(h:s.toList=kTrue.toList\/s.toList=kFalse.toList):(qb2 (s.toList==[116,114,117,101])).toList=s.toList:=by
 rcases h with h|h
 .rw[h,show kTrue.toList=[116,114,117,101]from qab _];exact qab _
 .rw[h,show kFalse.toList=[102,97,108,115,101]from qab _];exact qab _
section
variable {w:World}
theorem sh_any(s:BA)(n f t a:Nat):sh (.mk 15 s n [] f t a)=[95]:=by simp[sh,qcb]
theorem sh_low(s:BA)(n f t a:Nat):sh (.mk 1 s n [] f t a)=s.toList:=by simp[sh,qcb]
theorem sh_num(s:BA)(n f t a:Nat):sh (.mk 3 s n [] f t a)=dec n:=by simp[sh,qcb]
theorem sh_word(s:BA)(n f t a:Nat):sh (.mk 4 s n [] f t a)=s.toList:=by simp[sh,qcb]
theorem sh_unit(s:BA)(n f t a:Nat):sh (.mk 5 s n [] f t a)=[40,41]:=by simp[sh,qcb]
theorem sh_pr(s:BA)(n:Nat)(x y:Nd)(f t a:Nat):sh (.mk 6 s n [x,y] f t a)=40::(sh x++([44,32]++(sh y++[41]))):=by simp[sh,qcb,prL,gP]
theorem sh_up(s:BA)(n:Nat)(L:List Nd)(f t a:Nat):sh (.mk 2 s n L f t a)=s.toList++qa4 (L.map fun x=>(lv x,sh x)):=by simp[sh,qcb,prL_map]
theorem bareP_any(s:BA)(n f t a:Nat):BarePC (.mk 15 s n [] f t a):=by
 intro w B pb bv l last mv Q v h hp hq hl hB
 cases hp with
 |any s n f t a=>
 have esh:=sh_any s n f t a
 rw[esh]at hl⊢
 simp only[lqa,lqc,lqn]at hl
 have ha0:=taPattern_Any_Any
 have hbW:Below w.heap.size w (w.alloc (.cells #[.int .i64 (f:Int),.int .i64 (t:Int)] 442)):=(bw (.cells #[.int .i64 (f:Int),.int .i64 (t:Int)] 442))
 have zW:(w.alloc (.cells #[.int .i64 (f:Int),.int .i64 (t:Int)] 442)).heap.size=w.heap.size+1:=by simp
 have FW:=FN.of (B:=B) (pb:=pb) hbW
 have hzp:=h.lt
 have N0:=ai (h.bel hbW)
 have F0:=ai (FN.refl B pb (w.alloc (.cells #[.int .i64 (f:Int),.int .i64 (t:Int)] 442)))
 have BXb:=ai (Bx.at w #[.int .i64 (f:Int),.int .i64 (t:Int)] 442 (w.heap.size) (by simp))
 have HQ:=ai (hq.fn FW)
 clear h hq
 go_enter Tryz.func328,Tryz.ntmps328
 have zp1:=(uh N0).lt
 rw[zW]at zp1
 have hb1:Below (w.alloc (.cells #[.int .i64 (f:Int),.int .i64 (t:Int)] 442)).heap.size (w.alloc (.cells #[.int .i64 (f:Int),.int .i64 (t:Int)] 442)) ((w.alloc (.cells #[.int .i64 (f:Int),.int .i64 (t:Int)] 442)).alloc (.cells #[.string kAny] 9)):=bw _
 have eT1:qbs l last [kAny]=(l++(sep last++[95])):=by
  show(putL' l last kAny)=_
  rw[qav (qab [95]) (by decide) (by decide) (by decide)]
 have HP1:=qbl ((uh N0).bel hb1) [kAny] (by intro t ht;simp only[List.mem_cons,List.not_mem_nil,or_false]at ht;rcases ht with rfl<;>first|decide|assumption) (by simp) (by first|omega|(simp only[lqa,lqc,lqn];omega)) (w.heap.size+1) (Bx.at (w.alloc (.cells #[.int .i64 (f:Int),.int .i64 (t:Int)] 442)) #[.string kAny] 9 (w.heap.size+1) (by simp)) (by omega) (Or.inr ((Bx.at (w.alloc (.cells #[.int .i64 (f:Int),.int .i64 (t:Int)] 442)) #[.string kAny] 9 (w.heap.size+1) (by simp)).nby (by intro x hx c;simp at hx;subst hx;intro q;cases q)))
 rw[eT1]at HP1
 go_wp2_with fail
 refine HP1.mono ?_
 rintro e w1⟨rfl,bvw1,hN,hF⟩
 have N2:Hid (PN w1 B pb bvw1 (l++(sep last++[95])) kAny mv):=ai hN
 have F3:=ai ((uh F0).trans ((FN.of hb1).trans hF))
 have zw1:=(uh F3).size
 rw[zW]at zw1
 clear hN hF HP1 hb1 eT1 N0 F0
 go_wp2_with fail
 go_end0
 refine⟨rfl,bvw1,kAny,?_,qdt (qab [95]) (by decide) (by decide),FW.trans (uh F3)⟩
 show PN w1 B pb bvw1 (l++(sep last++[95])) kAny mv
 rw[show l++(sep last++[95])=(l++(sep last++[95])) by simp]
 exact uh N2
theorem bareP_low(s:BA)(n f t a:Nat)(hss:s.size<=1000):BarePC (.mk 1 s n [] f t a):=by
 intro w B pb bv l last mv Q v h hp hq hl hB
 cases hp with
 |low s n f t a hs=>
 have esh:=sh_low s n f t a
 rw[esh]at hl⊢
 simp only[lqa,lqc,lqn]at hl
 have ha0:=taPattern_Low_Any
 have ha1:=taPattern_Low_Low
 obtain⟨n1,n2,n3⟩:=low_ne hs
 have hfi:=fine_low hs
 have hbW:Below w.heap.size w (w.alloc (.cells #[.int .i64 (f:Int),.int .i64 (t:Int),.string s] 466)):=(bw (.cells #[.int .i64 (f:Int),.int .i64 (t:Int),.string s] 466))
 have zW:(w.alloc (.cells #[.int .i64 (f:Int),.int .i64 (t:Int),.string s] 466)).heap.size=w.heap.size+1:=by simp
 have FW:=FN.of (B:=B) (pb:=pb) hbW
 have hzp:=h.lt
 have N0:=ai (h.bel hbW)
 have F0:=ai (FN.refl B pb (w.alloc (.cells #[.int .i64 (f:Int),.int .i64 (t:Int),.string s] 466)))
 have BXb:=ai (Bx.at w #[.int .i64 (f:Int),.int .i64 (t:Int),.string s] 466 (w.heap.size) (by simp))
 have HQ:=ai (hq.fn FW)
 clear h hq
 go_enter Tryz.func328,Tryz.ntmps328
 have zp1:=(uh N0).lt
 rw[zW]at zp1
 have hb1:Below (w.alloc (.cells #[.int .i64 (f:Int),.int .i64 (t:Int),.string s] 466)).heap.size (w.alloc (.cells #[.int .i64 (f:Int),.int .i64 (t:Int),.string s] 466)) ((w.alloc (.cells #[.int .i64 (f:Int),.int .i64 (t:Int),.string s] 466)).alloc (.cells #[.string s] 9)):=bw _
 have eT1:qbs l last [s]=(l++(sep last++s.toList)):=by
  show(putL' l last s)=_
  rw[qav rfl n1 n2 n3]
 have HP1:=qbl ((uh N0).bel hb1) [s] (by intro t ht;simp only[List.mem_cons,List.not_mem_nil,or_false]at ht;rcases ht with rfl<;>first|decide|assumption) (by simp) (by first|omega|(simp only[lqa,lqc,lqn];omega)) (w.heap.size+1) (Bx.at (w.alloc (.cells #[.int .i64 (f:Int),.int .i64 (t:Int),.string s] 466)) #[.string s] 9 (w.heap.size+1) (by simp)) (by omega) (Or.inr ((Bx.at (w.alloc (.cells #[.int .i64 (f:Int),.int .i64 (t:Int),.string s] 466)) #[.string s] 9 (w.heap.size+1) (by simp)).nby (by intro x hx c;simp at hx;subst hx;intro q;cases q)))
 rw[eT1]at HP1
 go_wp2_with fail
 refine HP1.mono ?_
 rintro e w1⟨rfl,bvw1,hN,hF⟩
 have N2:Hid (PN w1 B pb bvw1 (l++(sep last++s.toList)) s mv):=ai hN
 have F3:=ai ((uh F0).trans ((FN.of hb1).trans hF))
 have zw1:=(uh F3).size
 rw[zW]at zw1
 clear hN hF HP1 hb1 eT1 N0 F0
 go_wp2_with fail
 go_end0
 refine⟨rfl,bvw1,s,?_,hfi,FW.trans (uh F3)⟩
 show PN w1 B pb bvw1 (l++(sep last++s.toList)) s mv
 rw[show l++(sep last++s.toList)=(l++(sep last++s.toList)) by simp]
 exact uh N2
theorem bareP_unit(s:BA)(n f t a:Nat):BarePC (.mk 5 s n [] f t a):=by
 intro w B pb bv l last mv Q v h hp hq hl hB
 cases hp with
 |unit s n f t a=>
 have esh:=sh_unit s n f t a
 rw[esh]at hl⊢
 simp only[lqa,lqc,lqn]at hl
 have ha0:=taPattern_Unit_Any
 have ha1:=taPattern_Unit_Low
 have ha2:=taPattern_Unit_Number
 have ha3:=taPattern_Unit_Bool
 have ha4:=taPattern_Unit_Unit
 have hbW:Below w.heap.size w (w.alloc (.cells #[.int .i64 (f:Int),.int .i64 (t:Int)] 429)):=(bw (.cells #[.int .i64 (f:Int),.int .i64 (t:Int)] 429))
 have zW:(w.alloc (.cells #[.int .i64 (f:Int),.int .i64 (t:Int)] 429)).heap.size=w.heap.size+1:=by simp
 have FW:=FN.of (B:=B) (pb:=pb) hbW
 have hzp:=h.lt
 have N0:=ai (h.bel hbW)
 have F0:=ai (FN.refl B pb (w.alloc (.cells #[.int .i64 (f:Int),.int .i64 (t:Int)] 429)))
 have BXb:=ai (Bx.at w #[.int .i64 (f:Int),.int .i64 (t:Int)] 429 (w.heap.size) (by simp))
 have HQ:=ai (hq.fn FW)
 clear h hq
 go_enter Tryz.func328,Tryz.ntmps328
 have zp1:=(uh N0).lt
 rw[zW]at zp1
 have hb1:Below (w.alloc (.cells #[.int .i64 (f:Int),.int .i64 (t:Int)] 429)).heap.size (w.alloc (.cells #[.int .i64 (f:Int),.int .i64 (t:Int)] 429)) ((w.alloc (.cells #[.int .i64 (f:Int),.int .i64 (t:Int)] 429)).alloc (.cells #[.string kOpn,.string kClose] 9)):=bw _
 have eT1:qbs l last [kOpn,kClose]=((l++(sep last++[40]))++[41]):=by
  show(putL' (putL' l last kOpn) kOpn kClose)=_
  rw[qav (qab [40]) (by decide) (by decide) (by decide),qey (qab [41]) (by decide)]
 have HP1:=qbl ((uh N0).bel hb1) [kOpn,kClose] (by intro t ht;simp only[List.mem_cons,List.not_mem_nil,or_false]at ht;rcases ht with rfl|rfl<;>first|decide|assumption) (by simp) (by first|omega|(simp only[lqa,lqc,lqn];omega)) (w.heap.size+1) (Bx.at (w.alloc (.cells #[.int .i64 (f:Int),.int .i64 (t:Int)] 429)) #[.string kOpn,.string kClose] 9 (w.heap.size+1) (by simp)) (by omega) (Or.inr ((Bx.at (w.alloc (.cells #[.int .i64 (f:Int),.int .i64 (t:Int)] 429)) #[.string kOpn,.string kClose] 9 (w.heap.size+1) (by simp)).nby (by intro x hx c;simp at hx;subst hx;intro q;cases q)))
 rw[eT1]at HP1
 go_wp2_with fail
 refine HP1.mono ?_
 rintro e w1⟨rfl,bvw1,hN,hF⟩
 have N2:Hid (PN w1 B pb bvw1 ((l++(sep last++[40]))++[41]) kClose mv):=ai hN
 have F3:=ai ((uh F0).trans ((FN.of hb1).trans hF))
 have zw1:=(uh F3).size
 rw[zW]at zw1
 clear hN hF HP1 hb1 eT1 N0 F0
 go_wp2_with fail
 go_end0
 refine⟨rfl,bvw1,kClose,?_,qdt (qab [41]) (by decide) (by decide),FW.trans (uh F3)⟩
 show PN w1 B pb bvw1 (l++(sep last++[40,41])) kClose mv
 rw[show l++(sep last++[40,41])=((l++(sep last++[40]))++[41]) by simp]
 exact uh N2
theorem bareP_word(s:BA)(n f t a:Nat)(hss:s.size<=1000):BarePC (.mk 4 s n [] f t a):=by
 intro w B pb bv l last mv Q v h hp hq hl hB
 cases hp with
 |word s n f t a hs=>
 have esh:=sh_word s n f t a
 rw[esh]at hl⊢
 simp only[lqa,lqc,lqn]at hl
 have ha0:=taPattern_Bool_Any
 have ha1:=taPattern_Bool_Low
 have ha2:=taPattern_Bool_Number
 have ha3:=taPattern_Bool_Bool
 have htl:=tl_of hs
 generalize(s.toList==[116,114,117,101])=bb at htl⊢
 have hws:(qb2 bb).size<=1000:=by unfold qb2;split<;>decide
 have hwn:(qb2 bb).toList≠[41]/\(qb2 bb).toList≠[44]/\(qb2 bb).toList≠[59]/\Fine (qb2 bb):=by
  unfold Fine qb2
  cases bb<;>simp[ByteArray.toList_eq]
 obtain⟨n1,n2,n3,hfi⟩:=hwn
 rw[<-htl]at hl⊢
 clear htl
 have hbW:Below w.heap.size w (w.alloc (.cells #[.int .i64 (f:Int),.int .i64 (t:Int),.bool bb] 426)):=(bw (.cells #[.int .i64 (f:Int),.int .i64 (t:Int),.bool bb] 426))
 have zW:(w.alloc (.cells #[.int .i64 (f:Int),.int .i64 (t:Int),.bool bb] 426)).heap.size=w.heap.size+1:=by simp
 have FW:=FN.of (B:=B) (pb:=pb) hbW
 have hzp:=h.lt
 have N0:=ai (h.bel hbW)
 have F0:=ai (FN.refl B pb (w.alloc (.cells #[.int .i64 (f:Int),.int .i64 (t:Int),.bool bb] 426)))
 have BXb:=ai (Bx.at w #[.int .i64 (f:Int),.int .i64 (t:Int),.bool bb] 426 (w.heap.size) (by simp))
 have HQ:=ai (hq.fn FW)
 clear h hq
 go_enter Tryz.func328,Tryz.ntmps328
 go_wp2_with fail
 refine(formatBool_C bb).mono ?_
 rintro e w'⟨rfl,rfl⟩
 have zp1:=(uh N0).lt
 rw[zW]at zp1
 have hb1:Below (w.alloc (.cells #[.int .i64 (f:Int),.int .i64 (t:Int),.bool bb] 426)).heap.size (w.alloc (.cells #[.int .i64 (f:Int),.int .i64 (t:Int),.bool bb] 426)) ((w.alloc (.cells #[.int .i64 (f:Int),.int .i64 (t:Int),.bool bb] 426)).alloc (.cells #[.string (qb2 bb)] 9)):=bw _
 have eT1:qbs l last [(qb2 bb)]=(l++(sep last++(qb2 bb).toList)):=by
  show(putL' l last (qb2 bb))=_
  rw[qav rfl n1 n2 n3]
 have HP1:=qbl ((uh N0).bel hb1) [(qb2 bb)] (by intro t ht;simp only[List.mem_cons,List.not_mem_nil,or_false]at ht;rcases ht with rfl<;>first|decide|assumption) (by simp) (by first|omega|(simp only[lqa,lqc,lqn];omega)) (w.heap.size+1) (Bx.at (w.alloc (.cells #[.int .i64 (f:Int),.int .i64 (t:Int),.bool bb] 426)) #[.string (qb2 bb)] 9 (w.heap.size+1) (by simp)) (by omega) (Or.inr ((Bx.at (w.alloc (.cells #[.int .i64 (f:Int),.int .i64 (t:Int),.bool bb] 426)) #[.string (qb2 bb)] 9 (w.heap.size+1) (by simp)).nby (by intro x hx c;simp at hx;subst hx;intro q;cases q)))
 rw[eT1]at HP1
 go_wp2_with fail
 refine HP1.mono ?_
 rintro e w1⟨rfl,bvw1,hN,hF⟩
 have N2:Hid (PN w1 B pb bvw1 (l++(sep last++(qb2 bb).toList)) (qb2 bb) mv):=ai hN
 have F3:=ai ((uh F0).trans ((FN.of hb1).trans hF))
 have zw1:=(uh F3).size
 rw[zW]at zw1
 clear hN hF HP1 hb1 eT1 N0 F0
 go_wp2_with fail
 go_end0
 refine⟨rfl,bvw1,(qb2 bb),?_,hfi,FW.trans (uh F3)⟩
 show PN w1 B pb bvw1 (l++(sep last++(qb2 bb).toList)) (qb2 bb) mv
 rw[show l++(sep last++(qb2 bb).toList)=(l++(sep last++(qb2 bb).toList)) by simp]
 exact uh N2
theorem bareP_num(s:BA)(n f t a:Nat)(HI:ItoaC)(hn:n<1000000000):BarePC (.mk 3 s n [] f t a):=by
 intro w B pb bv l last mv Q v h hp hq hl hB
 cases hp with
 |num s n f t a=>
 have esh:=sh_num s n f t a
 rw[esh]at hl⊢
 simp only[lqa,lqc,lqn]at hl
 have ha0:=taPattern_Number_Any
 have ha1:=taPattern_Number_Low
 have ha2:=qf2
 obtain⟨n1,n2,n3,n4,n5⟩:=dec_ne n
 have hfi:Fine (bs (dec n)):=by unfold Fine;rw[bs_list];exact⟨n4,n5⟩
 rw[<-bs_list (dec n)]at n1 n2 n3
 have hds:(bs (dec n)).size<=1000:=by rw[qa5];have:=dec_pow 8 n (by omega);omega
 have hbW:Below w.heap.size w (w.alloc (.cells #[.int .i64 (f:Int),.int .i64 (t:Int),.int .i64 (n:Int)] 431)):=(bw (.cells #[.int .i64 (f:Int),.int .i64 (t:Int),.int .i64 (n:Int)] 431))
 have zW:(w.alloc (.cells #[.int .i64 (f:Int),.int .i64 (t:Int),.int .i64 (n:Int)] 431)).heap.size=w.heap.size+1:=by simp
 have FW:=FN.of (B:=B) (pb:=pb) hbW
 have hzp:=h.lt
 have N0:=ai (h.bel hbW)
 have F0:=ai (FN.refl B pb (w.alloc (.cells #[.int .i64 (f:Int),.int .i64 (t:Int),.int .i64 (n:Int)] 431)))
 have BXb:=ai (Bx.at w #[.int .i64 (f:Int),.int .i64 (t:Int),.int .i64 (n:Int)] 431 (w.heap.size) (by simp))
 have HQ:=ai (hq.fn FW)
 clear h hq
 go_enter Tryz.func328,Tryz.ntmps328
 go_wp2_with fail
 refine(HI _ n hn (uh HQ).p).mono ?_
 rintro e wi⟨rfl,hbi⟩
 have Ni:=ai ((uh N0).bel hbi)
 have Fi:=ai ((uh F0).trans (FN.of hbi))
 have zi:=hbi.size
 rw[zW]at zi
 clear N0 F0 hbi
 have zp1:=(uh Ni).lt
 have hb1:Below wi.heap.size wi (wi.alloc (.cells #[.string (bs (dec n))] 9)):=bw _
 have eT1:qbs l last [(bs (dec n))]=(l++(sep last++(bs (dec n)).toList)):=by
  show(putL' l last (bs (dec n)))=_
  rw[qav rfl n1 n2 n3]
 have HP1:=qbl ((uh Ni).bel hb1) [(bs (dec n))] (by intro t ht;simp only[List.mem_cons,List.not_mem_nil,or_false]at ht;rcases ht with rfl<;>first|decide|assumption) (by simp) (by first|omega|(simp only[lqa,lqc,lqn];omega)) (wi.heap.size) (Bx.at wi #[.string (bs (dec n))] 9 (wi.heap.size) (by simp)) (by omega) (Or.inr ((Bx.at wi #[.string (bs (dec n))] 9 (wi.heap.size) (by simp)).nby (by intro x hx c;simp at hx;subst hx;intro q;cases q)))
 rw[eT1]at HP1
 go_wp2_with fail
 refine HP1.mono ?_
 rintro e w1⟨rfl,bvw1,hN,hF⟩
 have N2:Hid (PN w1 B pb bvw1 (l++(sep last++(bs (dec n)).toList)) (bs (dec n)) mv):=ai hN
 have F3:=ai ((uh Fi).trans ((FN.of hb1).trans hF))
 have zw1:=(uh F3).size
 rw[zW]at zw1
 clear hN hF HP1 hb1 eT1 Ni Fi
 go_wp2_with fail
 go_end0
 refine⟨rfl,bvw1,(bs (dec n)),?_,hfi,FW.trans (uh F3)⟩
 show PN w1 B pb bvw1 (l++(sep last++dec n)) (bs (dec n)) mv
 rw[show l++(sep last++dec n)=(l++(sep last++(bs (dec n)).toList)) by rw[bs_list]]
 exact uh N2
theorem bareP_pr(s:BA)(n:Nat)(x y:Nd)(f t a:Nat)(Hx:AtPC x)(Hy:AtPC y):BarePC (.mk 6 s n [x,y] f t a):=by
 intro w B pb bv l last mv Q v h hp hq hl hB
 cases hp with
 |pr s n x y f t a vx vy hx hy=>
 have hx0:=hx
 have hy0:=hy
 obtain⟨tx,xx,rfl⟩:=hx.iface
 obtain⟨ty,xy,rfl⟩:=hy.iface
 have esh:=sh_pr s n x y f t a
 rw[esh]at hl⊢
 simp only[lqa,lqc,lqn]at hl
 have ha0:=qe9
 have ha1:=qfa
 have ha2:=qeg
 have ha3:=qet
 have ha4:=qeu
 have ha5:=qcy
 have ha6:=qdl
 have hbW:Below w.heap.size w (w.alloc (.cells #[.int .i64 (f:Int),.int .i64 (t:Int),.iface tx (.agg xx),.iface ty (.agg xy)] 433)):=(bw (.cells #[.int .i64 (f:Int),.int .i64 (t:Int),.iface tx (.agg xx),.iface ty (.agg xy)] 433))
 have zW:(w.alloc (.cells #[.int .i64 (f:Int),.int .i64 (t:Int),.iface tx (.agg xx),.iface ty (.agg xy)] 433)).heap.size=w.heap.size+1:=by simp
 have FW:=FN.of (B:=B) (pb:=pb) hbW
 have hzp:=h.lt
 have N0:=ai (h.bel hbW)
 have F0:=ai (FN.refl B pb (w.alloc (.cells #[.int .i64 (f:Int),.int .i64 (t:Int),.iface tx (.agg xx),.iface ty (.agg xy)] 433)))
 have BXb:=ai (Bx.at w #[.int .i64 (f:Int),.int .i64 (t:Int),.iface tx (.agg xx),.iface ty (.agg xy)] 433 (w.heap.size) (by simp))
 have Vx:=ai (hx0.bel hbW)
 have Vy:=ai (hy0.bel hbW)
 have HQ:=ai (hq.fn FW)
 clear h hq
 go_enter Tryz.func328,Tryz.ntmps328
 have zp1:=(uh N0).lt
 rw[zW]at zp1
 have hb1:Below (w.alloc (.cells #[.int .i64 (f:Int),.int .i64 (t:Int),.iface tx (.agg xx),.iface ty (.agg xy)] 433)).heap.size (w.alloc (.cells #[.int .i64 (f:Int),.int .i64 (t:Int),.iface tx (.agg xx),.iface ty (.agg xy)] 433)) ((w.alloc (.cells #[.int .i64 (f:Int),.int .i64 (t:Int),.iface tx (.agg xx),.iface ty (.agg xy)] 433)).alloc (.cells #[.string kOpn] 9)):=bw _
 have eT1:qbs l last [kOpn]=(l++(sep last++[40])):=by
  show(putL' l last kOpn)=_
  rw[qav (qab [40]) (by decide) (by decide) (by decide)]
 have HP1:=qbl ((uh N0).bel hb1) [kOpn] (by intro t ht;simp only[List.mem_cons,List.not_mem_nil,or_false]at ht;rcases ht with rfl<;>first|decide|assumption) (by simp) (by first|omega|(simp only[lqa,lqc,lqn];omega)) (w.heap.size+1) (Bx.at (w.alloc (.cells #[.int .i64 (f:Int),.int .i64 (t:Int),.iface tx (.agg xx),.iface ty (.agg xy)] 433)) #[.string kOpn] 9 (w.heap.size+1) (by simp)) (by omega) (Or.inr ((Bx.at (w.alloc (.cells #[.int .i64 (f:Int),.int .i64 (t:Int),.iface tx (.agg xx),.iface ty (.agg xy)] 433)) #[.string kOpn] 9 (w.heap.size+1) (by simp)).nby (by intro x hx c;simp at hx;subst hx;intro q;cases q)))
 rw[eT1]at HP1
 go_wp2_with fail
 refine HP1.mono ?_
 rintro e w1⟨rfl,bvw1,hN,hF⟩
 have N2:Hid (PN w1 B pb bvw1 (l++(sep last++[40])) kOpn mv):=ai hN
 have F3:=ai ((uh F0).trans ((FN.of hb1).trans hF))
 have zw1:=(uh F3).size
 rw[zW]at zw1
 clear hN hF HP1 hb1 eT1 N0 F0
 obtain⟨c4,fc4,zc4⟩:=(uh F3).pn_ne (uh BXb) (by omega) (by intro x hx c;simp at hx;subst hx;intro q;cases q)
 have HS5:=Hx w1 B pb _ _ kOpn mv Q _ 0 (uh N2) ((uh Vx).fnQ (uh HQ) (uh F3)) ((uh HQ).fn (uh F3)) (by omega) (by rw[sep_opn];rw[atPt_0];simp only[lqa,lqc,lqn];omega) hB
 rw[sep_opn]at HS5
 rw[atPt_0]at HS5
 go_wp2_with fail
 clear c4 fc4 zc4
 refine HS5.mono ?_
 rintro e w2⟨rfl,bvw2,lastw2,hN,fiw2,hF⟩
 have N6:=ai hN
 have F7:=ai ((uh F3).trans hF)
 have zw2:=(uh F7).size
 rw[zW]at zw2
 clear hN hF HS5 N2 F3
 have zp8:=(uh N6).lt
 have hb8:Below w2.heap.size w2 (w2.alloc (.cells #[.string kComma] 9)):=bw _
 have eT8:qbs ((l++(sep last++[40]))++([]++sh x)) lastw2 [kComma]=(((l++(sep last++[40]))++([]++sh x))++[44]):=by
  show(putL' ((l++(sep last++[40]))++([]++sh x)) lastw2 kComma)=_
  rw[qey (qab [44]) (by decide)]
 have HP8:=qbl ((uh N6).bel hb8) [kComma] (by intro t ht;simp only[List.mem_cons,List.not_mem_nil,or_false]at ht;rcases ht with rfl<;>first|decide|assumption) (by simp) (by first|omega|(simp only[lqa,lqc,lqn];omega)) (w2.heap.size) (Bx.at w2 #[.string kComma] 9 (w2.heap.size) (by simp)) (by omega) (Or.inr ((Bx.at w2 #[.string kComma] 9 (w2.heap.size) (by simp)).nby (by intro x hx c;simp at hx;subst hx;intro q;cases q)))
 rw[eT8]at HP8
 go_wp2_with fail
 refine HP8.mono ?_
 rintro e w3⟨rfl,bvw3,hN,hF⟩
 have N9:Hid (PN w3 B pb bvw3 (((l++(sep last++[40]))++([]++sh x))++[44]) kComma mv):=ai hN
 have F10:=ai ((uh F7).trans ((FN.of hb8).trans hF))
 have zw3:=(uh F10).size
 rw[zW]at zw3
 clear hN hF HP8 hb8 eT8 N6 F7
 obtain⟨c11,fc11,zc11⟩:=(uh F10).pn_ne (uh BXb) (by omega) (by intro x hx c;simp at hx;subst hx;intro q;cases q)
 have HS12:=Hy w3 B pb _ _ kComma mv Q _ 0 (uh N9) ((uh Vy).fnQ (uh HQ) (uh F10)) ((uh HQ).fn (uh F10)) (by omega) (by rw[qb7 (qab [44]) (by decide) (by decide)];rw[atPt_0];simp only[lqa,lqc,lqn];omega) hB
 rw[qb7 (qab [44]) (by decide) (by decide)]at HS12
 rw[atPt_0]at HS12
 go_wp2_with fail
 clear c11 fc11 zc11
 refine HS12.mono ?_
 rintro e w4⟨rfl,bvw4,lastw4,hN,fiw4,hF⟩
 have N13:=ai hN
 have F14:=ai ((uh F10).trans hF)
 have zw4:=(uh F14).size
 rw[zW]at zw4
 clear hN hF HS12 N9 F10
 have zp15:=(uh N13).lt
 have hb15:Below w4.heap.size w4 (w4.alloc (.cells #[.string kClose] 9)):=bw _
 have eT15:qbs ((((l++(sep last++[40]))++([]++sh x))++[44])++([32]++sh y)) lastw4 [kClose]=(((((l++(sep last++[40]))++([]++sh x))++[44])++([32]++sh y))++[41]):=by
  show(putL' ((((l++(sep last++[40]))++([]++sh x))++[44])++([32]++sh y)) lastw4 kClose)=_
  rw[qey (qab [41]) (by decide)]
 have HP15:=qbl ((uh N13).bel hb15) [kClose] (by intro t ht;simp only[List.mem_cons,List.not_mem_nil,or_false]at ht;rcases ht with rfl<;>first|decide|assumption) (by simp) (by first|omega|(simp only[lqa,lqc,lqn];omega)) (w4.heap.size) (Bx.at w4 #[.string kClose] 9 (w4.heap.size) (by simp)) (by omega) (Or.inr ((Bx.at w4 #[.string kClose] 9 (w4.heap.size) (by simp)).nby (by intro x hx c;simp at hx;subst hx;intro q;cases q)))
 rw[eT15]at HP15
 go_wp2_with fail
 refine HP15.mono ?_
 rintro e w5⟨rfl,bvw5,hN,hF⟩
 have N16:Hid (PN w5 B pb bvw5 (((((l++(sep last++[40]))++([]++sh x))++[44])++([32]++sh y))++[41]) kClose mv):=ai hN
 have F17:=ai ((uh F14).trans ((FN.of hb15).trans hF))
 have zw5:=(uh F17).size
 rw[zW]at zw5
 clear hN hF HP15 hb15 eT15 N13 F14
 go_wp2_with fail
 go_end0
 refine⟨rfl,bvw5,kClose,?_,qdt (qab [41]) (by decide) (by decide),FW.trans (uh F17)⟩
 show PN w5 B pb bvw5 (l++(sep last++40::(sh x++([44,32]++(sh y++[41]))))) kClose mv
 rw[show l++(sep last++40::(sh x++([44,32]++(sh y++[41]))))=(((((l++(sep last++[40]))++([]++sh x))++[44])++([32]++sh y))++[41]) by simp]
 exact uh N16
end
end
section
open Go Go.RowKit Go.ChangeMaps Un
section
variable {w:World} {B pb:Nat} {bv:Value} {l:List UInt8} {last:BA} {mv:Value} {Q:Nat->Prop} {nd:Nd} {v:Value}
theorem patternRank_C(h:PP w Q nd v):Calls Tryz.prog 326 #[v] w fun e w'=>e=.returned (.int .i64 (prk nd:Int))/\Below w.heap.size w w':=by
 have hb0:∀C t,Below w.heap.size w (w.alloc (.cells C t)):=fun C t=>bw _
 cases h with
 |any s n f t a=>
  have h1:=taPattern_Any_Made
  go_enter Tryz.func326,Tryz.ntmps326
  go_wp2_with fail
  go_ret
  exact⟨by simp[prk],hb0 _ _⟩
 |low s n f t a hs=>
  have h1:=taPattern_Low_Made
  go_enter Tryz.func326,Tryz.ntmps326
  go_wp2_with fail
  go_ret
  exact⟨by simp[prk],hb0 _ _⟩
 |num s n f t a=>
  have h1:=taPattern_Number_Made
  go_enter Tryz.func326,Tryz.ntmps326
  go_wp2_with fail
  go_ret
  exact⟨by simp[prk],hb0 _ _⟩
 |word s n f t a hs=>
  have h1:=taPattern_Bool_Made
  go_enter Tryz.func326,Tryz.ntmps326
  go_wp2_with fail
  go_ret
  exact⟨by simp[prk],hb0 _ _⟩
 |unit s n f t a=>
  have h1:=taPattern_Unit_Made
  go_enter Tryz.func326,Tryz.ntmps326
  go_wp2_with fail
  go_ret
  exact⟨by simp[prk],hb0 _ _⟩
 |pr s n x y f t a vx vy hx hy=>
  have h1:=qcy
  go_enter Tryz.func326,Tryz.ntmps326
  go_wp2_with fail
  go_ret
  exact⟨by simp[prk],hb0 _ _⟩
 |up s n L f t a y sa sc vs hu hy hrow hr=>
  have h1:=qep
  by_cases hL:L=[]
  .have h3:decide ((0:Int)<(L.length:Int))=false:=by simp[hL]
   go_enter Tryz.func326,Tryz.ntmps326
   go_wp2_with fail
   go_ret
   exact⟨by simp[prk,hL],hb0 _ _⟩
  .have h3:(0:Int)<(L.length:Int):=by have:=List.length_pos_iff.2 hL;omega
   go_enter Tryz.func326,Tryz.ntmps326
   go_wp2_with fail
   go_ret
   exact⟨by simp[prk,hL],hb0 _ _⟩
theorem closP_C(HB:BarePC nd)(h:PN w B pb bv l last mv)(hp:PP w Q nd v)(hq:NT w pb Q)(hl:(l++(sep last++sh nd)).length<=800000)(hB:B<=pb)(b1 b2:Nat)(h1:Bx w b1 #[.pointer (some ⟨pb,0,none⟩)])(h2:Bx w b2 #[v]):
 Calls Tryz.prog 327 #[.pointer (some ⟨b1,0,none⟩),.pointer (some ⟨b2,0,none⟩)] w (qcc B pb mv (l++(sep last++sh nd)) w):=by
 obtain⟨tv,xv,rfl⟩:=hp.iface
 obtain⟨c1,f1,z1⟩:=h1
 obtain⟨c2,f2,z2⟩:=h2
 have HC:=HB w B pb bv l last mv Q _ h hp hq hl hB
 go_enter Tryz.func327,Tryz.ntmps327
 go_wp2_with fail
 refine HC.mono ?_
 intro e w1 hp1
 have hp2:=hp1
 obtain⟨rfl,_⟩:=hp1
 go_wp2_with fail
 go_end0
 exact hp2
theorem groupP_C (HB:BarePC nd) (k:Nat) (h:PN w B pb bv l last mv) (hp:PP w Q nd v) (hq:NT w pb Q) (hl:(l++(sep last++atPt nd k)).length≤800000) (hB:B≤pb) (b1 b2:Nat) (h1:Bx w b1 #[.pointer (some ⟨pb,0,none⟩)]) (h2:Bx w b2 #[v]) (n1:b1≠pb) (n2:b2≠pb):
 Calls Tryz.prog 130 #[.pointer (some ⟨pb,0,none⟩),.bool (decide (prk nd<k)),.func (.func 327) #[] #[.pointer (some ⟨b1,0,none⟩),.pointer (some ⟨b2,0,none⟩)]] w (qcc B pb mv (l++(sep last++atPt nd k)) w):=by
 obtain ⟨tv,xv,rfl⟩:=hp.iface
 exact group2_X (fun W=>PP W Q nd (.iface tv (.agg xv))∧NT W pb Q∧Bx W b1 #[.pointer (some ⟨pb,0,none⟩)]∧Bx W b2 #[.iface tv (.agg xv)])
  (fun w w' i F=>⟨i.1.fnQ i.2.1 F,i.2.1.fn F,F.pn_ne i.2.2.1 n1 (by intro x hx c;simp at hx;subst hx;intro q;cases q),F.pn_ne i.2.2.2 n2 (by intro x hx c;simp at hx;subst hx;intro q;cases q)⟩)
  (fun _ _=>by kernel_rfl) (fun w bv l last hN i hb=>closP_C HB hN i.1 i.2.1 hb hB b1 b2 i.2.2.1 i.2.2.2) h ⟨hp,hq,h1,h2⟩ hl
theorem qfx(HB:BarePC nd):AtPC nd:=by
 intro w B pb bv l last mv Q v k h hp hq hk hl hB
 obtain⟨tv,xv,hv⟩:=hp.iface
 have hzp:=h.lt
 have n1:w.heap.size≠pb:=by omega
 have n2:w.heap.size+1≠pb:=by omega
 obtain⟨R,hR⟩:∃R,R=qcc B pb mv (l++(sep last++atPt nd k)) w:=⟨_,rfl⟩
 obtain⟨r,hr⟩:∃r,r=prk nd:=⟨_,rfl⟩
 have hb0:Below w.heap.size w ((w.alloc (.cells #[.pointer (some ⟨pb,0,none⟩)] 126)).alloc (.cells #[v] 332)):=(bw _).alloc (by simp) _
 have X1:=((Bx.new w #[.pointer (some ⟨pb,0,none⟩)] 126).alloc (.cells #[v] 332))
 have X2:Bx ((w.alloc (.cells #[.pointer (some ⟨pb,0,none⟩)] 126)).alloc (.cells #[v] 332)) (w.heap.size+1) #[v]:=by have:=Bx.new (w.alloc (.cells #[.pointer (some ⟨pb,0,none⟩)] 126)) #[v] 332;simpa using this
 have HN:=h.bel hb0
 have HP:=hp.bel hb0
 have F0:=FN.of (B:=B) (pb:=pb) hb0
 have HQ:=hq.fn F0
 have hmf:∀(fn:Fn)(first cap:Array Value)(w:World),(Instr.makeFunc fn first cap).run Tryz.prog w=.ok (.func fn first cap) w:=fun _ _ _ _=>rfl
 subst hv
 rw[<-hR]
 clear h hp hq hb0
 go_enter Tryz.func236,Tryz.ntmps236
 go_wp2_with fail
 generalize((w.alloc (.cells #[.pointer (some ⟨pb,0,none⟩)] 126)).alloc (.cells #[.iface tv (.agg xv)] 332))=W0 at X1 X2 HN HP F0 HQ⊢
 generalize w.heap.size=b1 at n1 n2 X1 X2⊢
 have c1:=X1.c
 have f1:=X1.f
 have z1:=X1.z
 have c2:=X2.c
 have f2:=X2.f
 have z2:=X2.z
 have HRK:Hid (∀W,Below W0.heap.size W0 W->Calls Tryz.prog 326 #[.iface tv (.agg xv)] W fun e w'=>e=.returned (.int .i64 (r:Int))/\Below W.heap.size W w'):=ai (fun W hW=>by rw[hr];exact patternRank_C (HP.bel hW))
 have HG:Hid (∀W,Below W0.heap.size W0 W->Calls Tryz.prog 130 #[.pointer (some ⟨pb,0,none⟩),.bool (decide (r<k)),.func (.func 327) #[] #[.pointer (some ⟨b1,0,none⟩),.pointer (some ⟨b1+1,0,none⟩)]] W fun e w'=>e=.returned (.tuple #[])/\R e w'/\w'.cell? ⟨b1,0,none⟩=some (.pointer (some ⟨pb,0,none⟩))/\w'.cell? ⟨b1+1,0,none⟩=some (.iface tv (.agg xv))):=ai (fun W hW=>by
  have FW:=FN.of (B:=B) (pb:=pb) hW
  rw[hr]
  refine(groupP_C HB k (HN.bel hW) (HP.bel hW) (HQ.fn FW) hl hB b1 (b1+1) (X1.below hW) (X2.below hW) n1 n2).mono ?_
  rintro e w2⟨rfl,bv2,last2,hN2,fi2,hF2⟩
  have Y1:=hF2.pn_ne (X1.below hW) n1 (by intro x hx c;simp at hx;subst hx;intro q;cases q)
  have Y2:=hF2.pn_ne (X2.below hW) n2 (by intro x hx c;simp at hx;subst hx;intro q;cases q)
  refine⟨rfl,?_,Y1.c 0,Y2.c 0⟩
  rw[hR]
  exact⟨rfl,bv2,last2,hN2,fi2,F0.trans (FW.trans hF2)⟩)
 clear HB HN HP HQ F0 hR hr hl X1 X2 n1 n2 hzp hk hB
 have k1:W0.cell? ⟨b1,0,none⟩=some (.pointer (some ⟨pb,0,none⟩)):=c1 0
 have k2:W0.cell? ⟨b1+1,0,none⟩=some (.iface tv (.agg xv)):=c2 0
 clear c1 c2 f1 f2
 go_region_held3(fun w'=>w'.cell? ⟨b1,0,none⟩=some (.pointer (some ⟨pb,0,none⟩))/\w'.cell? ⟨b1+1,0,none⟩=some (.iface tv (.agg xv))) (first|go_keep|(simp[*])) (first|(go_at_call 326;refine(uh HRK _ (Below.refl _ _).drew).mono ?_;rintro e w1⟨rfl,hb1⟩;have HB1:=ai (drew_bel hb1);have k3:w1.cell? ⟨b1,0,none⟩=some (.pointer (some ⟨pb,0,none⟩)):=(World.cell?_of_block (a:=⟨b1,0,none⟩) ((uh HB1).block b1 z1)).trans k1;have k4:w1.cell? ⟨b1+1,0,none⟩=some (.iface tv (.agg xv)):=(World.cell?_of_block (a:=⟨b1+1,0,none⟩) ((uh HB1).block (b1+1) z2)).trans k2;clear hb1)|(go_at_call 130;with_reducible refine(uh HG _ (uh HB1)).mono ?_;rintro e w2⟨rfl,hR2,k5,k6⟩;have HR2:=ai hR2;clear hR2))
 all_goals(
  go_wp2_with fail
  go_end0
  exact uh HR2)
end
end
section
open Go Go.RowKit Go.ChangeMaps Un
theorem PP.at5{w:World}{Q:Nat->Prop}{nd:Nd}{v:Value}(h:PP w Q nd v):atPt nd 1=atP (lv nd,sh nd) 5:=by
 unfold atPt atP
 cases h with
 |up s n L f t a y sa sc vs hu hy hrow hr=>by_cases hL:L=[]<;>simp[prk,lv,hL]|_=>simp[prk,lv]
theorem behind_take(L:List Nd)(j:Nat)(h:j<L.length):qa4 ((L.take (j+1)).map fun x=>(lv x,sh x))=qa4 ((L.take j).map fun x=>(lv x,sh x))++32::atP (lv L[j],sh L[j]) 5:=by
 unfold qa4
 rw[List.take_add_one,List.getElem?_eq_getElem h]
 simp only[List.map_append,List.flatMap_append,Option.toList_some,List.map_cons,List.map_nil,List.flatMap_cons,List.flatMap_nil,List.append_nil]
theorem behind_le(L:List Nd)(j:Nat):(qa4 ((L.take j).map fun x=>(lv x,sh x))).length<=(qa4 (L.map fun x=>(lv x,sh x))).length:=by
 have e:qa4 (L.map fun x=>(lv x,sh x))=qa4 ((L.take j).map fun x=>(lv x,sh x))++qa4 ((L.drop j).map fun x=>(lv x,sh x)):=by
  unfold qa4
  rw[<-List.flatMap_append,<-List.map_append,List.take_append_drop]
 rw[e,lqa]
 omega
def PMadeRel(B pb:Nat)(mv:Value)(l:List UInt8)(L:List Nd)(w:World)(gk:Nat)(v:Value)(wr:World):Prop:=
 ∃(j:Nat)(bv':Value)(last':BA),Hid (gk=L.length-j)/\j<=L.length/\v=.int .i64 (j:Int)/\PN wr B pb bv' (l++qa4 ((L.take j).map fun x=>(lv x,sh x))) last' mv/\Fine last'/\FN B pb w wr
theorem bareP_up(s:BA)(n:Nat)(L:List Nd)(f t a:Nat)(hss:s.size<=1000)(hL:L.length<=1001)(IH:∀i(h:i<L.length),AtPC L[i]):BarePC (.mk 2 s n L f t a):=by
 intro w B pb bv l last mv Q v h hp hq hl hB
 cases hp with
 |up s n L f t a y sa sc vs hu hy hrow hr=>
 clear hy
 rw[sh_up]at hl⊢
 simp only[lqa]at hl
 have ha0:=taPattern_Made_Any
 have ha1:=taPattern_Made_Low
 have ha2:=taPattern_Made_Number
 have ha3:=taPattern_Made_Bool
 have ha4:=taPattern_Made_Unit
 have ha5:=qep
 obtain⟨n1,n2,n3⟩:=up_ne hu
 have hfi:=fine_up hu
 have HR:=ai hr
 have HW:=ai hrow
 have Hq:=ai hq
 clear hr hrow
 have hbW:Below w.heap.size w (w.alloc (.cells #[.int .i64 (f:Int),.int .i64 (t:Int),.int .i64 (a:Int),.int .i64 (y:Int),.string s,.slice sa L.length sc] 410)):=(bw (.cells #[.int .i64 (f:Int),.int .i64 (t:Int),.int .i64 (a:Int),.int .i64 (y:Int),.string s,.slice sa L.length sc] 410))
 have zW:(w.alloc (.cells #[.int .i64 (f:Int),.int .i64 (t:Int),.int .i64 (a:Int),.int .i64 (y:Int),.string s,.slice sa L.length sc] 410)).heap.size=w.heap.size+1:=by simp
 have FW:=FN.of (B:=B) (pb:=pb) hbW
 have hzp:=h.lt
 have N0:=ai (h.bel hbW)
 have F0:=ai (FN.refl B pb (w.alloc (.cells #[.int .i64 (f:Int),.int .i64 (t:Int),.int .i64 (a:Int),.int .i64 (y:Int),.string s,.slice sa L.length sc] 410)))
 have BXb:=ai (Bx.at w #[.int .i64 (f:Int),.int .i64 (t:Int),.int .i64 (a:Int),.int .i64 (y:Int),.string s,.slice sa L.length sc] 410 (w.heap.size) (by simp))
 have HQ:=ai (hq.fn FW)
 clear h hq
 go_enter Tryz.func328,Tryz.ntmps328
 have zp1:=(uh N0).lt
 rw[zW]at zp1
 have hb1:Below (w.alloc (.cells #[.int .i64 (f:Int),.int .i64 (t:Int),.int .i64 (a:Int),.int .i64 (y:Int),.string s,.slice sa L.length sc] 410)).heap.size (w.alloc (.cells #[.int .i64 (f:Int),.int .i64 (t:Int),.int .i64 (a:Int),.int .i64 (y:Int),.string s,.slice sa L.length sc] 410)) ((w.alloc (.cells #[.int .i64 (f:Int),.int .i64 (t:Int),.int .i64 (a:Int),.int .i64 (y:Int),.string s,.slice sa L.length sc] 410)).alloc (.cells #[.string s] 9)):=bw _
 have eT1:qbs l last [s]=(l++(sep last++s.toList)):=by
  show(putL' l last s)=_
  rw[qav rfl n1 n2 n3]
 have HP1:=qbl ((uh N0).bel hb1) [s] (by intro t ht;simp only[List.mem_cons,List.not_mem_nil,or_false]at ht;rcases ht with rfl<;>first|decide|assumption) (by simp) (by first|omega|(simp only[lqa,lqc,lqn];omega)) (w.heap.size+1) (Bx.at (w.alloc (.cells #[.int .i64 (f:Int),.int .i64 (t:Int),.int .i64 (a:Int),.int .i64 (y:Int),.string s,.slice sa L.length sc] 410)) #[.string s] 9 (w.heap.size+1) (by simp)) (by omega) (Or.inr ((Bx.at (w.alloc (.cells #[.int .i64 (f:Int),.int .i64 (t:Int),.int .i64 (a:Int),.int .i64 (y:Int),.string s,.slice sa L.length sc] 410)) #[.string s] 9 (w.heap.size+1) (by simp)).nby (by intro x hx c;simp at hx;subst hx;intro q;cases q)))
 rw[eT1]at HP1
 go_wp2_with fail
 refine HP1.mono ?_
 rintro e w1⟨rfl,bvw1,hN,hF⟩
 have N2:Hid (PN w1 B pb bvw1 (l++(sep last++s.toList)) s mv):=ai hN
 have F3:=ai ((uh F0).trans ((FN.of hb1).trans hF))
 have zw1:=(uh F3).size
 rw[zW]at zw1
 clear hN hF HP1 hb1 eT1 N0 F0
 obtain⟨c4,fc4,zc4⟩:=(uh F3).pn_ne (uh BXb) (by omega) (by intro x hx c;simp at hx;subst hx;intro q;cases q)
 go_wp2_with fail
 go_loopg[64] L.length (fun gk v wr=>PMadeRel B pb mv (l++(sep last++s.toList)) L w gk v wr)
 case atStart=>exact⟨0,bvw1,s,ai rfl,Nat.zero_le _,rfl,by simpa[qa4]using uh N2,hfi,FW.trans (uh F3)⟩
 case round=>
  clear N2 F3 c4 fc4 zc4
  obtain⟨j,bv2,last2,hgk,hj,rfl,N2,fi2,F2⟩:=hrel
  by_cases hjl:j<L.length
  .have hd:(j:Int)<(L.length:Int):=by omega
   obtain⟨g,rfl,hg,hgz,hcell⟩:∃g,sa=some ⟨g,0,none⟩/\Q g/\g<w.heap.size/\∀i,i<L.length->w.cell? ⟨g,i,none⟩=some (vs i):=by
    rcases uh HW with h0|h0
    .subst h0;simp at hjl
    .exact h0
   have cg:wr.cell? ⟨g,j,none⟩=some (vs j):=(World.cell?_of_block (a:=⟨g,j,none⟩) (F2.block g hgz ((uh Hq).q g hg).2.1 (Or.inr ((uh Hq).q g hg).2.2))).trans (hcell j hjl)
   have PJ:=(uh HR j hjl).fnQ (uh Hq) F2
   obtain⟨tv,xv,hv⟩:=PJ.iface
   have ft:=behind_take L j hjl
   have fl:=behind_le L (j+1)
   rw[ft]at fl
   simp only[lqa,lqc]at fl
   have e5:=PJ.at5
   rw[<-e5]at ft fl
   have HC:=IH j hjl wr B pb bv2 _ last2 mv Q (vs j) 1 N2 PJ ((uh Hq).fn F2) (br _) (by rw[qba fi2];simp only[lqa,lqc,lqn];omega) hB
   rw[hv]at cg HC
   rw[qba fi2]at HC
   go_wp2_with(go_at_call 236;refine HC.mono ?_;rintro e w3⟨rfl,bv3,last3,hN3,fi3,hF3⟩;have HN3:=ai hN3;have HF3:=ai (F2.trans hF3);clear hN3 hF3)
   go_roundg(L.length-(j+1))
   case measure=>rw[uh hgk];omega
   case rel=>
    refine⟨j+1,bv3,last3,ai rfl,by omega,by go_num,?_,fi3,uh HF3⟩
    rw[ft]
    have e9:(l++(sep last++s.toList))++(qa4 ((L.take j).map fun x=>(lv x,sh x))++32::atPt L[j] 1)=(l++(sep last++s.toList))++qa4 ((L.take j).map fun x=>(lv x,sh x))++([32]++atPt L[j] 1):=by simp
    rw[e9]
    exact uh HN3
  .have hd:decide ((j:Int)<(L.length:Int))=false:=by simp;omega
   have ej:j=L.length:=by omega
   subst ej
   rw[List.take_length]at N2
   go_wp2_with fail
   go_end0
   refine⟨rfl,bv2,last2,?_,fi2,F2⟩
   rw[show l++(sep last++(s.toList++qa4 (L.map fun x=>(lv x,sh x))))=(l++(sep last++s.toList))++qa4 (L.map fun x=>(lv x,sh x)) by simp]
   exact N2
inductive Sm:Nd->Prop where
 |mk(k:Nat)(s:BA)(n:Nat)(L:List Nd)(f t a:Nat)(hs:s.size<=1000)(hn:n<1000000000)(hl:L.length<=1001)(hL:∀x∈L,Sm x):Sm (.mk k s n L f t a)
theorem barePC_all(HI:ItoaC){nd:Nd}(h:Sm nd):BarePC nd:=by
 induction h with
 |mk k s n L f t a hs hn hl hL ih=>
  intro w B pb bv l last mv Q v hN hp
  have hp0:=hp
  cases hp with
  |any=>exact bareP_any s n f t a w B pb bv l last mv Q _ hN hp0|low=>exact bareP_low s n f t a hs w B pb bv l last mv Q _ hN hp0|num=>exact bareP_num s n f t a HI hn w B pb bv l last mv Q _ hN hp0|word=>exact bareP_word s n f t a hs w B pb bv l last mv Q _ hN hp0|unit=>exact bareP_unit s n f t a w B pb bv l last mv Q _ hN hp0|pr _ _ x y=>exact bareP_pr s n x y f t a (qfx (ih x (by simp))) (qfx (ih y (by simp))) w B pb bv l last mv Q _ hN hp0|up=>exact bareP_up s n L f t a hs hl (fun i hi=>qfx (ih _ (List.getElem_mem hi))) w B pb bv l last mv Q _ hN hp0
theorem atPC_all(HI:ItoaC){nd:Nd}(h:Sm nd):AtPC nd:=qfx (barePC_all HI h)
end
section
open Go Go.RowKit Go.ChangeMaps Un
def AtEC(nd:Nd):Prop:=∀(w:World)(B pb:Nat)(bv:Value)(l:List UInt8)(last:BA)(mv:Value)(Q:Nat->Prop)(v:Value)(k:Nat),PN w B pb bv l last mv->PE w Q nd v->NT w pb Q->PM w pb mv->k<=4->(l++(sep last++atW nd k)).length<=800000->B<=pb->
 Calls Tryz.prog 196 #[.pointer (some ⟨pb,0,none⟩),v,.int .i64 (k:Int)] w (qcc B pb mv (l++(sep last++atW nd k)) w)
def BareEC(nd:Nd):Prop:=∀(w:World)(B pb:Nat)(bv:Value)(l:List UInt8)(last:BA)(mv:Value)(Q:Nat->Prop)(v:Value),PN w B pb bv l last mv->PE w Q nd v->NT w pb Q->PM w pb mv->(l++(sep last++sh nd)).length<=800000->B<=pb->
 Calls Tryz.prog 302 #[.pointer (some ⟨pb,0,none⟩),v] w (qcc B pb mv (l++(sep last++sh nd)) w)
def isOp:Nd->Prop
 |.mk k _ _ _ _ _ _=>k=7
section
variable {w:World} {B pb:Nat} {bv:Value} {l:List UInt8} {last:BA} {mv:Value} {Q:Nat->Prop} {nd:Nd} {v:Value}
theorem levelOf_C(h:PE w Q nd v)(ho:¬isOp nd):Calls Tryz.prog 300 #[v] w fun e w'=>e=.returned (.int .i64 ((lv nd-1:Nat):Int))/\w=w':=by
 cases h with
 |op=>exact absurd rfl ho|low s n f t a hs=>
  have h0_:=taExpr_Low_Fun
  have h1_:=taExpr_Low_Let
  have h2_:=taExpr_Low_If
  have h3_:=taExpr_Low_Match
  have h4_:=taExpr_Low_Call
  go_enter Tryz.func300,Tryz.ntmps300
  go_wp2_with fail
  go_ret
  exact⟨by simp[lv],rfl⟩
 |up s n f t a hs=>
  have h0_:=taExpr_Up_Fun
  have h1_:=taExpr_Up_Let
  have h2_:=taExpr_Up_If
  have h3_:=taExpr_Up_Match
  have h4_:=taExpr_Up_Call
  go_enter Tryz.func300,Tryz.ntmps300
  go_wp2_with fail
  go_ret
  exact⟨by simp[lv],rfl⟩
 |num s n f t a=>
  have h0_:=qfm
  have h1_:=qfn
  have h2_:=taExpr_Number_If
  have h3_:=qeo
  have h4_:=qe4
  go_enter Tryz.func300,Tryz.ntmps300
  go_wp2_with fail
  go_ret
  exact⟨by simp[lv],rfl⟩
 |word s n f t a hs=>
  have h0_:=taExpr_Bool_Fun
  have h1_:=taExpr_Bool_Let
  have h2_:=taExpr_Bool_If
  have h3_:=qfk
  have h4_:=taExpr_Bool_Call
  go_enter Tryz.func300,Tryz.ntmps300
  go_wp2_with fail
  go_ret
  exact⟨by simp[lv],rfl⟩
 |unit s n f t a=>
  have h0_:=taExpr_Unit_Fun
  have h1_:=taExpr_Unit_Let
  have h2_:=taExpr_Unit_If
  have h3_:=qfq
  have h4_:=taExpr_Unit_Call
  go_enter Tryz.func300,Tryz.ntmps300
  go_wp2_with fail
  go_ret
  exact⟨by simp[lv],rfl⟩
 |pr s n x y f t a vx vy hx hy=>
  have h0_:=taExpr_Pair_Fun
  have h1_:=taExpr_Pair_Let
  have h2_:=taExpr_Pair_If
  have h3_:=qfo
  have h4_:=taExpr_Pair_Call
  go_enter Tryz.func300,Tryz.ntmps300
  go_wp2_with fail
  go_ret
  exact⟨by simp[lv],rfl⟩
 |of s n x y f t a vx vy hx hy=>
  have h0_:=taExpr_Typed_Fun
  have h1_:=taExpr_Typed_Let
  have h2_:=taExpr_Typed_If
  have h3_:=qe5
  have h4_:=qfp
  go_enter Tryz.func300,Tryz.ntmps300
  go_wp2_with fail
  go_ret
  exact⟨by simp[lv],rfl⟩
 |call s n x y f t a vx vy hx hy=>
  have h0_:=taExpr_Call_Fun
  have h1_:=taExpr_Call_Let
  have h2_:=taExpr_Call_If
  have h3_:=qfl
  have h4_:=taExpr_Call_Call
  go_enter Tryz.func300,Tryz.ntmps300
  go_wp2_with fail
  go_ret
  exact⟨by simp[lv],rfl⟩
 |fn s n x f t a y vx hs hy hx=>
  have h0_:=taExpr_Fun_Fun
  have h1_:=taExpr_Fun_Let
  have h2_:=taExpr_Fun_If
  have h3_:=taExpr_Fun_Match
  have h4_:=taExpr_Fun_Call
  go_enter Tryz.func300,Tryz.ntmps300
  go_wp2_with fail
  go_ret
  exact⟨by simp[lv],rfl⟩
 |lt c s n x z f t a y vx vz hc hs hy hx hz=>
  have h0_:=taExpr_Let_Fun
  have h1_:=taExpr_Let_Let
  have h2_:=taExpr_Let_If
  have h3_:=taExpr_Let_Match
  have h4_:=taExpr_Let_Call
  go_enter Tryz.func300,Tryz.ntmps300
  go_wp2_with fail
  go_ret
  exact⟨by rcases hc with rfl|rfl<;>simp[lv],rfl⟩
 |ite s n x y z f t a vx vy vz hx hy hz=>
  have h0_:=taExpr_If_Fun
  have h1_:=taExpr_If_Let
  have h2_:=taExpr_If_If
  have h3_:=taExpr_If_Match
  have h4_:=taExpr_If_Call
  go_enter Tryz.func300,Tryz.ntmps300
  go_wp2_with fail
  go_ret
  exact⟨by simp[lv],rfl⟩
 |mt s n x A f t a vx g sc vp ve h0 hg hz hc hx hp he=>
  have h0_:=taExpr_Match_Fun
  have h1_:=taExpr_Match_Let
  have h2_:=taExpr_Match_If
  have h3_:=qe3
  have h4_:=taExpr_Match_Call
  go_enter Tryz.func300,Tryz.ntmps300
  go_wp2_with fail
  go_ret
  exact⟨by simp[lv],rfl⟩
theorem closE_C(HB:BareEC nd)(h:PN w B pb bv l last mv)(hp:PE w Q nd v)(hq:NT w pb Q)(hm:PM w pb mv)(hl:(l++(sep last++sh nd)).length<=800000)(hB:B<=pb)(b1 b2:Nat)(h1:Bx w b1 #[.pointer (some ⟨pb,0,none⟩)])(h2:Bx w b2 #[v]):
 Calls Tryz.prog 301 #[.pointer (some ⟨b1,0,none⟩),.pointer (some ⟨b2,0,none⟩)] w (qcc B pb mv (l++(sep last++sh nd)) w):=by
 obtain⟨tv,xv,rfl⟩:=hp.iface
 obtain⟨c1,f1,z1⟩:=h1
 obtain⟨c2,f2,z2⟩:=h2
 have HC:=HB w B pb bv l last mv Q _ h hp hq hm hl hB
 clear hm
 go_enter Tryz.func301,Tryz.ntmps301
 go_wp2_with fail
 refine HC.mono ?_
 intro e w1 hp1
 have hp2:=hp1
 obtain⟨rfl,_⟩:=hp1
 go_wp2_with fail
 go_end0
 exact hp2
theorem groupE_C(HB:BareEC nd)(k:Nat)(h:PN w B pb bv l last mv)(hp:PE w Q nd v)(hq:NT w pb Q)(hm:PM w pb mv)(hl:(l++(sep last++atW nd k)).length<=800000)(hB:B<=pb)(b1 b2:Nat)(h1:Bx w b1 #[.pointer (some ⟨pb,0,none⟩)])(h2:Bx w b2 #[v])(n1:b1≠pb)(n2:b2≠pb):
 Calls Tryz.prog 130 #[.pointer (some ⟨pb,0,none⟩),.bool (decide (lv nd-1<k)),.func (.func 301) #[] #[.pointer (some ⟨b1,0,none⟩),.pointer (some ⟨b2,0,none⟩)]] w (qcc B pb mv (l++(sep last++atW nd k)) w):=by
 obtain⟨tv,xv,rfl⟩:=hp.iface
 exact group2_X (fun W=>PE W Q nd (.iface tv (.agg xv))/\NT W pb Q/\Bx W b1 #[.pointer (some ⟨pb,0,none⟩)]/\Bx W b2 #[.iface tv (.agg xv)]/\PM W pb mv)
  (fun w w' i F=>⟨i.1.fnQ i.2.1 F,i.2.1.fn F,F.pn_ne i.2.2.1 n1 (by intro x hx c;simp at hx;subst hx;intro q;cases q),F.pn_ne i.2.2.2.1 n2 (by intro x hx c;simp at hx;subst hx;intro q;cases q),i.2.2.2.2.fn F⟩)
  (fun _ _=>by kernel_rfl) (fun w bv l last hN i hb=>closE_C HB hN i.1 i.2.1 i.2.2.2.2 hb hB b1 b2 i.2.2.1 i.2.2.2.1) h ⟨hp,hq,h1,h2,hm⟩ hl
theorem noBin(h:PE w Q nd v)(ho:¬isOp nd)(w:World):(Instr.typeAssert v 216 422 true).run Tryz.prog w=.ok (.tuple #[.agg #[.int .i64 0,.int .i64 0,.string ⟨#[]⟩,.nilIface,.nilIface],.bool false]) w:=by
 cases h with
 |op=>exact absurd rfl ho|low s n f t a hs=>exact taExpr_Low_Binary _ w|up s n f t a hs=>exact taExpr_Up_Binary _ w|num s n f t a=>exact taExpr_Number_Binary _ w|word s n f t a hs=>exact taExpr_Bool_Binary _ w|unit s n f t a=>exact taExpr_Unit_Binary _ w|pr s n x y f t a vx vy hx hy=>exact taExpr_Pair_Binary _ w|of s n x y f t a vx vy hx hy=>exact taExpr_Typed_Binary _ w|call s n x y f t a vx vy hx hy=>exact taExpr_Call_Binary _ w|fn s n x f t a y vx hs hy hx=>exact taExpr_Fun_Binary _ w|lt c s n x z f t a y vx vz hc hs hy hx hz=>exact taExpr_Let_Binary _ w|ite s n x y z f t a vx vy vz hx hy hz=>exact taExpr_If_Binary _ w|mt s n x A f t a vx g sc vp ve h0 hg hz hc hx hp he=>exact taExpr_Match_Binary _ w
theorem qds(HB:BareEC nd)(ho:¬isOp nd):AtEC nd:=by
 intro w B pb bv l last mv Q v k h hp hq hm hk hl hB
 have hta:=noBin hp ho
 obtain⟨tv,xv,hv⟩:=hp.iface
 have hzp:=h.lt
 have n1:w.heap.size≠pb:=by omega
 have n2:w.heap.size+1≠pb:=by omega
 obtain⟨R,hR⟩:∃R,R=qcc B pb mv (l++(sep last++atW nd k)) w:=⟨_,rfl⟩
 obtain⟨r,hr⟩:∃r,r=lv nd-1:=⟨_,rfl⟩
 have hb0:Below w.heap.size w (((w.alloc (.cells #[.pointer (some ⟨pb,0,none⟩)] 126)).alloc (.cells #[v] 216)).alloc (.cells #[.int .i64 0,.int .i64 0,.string ⟨#[]⟩,.nilIface,.nilIface] 422)):=((bw _).alloc (by simp) _).alloc (by simp;omega) _
 have X1:=((Bx.new w #[.pointer (some ⟨pb,0,none⟩)] 126).alloc (.cells #[v] 216)).alloc (.cells #[.int .i64 0,.int .i64 0,.string ⟨#[]⟩,.nilIface,.nilIface] 422)
 have X2:Bx (((w.alloc (.cells #[.pointer (some ⟨pb,0,none⟩)] 126)).alloc (.cells #[v] 216)).alloc (.cells #[.int .i64 0,.int .i64 0,.string ⟨#[]⟩,.nilIface,.nilIface] 422)) (w.heap.size+1) #[v]:=(Bx.at _ #[v] _ _ (by simp)).alloc _
 have HN:=h.bel hb0
 have HP:=hp.bel hb0
 have F0:=FN.of (B:=B) (pb:=pb) hb0
 have HQ:=hq.fn F0
 have HM:=hm.fn F0
 have hmf:∀(fn:Fn)(first cap:Array Value)(w:World),(Instr.makeFunc fn first cap).run Tryz.prog w=.ok (.func fn first cap) w:=fun _ _ _ _=>rfl
 subst hv
 rw[<-hR]
 clear h hp hq hb0 hm
 go_enter Tryz.func196,Tryz.ntmps196
 go_wp2_with fail
 generalize(((w.alloc (.cells #[.pointer (some ⟨pb,0,none⟩)] 126)).alloc (.cells #[.iface tv (.agg xv)] 216)).alloc (.cells #[.int .i64 0,.int .i64 0,.string ⟨#[]⟩,.nilIface,.nilIface] 422))=W0 at X1 X2 HN HP F0 HQ HM⊢
 generalize w.heap.size=b1 at n1 n2 X1 X2⊢
 have c1:=X1.c
 have f1:=X1.f
 have z1:=X1.z
 have c2:=X2.c
 have f2:=X2.f
 have z2:=X2.z
 have HRK:Hid (∀W,Below W0.heap.size W0 W->Calls Tryz.prog 300 #[.iface tv (.agg xv)] W fun e w'=>e=.returned (.int .i64 (r:Int))/\Below W.heap.size W w'):=ai (fun W hW=>by rw[hr];exact(levelOf_C (HP.bel hW) ho).mono fun e w' q=>⟨q.1,by rw[<-q.2];exact Below.refl _ _⟩)
 have HG:Hid (∀W,Below W0.heap.size W0 W->Calls Tryz.prog 130 #[.pointer (some ⟨pb,0,none⟩),.bool (decide (r<k)),.func (.func 301) #[] #[.pointer (some ⟨b1,0,none⟩),.pointer (some ⟨b1+1,0,none⟩)]] W fun e w'=>e=.returned (.tuple #[])/\R e w'/\w'.cell? ⟨b1,0,none⟩=some (.pointer (some ⟨pb,0,none⟩))/\w'.cell? ⟨b1+1,0,none⟩=some (.iface tv (.agg xv))):=ai (fun W hW=>by
  have FW:=FN.of (B:=B) (pb:=pb) hW
  rw[hr]
  refine(groupE_C HB k (HN.bel hW) (HP.bel hW) (HQ.fn FW) (HM.fn FW) hl hB b1 (b1+1) (X1.below hW) (X2.below hW) n1 n2).mono ?_
  rintro e w2⟨rfl,bv2,last2,hN2,fi2,hF2⟩
  have Y1:=hF2.pn_ne (X1.below hW) n1 (by intro x hx c;simp at hx;subst hx;intro q;cases q)
  have Y2:=hF2.pn_ne (X2.below hW) n2 (by intro x hx c;simp at hx;subst hx;intro q;cases q)
  refine⟨rfl,?_,Y1.c 0,Y2.c 0⟩
  rw[hR]
  exact⟨rfl,bv2,last2,hN2,fi2,F0.trans (FW.trans hF2)⟩)
 clear HB HN HP HQ HM F0 hR hr hl X1 X2 n1 n2 hzp hk hB ho
 have k1:W0.cell? ⟨b1,0,none⟩=some (.pointer (some ⟨pb,0,none⟩)):=c1 0
 have k2:W0.cell? ⟨b1+1,0,none⟩=some (.iface tv (.agg xv)):=c2 0
 clear c1 c2 f1 f2
 go_region_held3(fun w'=>w'.cell? ⟨b1,0,none⟩=some (.pointer (some ⟨pb,0,none⟩))/\w'.cell? ⟨b1+1,0,none⟩=some (.iface tv (.agg xv))) (first|go_keep|(simp[*])) (first|(go_at_call 300;refine(uh HRK _ (Below.refl _ _).drew).mono ?_;rintro e w1⟨rfl,hb1⟩;have HB1:=ai (drew_bel hb1);have k3:w1.cell? ⟨b1,0,none⟩=some (.pointer (some ⟨pb,0,none⟩)):=(World.cell?_of_block (a:=⟨b1,0,none⟩) ((uh HB1).block b1 z1)).trans k1;have k4:w1.cell? ⟨b1+1,0,none⟩=some (.iface tv (.agg xv)):=(World.cell?_of_block (a:=⟨b1+1,0,none⟩) ((uh HB1).block (b1+1) z2)).trans k2;clear hb1)|(go_at_call 130;with_reducible refine(uh HG _ (uh HB1)).mono ?_;rintro e w2⟨rfl,hR2,k5,k6⟩;have HR2:=ai hR2;clear hR2))
 all_goals(
  go_wp2_with fail
  go_end0
  exact uh HR2)
end
end
section
open Go Go.RowKit Go.ChangeMaps Un
theorem small_100(n:Nat)(h:n<100):SmallP n:=by
 by_cases hn:n<48
 .exact small_any n hn
 have:n=48\/n=49\/n=50\/n=51\/n=52\/n=53\/n=54\/n=55\/n=56\/n=57\/n=58\/n=59\/n=60\/n=61\/n=62\/n=63\/n=64\/n=65\/n=66\/n=67\/n=68\/n=69\/n=70\/n=71\/n=72\/n=73\/n=74\/n=75\/n=76\/n=77\/n=78\/n=79\/n=80\/n=81\/n=82\/n=83\/n=84\/n=85\/n=86\/n=87\/n=88\/n=89\/n=90\/n=91\/n=92\/n=93\/n=94\/n=95\/n=96\/n=97\/n=98\/n=99:=by omega
 rcases this with rfl|rfl|rfl|rfl|rfl|rfl|rfl|rfl|rfl|rfl|rfl|rfl|rfl|rfl|rfl|rfl|rfl|rfl|rfl|rfl|rfl|rfl|rfl|rfl|rfl|rfl|rfl|rfl|rfl|rfl|rfl|rfl|rfl|rfl|rfl|rfl|rfl|rfl|rfl|rfl|rfl|rfl|rfl|rfl|rfl|rfl|rfl|rfl|rfl|rfl|rfl|rfl
 all_goals
  intro w
  go_enter Tryz.func356,Tryz.ntmps356
  go_wp2_with fail
  go_ret
  refine⟨?_,rfl⟩
  first
  |(rw[dec,if_pos (by decide)];kernel_rfl)
  |(rw[dec,if_neg (by decide),dec,if_pos (by decide)];kernel_rfl)
theorem itoaC:ItoaC:=by
 intro w n hn hp
 by_cases h:n<100
 .have HC:=small_100 n h w
  have h0:(0:Int)<=(n:Int):=by omega
  have h1:(n:Int)<100:=by omega
  go_enter Tryz.func129,Tryz.ntmps129
  go_wp2_with(first|(go_at_call 356;refine HC.mono ?_;rintro e w'⟨rfl,rfl⟩)|(go_at_call 215;go_in)|(go_at_call 311;go_in))
  go_ret
  exact⟨rfl,Below.refl _ _⟩
 .have HC:=ai (fi_any n (by omega) hn hp)
  clear hp
  go_enter Tryz.func129,Tryz.ntmps129
  go_wp2_with(first|(go_at_call 311;refine(uh HC).mono ?_;rintro e w'⟨rfl,hb⟩)|(go_at_call 215;go_in))
  go_ret
  exact⟨rfl,hb⟩
end
end Go.Proofs.YtoceemjbcgmojaaGreatDoor

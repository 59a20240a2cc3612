import Derived.BigQuiet
import Derived.Test.YtoceemjbcgmojaaGreatDoorQWh
set_option linter.all false
set_option maxRecDepth 100000
set_option maxHeartbeats 4000000
namespace Go.Proofs.YtoceemjbcgmojaaGreatDoor
section
open Go Go.RowKit
structure Fl where
 kind:Nat
 frm:Nat
 to:Nat
def noFl:Fl:=⟨0,0,0⟩
def flOf(t:Pu.Tok):Fl:=if t.kind=6 then⟨2,t.frm,t.to⟩else⟨3,t.frm,t.to⟩
structure RS(w:World)(rb g cap:Nat)(T:List Pu.Tok)(k:Nat)(f:Fl):Prop where
 c0:w.cell? ⟨rb,0,none⟩=some (.slice (some ⟨g,0,none⟩) T.length cap)
 c1:w.cell? ⟨rb,1,none⟩=some (.int .i64 (k:Int))
 c2:w.cell? ⟨rb,2,none⟩=some (.int .i64 (f.kind:Int))
 c3:w.cell? ⟨rb,3,none⟩=some (.int .i64 (f.frm:Int))
 c4:w.cell? ⟨rb,4,none⟩=some (.int .i64 (f.to:Int))
 fz:∀j,w.frozen? ⟨rb,j,none⟩=false
 tk:∀i(h:i<T.length),w.cell? ⟨g,i*4,none⟩=some (.int .i64 (T[i].kind:Int))/\w.cell? ⟨g,i*4+1,none⟩=some (.string T[i].text)/\w.cell? ⟨g,i*4+2,none⟩=some (.int .i64 (T[i].frm:Int))/\w.cell? ⟨g,i*4+3,none⟩=some (.int .i64 (T[i].to:Int))
 hr:rb<w.heap.size
 hg:g<w.heap.size
 ne:g≠rb
 hk:k<T.length
 hT:T.length<=1001
 en:∀i(h:i<T.length),T[i].kind≠7->i+1<T.length
structure Ke(rb:Nat)(w w':World):Prop where
 os:w'.os=w.os
 tape:w'.tape=w.tape
 output:w'.output=w.output
 size:w.heap.size<=w'.heap.size
 block:∀k,k<w.heap.size->k≠rb->w'.heap[k]? =w.heap[k]?
theorem Ke.refl(rb:Nat)(w:World):Ke rb w w:=⟨rfl,rfl,rfl,br _,fun _ _ _=>rfl⟩
theorem Ke.of{rb:Nat}{w w':World}(h:Below w.heap.size w w'):Ke rb w w':=⟨h.os,h.tape,h.output,h.size,fun k hk _=>h.block k hk⟩
theorem Ke.trans{rb:Nat}{a b c:World}(h:Ke rb a b)(k:Ke rb b c):Ke rb a c:=
 ⟨k.os.trans h.os,k.tape.trans h.tape,k.output.trans h.output,Nat.le_trans h.size k.size,fun i hi hn=>(k.block i (Nat.lt_of_lt_of_le hi h.size) hn).trans (h.block i hi hn)⟩
theorem Ke.drew{rb:Nat}{a w:World}(h:Ke rb a w):Ke rb a w.drew:=⟨h.os,h.tape,h.output,h.size,h.block⟩
theorem Ke.alloc{rb:Nat}{a w:World}(h:Ke rb a w)(o:Obj):Ke rb a (w.alloc o):=h.trans (Ke.of (bw o))
theorem Ke.set{rb:Nat}{a w:World}(h:Ke rb a w)(j:Nat)(u:Value):Ke rb a (w.setCell ⟨rb,j,none⟩ u):=
 h.trans ⟨rfl,rfl,rfl,by simp[World.setCell],fun k _ hn=>Below.heap_setCell _ _ _ _ hn⟩
theorem RS.below{w w':World}{rb g cap:Nat}{T:List Pu.Tok}{k:Nat}{f:Fl}(h:RS w rb g cap T k f)(hb:Below w.heap.size w w'):RS w' rb g cap T k f:=by
 have hc:=oldCell hb
 have hf:=oldMark hb
 have hs:=hb.size
 refine⟨by rw[hc _ _ h.hr];exact h.c0,by rw[hc _ _ h.hr];exact h.c1,by rw[hc _ _ h.hr];exact h.c2,by rw[hc _ _ h.hr];exact h.c3,by rw[hc _ _ h.hr];exact h.c4,fun j=>by rw[hf _ _ h.hr];exact h.fz j,fun i hi=>?_,Nat.lt_of_lt_of_le h.hr hs,Nat.lt_of_lt_of_le h.hg hs,h.ne,h.hk,h.hT,h.en⟩
 rw[hc _ _ h.hg,hc _ _ h.hg,hc _ _ h.hg,hc _ _ h.hg]
 exact h.tk i hi
theorem RS.setAt{w:World}{rb g cap:Nat}{T:List Pu.Tok}{k:Nat}{f:Fl}(h:RS w rb g cap T k f)(k':Nat)(v:Int)(hv:v=(k':Int))(hk:k'<T.length):RS (w.setCell ⟨rb,1,none⟩ (.int .i64 v)) rb g cap T k' f:=by
 subst hv
 have o:∀j,j≠1->(w.setCell ⟨rb,1,none⟩ (.int .i64 (k':Int))).cell? ⟨rb,j,none⟩=w.cell? ⟨rb,j,none⟩:=fun j hj=>World.cell?_setCell_other _ _ _ _ (by intro e;injection e with _ e;exact hj e.symm)
 have q:∀j,(w.setCell ⟨rb,1,none⟩ (.int .i64 (k':Int))).cell? ⟨g,j,none⟩=w.cell? ⟨g,j,none⟩:=fun j=>World.cell?_setCell_other _ _ _ _ (by intro e;injection e with e;exact h.ne e.symm)
 refine⟨by rw[o 0 (by omega)];exact h.c0,World.cell?_setCell_same _ _ _ h.c1,by rw[o 2 (by omega)];exact h.c2,by rw[o 3 (by omega)];exact h.c3,by rw[o 4 (by omega)];exact h.c4,fun j=>by simp;exact h.fz j,fun i hi=>?_,by simpa[World.setCell]using h.hr,by simpa[World.setCell]using h.hg,h.ne,hk,h.hT,h.en⟩
 rw[q,q,q,q]
 exact h.tk i hi
theorem RS.setFl{w:World}{rb g cap:Nat}{T:List Pu.Tok}{k:Nat}{f:Fl}(h:RS w rb g cap T k f)(f':Fl):RS (((w.setCell ⟨rb,2,none⟩ (.int .i64 (f'.kind:Int))).setCell ⟨rb,3,none⟩ (.int .i64 (f'.frm:Int))).setCell ⟨rb,4,none⟩ (.int .i64 (f'.to:Int))) rb g cap T k f':=by
 have o:∀(w:World)(i j:Nat)(v:Value),j≠i->(w.setCell ⟨rb,i,none⟩ v).cell? ⟨rb,j,none⟩=w.cell? ⟨rb,j,none⟩:=fun w i j v hj=>World.cell?_setCell_other _ _ _ _ (by intro e;injection e with _ e;exact hj e.symm)
 have q:∀(w:World)(i j:Nat)(v:Value),(w.setCell ⟨rb,i,none⟩ v).cell? ⟨g,j,none⟩=w.cell? ⟨g,j,none⟩:=fun w i j v=>World.cell?_setCell_other _ _ _ _ (by intro e;injection e with e;exact h.ne e.symm)
 refine⟨?_,?_,?_,?_,?_,fun j=>by simp;exact h.fz j,fun i hi=>?_,by simpa[World.setCell]using h.hr,by simpa[World.setCell]using h.hg,h.ne,h.hk,h.hT,h.en⟩
 .rw[o _ _ _ _ (by omega),o _ _ _ _ (by omega),o _ _ _ _ (by omega)];exact h.c0
 .rw[o _ _ _ _ (by omega),o _ _ _ _ (by omega),o _ _ _ _ (by omega)];exact h.c1
 .rw[o _ _ _ _ (by omega),o _ _ _ _ (by omega)];exact World.cell?_setCell_same _ _ _ h.c2
 .rw[o _ _ _ _ (by omega)];exact World.cell?_setCell_same (u:=.int .i64 (f.frm:Int)) _ _ _ (by rw[o _ _ _ _ (by omega)];exact h.c3)
 .exact World.cell?_setCell_same (u:=.int .i64 (f.to:Int)) _ _ _ (by rw[o _ _ _ _ (by omega),o _ _ _ _ (by omega)];exact h.c4)
 .simp only[q]
  exact h.tk i hi
theorem next_any{rb g cap:Nat}{T:List Pu.Tok}{k:Nat}{f:Fl}{w:World}(h:RS w rb g cap T k f):
 Calls Tryz.prog 205 #[.pointer (some ⟨rb,0,none⟩)] w fun e w'=>e=.returned (tokV (T[k]'h.hk))/\Below w.heap.size w w':=by
 obtain⟨t0,t1,t2,t3⟩:=h.tk k h.hk
 have h0:=h.c0
 have h1:=h.c1
 have hrb:=h.hr
 have hg:=h.hg
 have hk:(k:Int)<(T.length:Int):=by have:=h.hk;omega
 have H:=ai h.hk
 generalize T[k]'h.hk=t at*
 clear h
 go_enter Tryz.func205,Tryz.ntmps205
 go_wp2
 go_region
 go_wp2
 refine bodyPost_ret (v:=tokV t) (by simp[results,Tryz.results205,go_sem,tokV];try rfl) rfl ⟨rfl,?_⟩
 exact(bw _).drew
end
section
open Go Go.RowKit
theorem ok_any{rb g cap:Nat}{T:List Pu.Tok}{k:Nat}{f:Fl}{w:World}(h:RS w rb g cap T k f):
 Calls Tryz.prog 55 #[.pointer (some ⟨rb,0,none⟩)] w fun e w'=>e=.returned (.bool (decide (f.kind=0)))/\w'=w:=by
 have h2:=h.c2
 clear h
 go_enter Tryz.func55,Tryz.ntmps55
 go_wp2
 go_ret
 exact⟨qbb (by rw[Bool.eq_iff_iff];simp<;>omega),rfl⟩
def isB(f:Fl)(t:Pu.Tok)(s:BA):Bool:=f.kind==0&&t.kind==5&&t.text.toList==s.toList
def ofB(f:Fl)(t:Pu.Tok)(n:Nat):Bool:=f.kind==0&&t.kind==n
theorem is_any{rb g cap:Nat}{T:List Pu.Tok}{k:Nat}{f:Fl}{w:World}(h:RS w rb g cap T k f)(s:BA):
 Calls Tryz.prog 57 #[.pointer (some ⟨rb,0,none⟩),.string s] w fun e w'=>e=.returned (.bool (isB f (T[k]'h.hk) s))/\Below w.heap.size w w':=by
 obtain⟨t0,t1,t2,t3⟩:=h.tk k h.hk
 have h0:=h.c0
 have h1:=h.c1
 have h2:=h.c2
 have hrb:=h.hr
 have hg:=h.hg
 have hk:(k:Int)<(T.length:Int):=by have:=h.hk;omega
 have H:=ai h.hk
 generalize T[k]'h.hk=t at*
 clear h t2 t3
 by_cases a:f.kind=0
 .have a1:((f.kind:Int)==0)=true:=by rw[a];rfl
  by_cases b:t.kind=5
  .have b1:((t.kind:Int)==5)=true:=by rw[b];rfl
   have R:=ai (show isB f t s=(t.text.toList==s.toList) by simp[isB,a,b])
   clear a b
   go_enter Tryz.func57,Tryz.ntmps57
   go_wp2
   go_quiet(fail)
   go_wp2
   go_ret
   exact⟨qbb (uh R).symm,⟨rfl,rfl,rfl,br _,fun _ _=>rfl⟩⟩
  .have b1:((t.kind:Int)==5)=false:=by simp;omega
   have R:=ai (show isB f t s=false by simp[isB,b])
   clear a b
   go_enter Tryz.func57,Tryz.ntmps57
   go_wp2
   go_quiet(fail)
   go_wp2
   go_ret
   exact⟨qbb (uh R).symm,⟨rfl,rfl,rfl,br _,fun _ _=>rfl⟩⟩
 .have a1:((f.kind:Int)==0)=false:=by simp;omega
  have R:=ai (show isB f t s=false by simp[isB,a])
  clear a
  go_enter Tryz.func57,Tryz.ntmps57
  go_wp2
  go_quiet(fail)
  go_wp2
  go_ret
  exact⟨qbb (uh R).symm,⟨rfl,rfl,rfl,br _,fun _ _=>rfl⟩⟩
theorem of_any{rb g cap:Nat}{T:List Pu.Tok}{k:Nat}{f:Fl}{w:World}(h:RS w rb g cap T k f)(n:Nat):
 Calls Tryz.prog 56 #[.pointer (some ⟨rb,0,none⟩),.int .i64 (n:Int)] w fun e w'=>e=.returned (.bool (ofB f (T[k]'h.hk) n))/\Below w.heap.size w w':=by
 obtain⟨t0,t1,t2,t3⟩:=h.tk k h.hk
 have h0:=h.c0
 have h1:=h.c1
 have h2:=h.c2
 have hrb:=h.hr
 have hg:=h.hg
 have hk:(k:Int)<(T.length:Int):=by have:=h.hk;omega
 have H:=ai h.hk
 generalize T[k]'h.hk=t at*
 clear h t2 t3
 by_cases a:f.kind=0
 .have a1:((f.kind:Int)==0)=true:=by rw[a];rfl
  have R:=ai (show ofB f t n=((t.kind:Int)==(n:Int)) by rw[Bool.eq_iff_iff];simp[ofB,a];try omega)
  clear a
  go_enter Tryz.func56,Tryz.ntmps56
  go_wp2
  go_quiet(fail)
  go_wp2
  go_ret
  exact⟨qbb (uh R).symm,⟨rfl,rfl,rfl,br _,fun _ _=>rfl⟩⟩
 .have a1:((f.kind:Int)==0)=false:=by simp;omega
  have R:=ai (show ofB f t n=false by simp[ofB,a])
  clear a
  go_enter Tryz.func56,Tryz.ntmps56
  go_wp2
  go_quiet(fail)
  go_wp2
  go_ret
  exact⟨qbb (uh R).symm,⟨rfl,rfl,rfl,br _,fun _ _=>rfl⟩⟩
end
section
open Go Go.RowKit
theorem pass_on{rb g cap:Nat}{T:List Pu.Tok}{k:Nat}{f:Fl}{w:World}(h:RS w rb g cap T k f)(hn:(T[k]'h.hk).kind≠7):
 Calls Tryz.prog 116 #[.pointer (some ⟨rb,0,none⟩)] w fun e w'=>e=.returned (tokV (T[k]'h.hk))/\RS w' rb g cap T (k+1) f/\Ke rb w w':=by
 obtain⟨t0,t1,t2,t3⟩:=h.tk k h.hk
 have h0:=h.c0
 have h1:=h.c1
 have hrb:=h.hr
 have hg:=h.hg
 have hk:(k:Int)<(T.length:Int):=by have:=h.hk;omega
 have hk1:(k:Int)<=1001:=by have:=h.hk;have:=h.hT;omega
 have hz:=h.fz 1
 have hL:=h.en k h.hk hn
 have HR:=ai h
 generalize T[k]'h.hk=t at*
 clear h
 have n7:((t.kind:Int) !=7)=true:=by simp;omega
 go_enter Tryz.func116,Tryz.ntmps116
 go_wp2
 go_region
 go_wp2
 refine bodyPost_ret (v:=tokV t) (by simp[results,Tryz.results116,go_sem,tokV];try rfl) rfl ⟨rfl,?_,?_⟩
 .exact((uh HR).setAt (k+1) _ (by simp) hL).below ((bw _).alloc (by simp) _).drew
 .exact((((Ke.refl rb w).set 1 _).alloc _).alloc _).drew
theorem RS.setKind{w:World}{rb g cap:Nat}{T:List Pu.Tok}{k:Nat}{f:Fl}(h:RS w rb g cap T k f)(n:Nat):RS (w.setCell ⟨rb,2,none⟩ (.int .i64 (n:Int))) rb g cap T k ⟨n,f.frm,f.to⟩:=by
 have o:∀j,j≠2->(w.setCell ⟨rb,2,none⟩ (.int .i64 (n:Int))).cell? ⟨rb,j,none⟩=w.cell? ⟨rb,j,none⟩:=fun j hj=>World.cell?_setCell_other _ _ _ _ (by intro e;injection e with _ e;exact hj e.symm)
 have q:∀j,(w.setCell ⟨rb,2,none⟩ (.int .i64 (n:Int))).cell? ⟨g,j,none⟩=w.cell? ⟨g,j,none⟩:=fun j=>World.cell?_setCell_other _ _ _ _ (by intro e;injection e with e;exact h.ne e.symm)
 refine⟨by rw[o 0 (by omega)];exact h.c0,by rw[o 1 (by omega)];exact h.c1,World.cell?_setCell_same _ _ _ h.c2,by rw[o 3 (by omega)];exact h.c3,by rw[o 4 (by omega)];exact h.c4,fun j=>by simp;exact h.fz j,fun i hi=>?_,by simpa[World.setCell]using h.hr,by simpa[World.setCell]using h.hg,h.ne,h.hk,h.hT,h.en⟩
 rw[q,q,q,q]
 exact h.tk i hi
theorem wrong_set{rb g cap:Nat}{T:List Pu.Tok}{k:Nat}{f:Fl}{w:World}(h:RS w rb g cap T k f)(hf:f.kind≠0):
 Calls Tryz.prog 117 #[.pointer (some ⟨rb,0,none⟩)] w fun e w'=>e=.returned (.tuple #[])/\w'=w:=by
 have h2:=h.c2
 clear h
 have a1:((f.kind:Int) !=0)=true:=by simp;omega
 go_enter Tryz.func117,Tryz.ntmps117
 go_wp2
 exact bodyPost_ret (v:=.tuple #[]) (by simp[results,Tryz.results117,go_sem]) rfl ⟨rfl,rfl⟩
theorem wrong_new{rb g cap:Nat}{T:List Pu.Tok}{k:Nat}{f:Fl}{w:World}(h:RS w rb g cap T k f)(hf:f.kind=0):
 Calls Tryz.prog 117 #[.pointer (some ⟨rb,0,none⟩)] w fun e w'=>e=.returned (.tuple #[])/\RS w' rb g cap T k (flOf (T[k]'h.hk))/\Ke rb w w':=by
 obtain⟨t0,t1,t2,t3⟩:=h.tk k h.hk
 have h0:=h.c0
 have h1:=h.c1
 have h2:=h.c2
 have h3:=h.c3
 have h4:=h.c4
 have hrb:=h.hr
 have hg:=h.hg
 have hk:(k:Int)<(T.length:Int):=by have:=h.hk;omega
 have z2:=h.fz 2
 have z3:=h.fz 3
 have z4:=h.fz 4
 have HR:=ai h
 generalize T[k]'h.hk=t at*
 clear h
 have a1:((f.kind:Int) !=0)=false:=by simp;omega
 clear hf
 by_cases b:t.kind=6
 .have b1:((t.kind:Int)==6)=true:=by rw[b];rfl
  have F:=ai (show flOf t=⟨2,t.frm,t.to⟩ by simp[flOf,b])
  clear b
  go_enter Tryz.func117,Tryz.ntmps117
  go_wp2
  go_region
  go_wp2
  go_end0
  refine⟨rfl,?_,?_⟩
  .rw[uh F]
   exact(((uh HR).setFl ⟨3,t.frm,t.to⟩).setKind 2).below (bw _).drew
  .exact((((((Ke.refl rb w).set 2 _).set 3 _).set 4 _).set 2 _).alloc _).drew
 .have b1:((t.kind:Int)==6)=false:=by simp;omega
  have F:=ai (show flOf t=⟨3,t.frm,t.to⟩ by simp[flOf,b])
  clear b
  go_enter Tryz.func117,Tryz.ntmps117
  go_wp2
  go_region
  go_wp2
  go_end0
  refine⟨rfl,?_,?_⟩
  .rw[uh F]
   exact((uh HR).setFl ⟨3,t.frm,t.to⟩).below (bw _).drew
  .exact(((((Ke.refl rb w).set 2 _).set 3 _).set 4 _).alloc _).drew
end
section
open Go Go.RowKit
def tk(T:List Pu.Tok)(k:Nat):Pu.Tok:=T.getD k ⟨7,⟨#[]⟩,0,0⟩
theorem tk_eq{T:List Pu.Tok}{k:Nat}(h:k<T.length):T[k]'h=tk T k:=by
 unfold tk;rw[List.getD_eq_getElem?_getD,List.getElem?_eq_getElem h];rfl
def isT(t:Pu.Tok)(s:BA):Bool:=t.kind==5&&t.text.toList==s.toList
abbrev St:=Except Fl Nat
abbrev M(α:Type):=Nat->Except Fl (α×Nat)
def nx{α:Type}(σ:St)(m:M α):St:=match σ with
 |.error e=>.error e
 |.ok k=>match m k with
  |.error e=>.error e|.ok (_,k')=>.ok k'
def isS(T:List Pu.Tok)(σ:St)(s:BA):Bool:=match σ with
 |.ok k=>isT (tk T k) s|.error _=>false
def ofS(T:List Pu.Tok)(σ:St)(n:Nat):Bool:=match σ with
 |.ok k=>(tk T k).kind==n|.error _=>false
def okS(σ:St):Bool:=match σ with
 |.ok _=>true|.error _=>false
def qb1{α:Type}(T:List Pu.Tok):M α:=fun k=>.error (flOf (tk T k))
def qag(T:List Pu.Tok)(s:BA):M Unit:=fun k=>if isT (tk T k) s=true then .ok ((),k+1)else .error (flOf (tk T k))
def qa7(T:List Pu.Tok)(n:Nat):M Pu.Tok:=fun k=>if(tk T k).kind==n then .ok (tk T k,k+1)else .error (flOf (tk T k))
def qan(T:List Pu.Tok)(k:Nat):Nat:=if k=0 then 0 else(tk T (k-1)).to
theorem flOf_kind(t:Pu.Tok):(flOf t).kind≠0:=by unfold flOf;split<;>simp
def SS(w:World)(rb g cap:Nat)(T:List Pu.Tok)(σ:St):Prop:=match σ with
 |.ok k=>RS w rb g cap T k noFl|.error f=>f.kind≠0/\∃k,RS w rb g cap T k f
theorem SS.any{w:World}{rb g cap:Nat}{T:List Pu.Tok}{σ:St}(h:SS w rb g cap T σ):∃k f,RS w rb g cap T k f/\(σ=.ok k/\f=noFl\/(σ=.error f/\f.kind≠0)):=by
 cases σ with
 |ok k=>exact⟨k,noFl,h,Or.inl ⟨rfl,rfl⟩⟩|error f=>obtain⟨hf,k,h⟩:=h;exact⟨k,f,h,Or.inr ⟨rfl,hf⟩⟩
theorem SS.below{w w':World}{rb g cap:Nat}{T:List Pu.Tok}{σ:St}(h:SS w rb g cap T σ)(hb:Below w.heap.size w w'):SS w' rb g cap T σ:=by
 cases σ with
 |ok k=>exact RS.below h hb|error f=>obtain⟨hf,k,h⟩:=h;exact⟨hf,k,h.below hb⟩
theorem SS.hr{w:World}{rb g cap:Nat}{T:List Pu.Tok}{σ:St}(h:SS w rb g cap T σ):rb<w.heap.size:=by
 obtain⟨k,f,h,_⟩:=h.any;exact h.hr
section
variable {rb g cap:Nat} {T:List Pu.Tok} {σ:St} {w:World}
theorem qb5(h:SS w rb g cap T σ):
 Calls Tryz.prog 205 #[.pointer (some ⟨rb,0,none⟩)] w fun e w'=>∃t,e=.returned (tokV t)/\Below w.heap.size w w'/\(∀k,σ=.ok k->t=tk T k):=by
 obtain⟨k,f,h,hs⟩:=h.any
 refine(next_any h).mono ?_
 rintro e w'⟨rfl,hb⟩
 refine⟨_,rfl,hb,fun j hj=>?_⟩
 rcases hs with⟨rfl,_⟩|⟨rfl,_⟩
 .cases hj;exact tk_eq _
 .cases hj
theorem ok_S(h:SS w rb g cap T σ):
 Calls Tryz.prog 55 #[.pointer (some ⟨rb,0,none⟩)] w fun e w'=>e=.returned (.bool (okS σ))/\w'=w:=by
 obtain⟨k,f,h,hs⟩:=h.any
 refine(ok_any h).mono ?_
 rintro e w'⟨rfl,rfl⟩
 refine⟨?_,rfl⟩
 rcases hs with⟨rfl,rfl⟩|⟨rfl,hf⟩
 .rfl
 .simp[hf,okS]
theorem is_S(h:SS w rb g cap T σ)(s:BA):
 Calls Tryz.prog 57 #[.pointer (some ⟨rb,0,none⟩),.string s] w fun e w'=>e=.returned (.bool (isS T σ s))/\Below w.heap.size w w':=by
 obtain⟨k,f,h,hs⟩:=h.any
 refine(is_any h s).mono ?_
 rintro e w'⟨rfl,hb⟩
 refine⟨qbb ?_,hb⟩
 rcases hs with⟨rfl,rfl⟩|⟨rfl,hf⟩
 .simp[isB,isS,isT,noFl,tk_eq]
 .simp[isB,isS,hf]
theorem of_S(h:SS w rb g cap T σ)(n:Nat):
 Calls Tryz.prog 56 #[.pointer (some ⟨rb,0,none⟩),.int .i64 (n:Int)] w fun e w'=>e=.returned (.bool (ofS T σ n))/\Below w.heap.size w w':=by
 obtain⟨k,f,h,hs⟩:=h.any
 refine(of_any h n).mono ?_
 rintro e w'⟨rfl,hb⟩
 refine⟨qbb ?_,hb⟩
 rcases hs with⟨rfl,rfl⟩|⟨rfl,hf⟩
 .simp[ofB,ofS,noFl,tk_eq]
 .simp[ofB,ofS,hf]
theorem wrong_S{α:Type}(h:SS w rb g cap T σ):
 Calls Tryz.prog 117 #[.pointer (some ⟨rb,0,none⟩)] w fun e w'=>e=.returned (.tuple #[])/\Ke rb w w'/\SS w' rb g cap T (nx σ (qb1 (α:=α) T)):=by
 obtain⟨k,f,hR,hs⟩:=h.any
 rcases hs with⟨rfl,rfl⟩|⟨rfl,hf⟩
 .refine(wrong_new hR rfl).mono ?_
  rintro e w'⟨rfl,h1,h2⟩
  exact⟨rfl,h2,by show SS w' rb g cap T (.error (flOf (tk T k)));rw[tk_eq]at h1;exact⟨flOf_kind _,k,h1⟩⟩
 .refine(wrong_set hR hf).mono ?_
  rintro e w'⟨rfl,rfl⟩
  exact⟨rfl,Ke.refl _ _,⟨hf,k,hR⟩⟩
theorem qcp{k:Nat}(h:SS w rb g cap T (.ok k))(hn:(tk T k).kind≠7):
 Calls Tryz.prog 116 #[.pointer (some ⟨rb,0,none⟩)] w fun e w'=>e=.returned (tokV (tk T k))/\Ke rb w w'/\SS w' rb g cap T (.ok (k+1)):=by
 have h':RS w rb g cap T k noFl:=h
 refine(pass_on h' (by rw[tk_eq];exact hn)).mono ?_
 rintro e w'⟨rfl,h1,h2⟩
 exact⟨by rw[tk_eq],h2,h1⟩
end
end
section
open Go Go.RowKit
structure Bx(w:World)(b:Nat)(C:Array Value):Prop where
 c:∀o,w.cell? ⟨b,o,none⟩=C[o]?
 f:∀o,w.frozen? ⟨b,o,none⟩=false
 z:b<w.heap.size
theorem Bx.new(w:World)(C:Array Value)(t:TypeId):Bx (w.alloc (.cells C t)) w.heap.size C:=⟨fun o=>by simp,fun o=>by simp,by simp⟩
theorem Bx.same{w w':World}{b:Nat}{C:Array Value}(h:Bx w b C)(hs:w.heap.size<=w'.heap.size)(hb:w'.heap[b]? =w.heap[b]?):Bx w' b C:=
 ⟨fun o=>by rw[World.cell?_of_block (a:=⟨b,o,none⟩) (w:=w) hb];exact h.c o,fun o=>by rw[World.frozen?_of_block (a:=⟨b,o,none⟩) (w:=w) hb];exact h.f o,Nat.lt_of_lt_of_le h.z hs⟩
theorem Bx.below{w w':World}{b:Nat}{C:Array Value}(h:Bx w b C)(hb:Below w.heap.size w w'):Bx w' b C:=h.same hb.size (hb.block b h.z)
theorem Bx.ke{rb:Nat}{w w':World}{b:Nat}{C:Array Value}(h:Bx w b C)(hb:Ke rb w w')(hn:b≠rb):Bx w' b C:=h.same hb.size (hb.block b h.z hn)
theorem Bx.alloc{w:World}{b:Nat}{C:Array Value}(h:Bx w b C)(o:Obj):Bx (w.alloc o) b C:=h.below (bw o)
theorem Ke.setNew{rb:Nat}{a w:World}(h:Ke rb a w){b:Nat}(hb:a.heap.size<=b)(j:Nat)(u:Value):Ke rb a (w.setCell ⟨b,j,none⟩ u):=
 ⟨h.os,h.tape,h.output,by simpa[World.setCell]using h.size,fun k hk hn=>by rw[Below.heap_setCell _ _ _ _ (by show k≠b;omega)];exact h.block k hk hn⟩
theorem RS.same{w w':World}{rb g cap:Nat}{T:List Pu.Tok}{k:Nat}{f:Fl}(h:RS w rb g cap T k f)(hs:w.heap.size<=w'.heap.size)(h1:w'.heap[rb]? =w.heap[rb]?)(h2:w'.heap[g]? =w.heap[g]?):RS w' rb g cap T k f:=by
 have hc:∀o,w'.cell? ⟨rb,o,none⟩=w.cell? ⟨rb,o,none⟩:=fun o=>World.cell?_of_block (a:=⟨rb,o,none⟩) (w:=w) h1
 have hf:∀o,w'.frozen? ⟨rb,o,none⟩=w.frozen? ⟨rb,o,none⟩:=fun o=>World.frozen?_of_block (a:=⟨rb,o,none⟩) (w:=w) h1
 have hd:∀o,w'.cell? ⟨g,o,none⟩=w.cell? ⟨g,o,none⟩:=fun o=>World.cell?_of_block (a:=⟨g,o,none⟩) (w:=w) h2
 refine⟨by rw[hc];exact h.c0,by rw[hc];exact h.c1,by rw[hc];exact h.c2,by rw[hc];exact h.c3,by rw[hc];exact h.c4,fun j=>by rw[hf];exact h.fz j,fun i hi=>?_,Nat.lt_of_lt_of_le h.hr hs,Nat.lt_of_lt_of_le h.hg hs,h.ne,h.hk,h.hT,h.en⟩
 rw[hd,hd,hd,hd]
 exact h.tk i hi
theorem SS.same{w w':World}{rb g cap:Nat}{T:List Pu.Tok}{σ:St}(h:SS w rb g cap T σ)(hs:w.heap.size<=w'.heap.size)(h1:w'.heap[rb]? =w.heap[rb]?)(h2:w'.heap[g]? =w.heap[g]?):SS w' rb g cap T σ:=by
 cases σ with
 |ok k=>exact RS.same h hs h1 h2|error f=>obtain⟨hf,k,h⟩:=h;exact⟨hf,k,h.same hs h1 h2⟩
theorem SS.hg{w:World}{rb g cap:Nat}{T:List Pu.Tok}{σ:St}(h:SS w rb g cap T σ):g<w.heap.size:=by
 obtain⟨k,f,h,_⟩:=h.any;exact h.hg
theorem SS.set{w:World}{rb g cap:Nat}{T:List Pu.Tok}{σ:St}(h:SS w rb g cap T σ){b:Nat}(h1:rb≠b)(h2:g≠b)(j:Nat)(u:Value):SS (w.setCell ⟨b,j,none⟩ u) rb g cap T σ:=
 h.same (by simp[World.setCell]) (Below.heap_setCell _ _ _ _ h1) (Below.heap_setCell _ _ _ _ h2)
theorem SS.alloc{w:World}{rb g cap:Nat}{T:List Pu.Tok}{σ:St}(h:SS w rb g cap T σ)(o:Obj):SS (w.alloc o) rb g cap T σ:=h.below (bw o)
theorem SS.drew{w:World}{rb g cap:Nat}{T:List Pu.Tok}{σ:St}(h:SS w rb g cap T σ):SS w.drew rb g cap T σ:=h.below (Below.refl _ _).drew
end
section
open Go Go.RowKit
def qaj(t:Pu.Tok):BA:=
 if t.kind=1 then⟨#[108,111,119,32,110,97,109,101]⟩else if t.kind=2 then⟨#[117,112,32,110,97,109,101]⟩else if t.kind=3 then⟨#[97,32,118,97,114,105,97,98,108,101]⟩
 else if t.kind=4 then⟨#[97,32,110,117,109,98,101,114]⟩else if t.kind=7 then⟨#[116,104,101,32,101,110,100]⟩else t.text
def qbo(t:Pu.Tok):Value:=.agg #[.int .i64 (t.frm:Int),.int .i64 (t.to:Int),.string (qaj t),.string t.text]
theorem idx13_0(a0 a1 a2 a3 a4 a5 a6 a7 a8 a9 a10 a11 a12:BA)(w:World):(Instr.index 518 (.agg #[.string a0,.string a1,.string a2,.string a3,.string a4,.string a5,.string a6,.string a7,.string a8,.string a9,.string a10,.string a11,.string a12]) (.int .i64 0)).run Tryz.prog w=.ok (.string a0) w:=by kernel_rfl
theorem idx13_1(a0 a1 a2 a3 a4 a5 a6 a7 a8 a9 a10 a11 a12:BA)(w:World):(Instr.index 518 (.agg #[.string a0,.string a1,.string a2,.string a3,.string a4,.string a5,.string a6,.string a7,.string a8,.string a9,.string a10,.string a11,.string a12]) (.int .i64 1)).run Tryz.prog w=.ok (.string a1) w:=by kernel_rfl
theorem idx13_2(a0 a1 a2 a3 a4 a5 a6 a7 a8 a9 a10 a11 a12:BA)(w:World):(Instr.index 518 (.agg #[.string a0,.string a1,.string a2,.string a3,.string a4,.string a5,.string a6,.string a7,.string a8,.string a9,.string a10,.string a11,.string a12]) (.int .i64 2)).run Tryz.prog w=.ok (.string a2) w:=by kernel_rfl
theorem idx13_3(a0 a1 a2 a3 a4 a5 a6 a7 a8 a9 a10 a11 a12:BA)(w:World):(Instr.index 518 (.agg #[.string a0,.string a1,.string a2,.string a3,.string a4,.string a5,.string a6,.string a7,.string a8,.string a9,.string a10,.string a11,.string a12]) (.int .i64 3)).run Tryz.prog w=.ok (.string a3) w:=by kernel_rfl
theorem idx13_4(a0 a1 a2 a3 a4 a5 a6 a7 a8 a9 a10 a11 a12:BA)(w:World):(Instr.index 518 (.agg #[.string a0,.string a1,.string a2,.string a3,.string a4,.string a5,.string a6,.string a7,.string a8,.string a9,.string a10,.string a11,.string a12]) (.int .i64 4)).run Tryz.prog w=.ok (.string a4) w:=by kernel_rfl
theorem idx13_5(a0 a1 a2 a3 a4 a5 a6 a7 a8 a9 a10 a11 a12:BA)(w:World):(Instr.index 518 (.agg #[.string a0,.string a1,.string a2,.string a3,.string a4,.string a5,.string a6,.string a7,.string a8,.string a9,.string a10,.string a11,.string a12]) (.int .i64 5)).run Tryz.prog w=.ok (.string a5) w:=by kernel_rfl
theorem idx13_6(a0 a1 a2 a3 a4 a5 a6 a7 a8 a9 a10 a11 a12:BA)(w:World):(Instr.index 518 (.agg #[.string a0,.string a1,.string a2,.string a3,.string a4,.string a5,.string a6,.string a7,.string a8,.string a9,.string a10,.string a11,.string a12]) (.int .i64 6)).run Tryz.prog w=.ok (.string a6) w:=by kernel_rfl
theorem idx13_7(a0 a1 a2 a3 a4 a5 a6 a7 a8 a9 a10 a11 a12:BA)(w:World):(Instr.index 518 (.agg #[.string a0,.string a1,.string a2,.string a3,.string a4,.string a5,.string a6,.string a7,.string a8,.string a9,.string a10,.string a11,.string a12]) (.int .i64 7)).run Tryz.prog w=.ok (.string a7) w:=by kernel_rfl
theorem idx13_8(a0 a1 a2 a3 a4 a5 a6 a7 a8 a9 a10 a11 a12:BA)(w:World):(Instr.index 518 (.agg #[.string a0,.string a1,.string a2,.string a3,.string a4,.string a5,.string a6,.string a7,.string a8,.string a9,.string a10,.string a11,.string a12]) (.int .i64 8)).run Tryz.prog w=.ok (.string a8) w:=by kernel_rfl
theorem idx13_9(a0 a1 a2 a3 a4 a5 a6 a7 a8 a9 a10 a11 a12:BA)(w:World):(Instr.index 518 (.agg #[.string a0,.string a1,.string a2,.string a3,.string a4,.string a5,.string a6,.string a7,.string a8,.string a9,.string a10,.string a11,.string a12]) (.int .i64 9)).run Tryz.prog w=.ok (.string a9) w:=by kernel_rfl
theorem idx13_10(a0 a1 a2 a3 a4 a5 a6 a7 a8 a9 a10 a11 a12:BA)(w:World):(Instr.index 518 (.agg #[.string a0,.string a1,.string a2,.string a3,.string a4,.string a5,.string a6,.string a7,.string a8,.string a9,.string a10,.string a11,.string a12]) (.int .i64 10)).run Tryz.prog w=.ok (.string a10) w:=by kernel_rfl
theorem idx13_11(a0 a1 a2 a3 a4 a5 a6 a7 a8 a9 a10 a11 a12:BA)(w:World):(Instr.index 518 (.agg #[.string a0,.string a1,.string a2,.string a3,.string a4,.string a5,.string a6,.string a7,.string a8,.string a9,.string a10,.string a11,.string a12]) (.int .i64 11)).run Tryz.prog w=.ok (.string a11) w:=by kernel_rfl
theorem idx13_12(a0 a1 a2 a3 a4 a5 a6 a7 a8 a9 a10 a11 a12:BA)(w:World):(Instr.index 518 (.agg #[.string a0,.string a1,.string a2,.string a3,.string a4,.string a5,.string a6,.string a7,.string a8,.string a9,.string a10,.string a11,.string a12]) (.int .i64 12)).run Tryz.prog w=.ok (.string a12) w:=by kernel_rfl
theorem beq_comm'{a b:List UInt8}:(a==b)=(b==a):=by
 rw[Bool.eq_iff_iff,beq_iff_eq,beq_iff_eq]
 exact⟨Eq.symm,Eq.symm⟩
theorem Bx.setS'{w:World}{b:Nat}{C:Array Value}(h:Bx w b C)(j:Nat)(v:Value)(C':Array Value)(hC:C'=C.setIfInBounds j v)(hj:j<C.size):Bx (w.setCell ⟨b,j,none⟩ v) b C':=by
 subst hC
 refine⟨fun o=>?_,fun o=>by simp;exact h.f o,by simpa[World.setCell]using h.z⟩
 by_cases e:o=j
 .subst e
  rw[World.cell?_setCell_same _ _ _ ((h.c o).trans (Array.getElem?_eq_getElem hj))]
  simp[hj]
 .rw[World.cell?_setCell_other _ _ _ _ (by intro q;injection q with _ q;exact e q.symm),h.c o,Array.getElem?_setIfInBounds_ne (by omega)]
def signs:List BA:=[⟨#[45,62]⟩,⟨#[40]⟩,⟨#[41]⟩,⟨#[44]⟩,⟨#[59]⟩,⟨#[58]⟩,⟨#[61]⟩,⟨#[124]⟩,⟨#[43]⟩,⟨#[45]⟩,⟨#[42]⟩,⟨#[60]⟩,⟨#[95]⟩]
def qac(k:Nat):BA:=signs.getD k ⟨#[]⟩
theorem oldCell'{w u:World}(h:Below w.heap.size w u)(b o:Nat)(hb:b<w.heap.size):u.cell? ⟨b,o,none⟩=w.cell? ⟨b,o,none⟩:=World.cell?_of_block (a:=⟨b,o,none⟩) (h.block b hb)
section
variable {w:World}
theorem cut_C(s:BA)(i j:Nat)(k:BA)(hij:i<=j)(hj:j<=s.size)(hs:s.size<=1000):
 Calls Tryz.prog 290 #[.string s,.int .i64 (i:Int),.int .i64 (j:Int),.string k] w fun e w'=>e=.returned (.agg #[.int .i64 (i:Int),.int .i64 (j:Int),.string k,.string (s.extract i j)])/\Below w.heap.size w w':=by
 have h1:(i:Int)<=(j:Int):=by omega
 have h2:(j:Int)<=(s.size:Int):=by omega
 go_enter Tryz.func290,Tryz.ntmps290
 go_wp2_with fail
 exact bodyPost_ret (v:=.agg #[.int .i64 (i:Int),.int .i64 (j:Int),.string k,.string (s.extract i j)]) (by simp[results,Tryz.results290,go_sem]) rfl ⟨rfl,bw _⟩
theorem noToken_C(i j:Int):Calls Tryz.prog 349 #[.int .i64 i,.int .i64 j] w fun e w'=>e=.returned (.agg #[.int .i64 2,.int .i64 i,.int .i64 j])/\Below w.heap.size w w':=by
 go_enter Tryz.func349,Tryz.ntmps349
 go_wp2_with fail
 exact bodyPost_ret (v:=.agg #[.int .i64 2,.int .i64 i,.int .i64 j]) (by simp[results,Tryz.results349,go_sem]) rfl ⟨rfl,bw _⟩
structure Laid(w:World):Prop where
 words:∀j,j<13->w.cell? ⟨1,j,none⟩=some (.string (Pu.wordAt j))
 signs:∀j,j<13->w.cell? ⟨0,j,none⟩=some (.string (qac j))
 hz:2<=w.heap.size
theorem Laid.bel{w w':World}(h:Laid w)(hb:Below w.heap.size w w'):Laid w':=
 ⟨fun j hj=>(oldCell' hb 1 j (by have:=h.hz;omega)).trans (h.words j hj),fun j hj=>(oldCell' hb 0 j (by have:=h.hz;omega)).trans (h.signs j hj),Nat.le_trans h.hz hb.size⟩
theorem isWord_C(h:Laid w)(s:BA):Calls Tryz.prog 348 #[.string s] w fun e w'=>e=.returned (.bool (Pu.wordB s))/\w'=w:=by
 have g0:=h.words 0 (by omega)
 have g1:=h.words 1 (by omega)
 have g2:=h.words 2 (by omega)
 have g3:=h.words 3 (by omega)
 have g4:=h.words 4 (by omega)
 have g5:=h.words 5 (by omega)
 have g6:=h.words 6 (by omega)
 have g7:=h.words 7 (by omega)
 have g8:=h.words 8 (by omega)
 have g9:=h.words 9 (by omega)
 have g10:=h.words 10 (by omega)
 have g11:=h.words 11 (by omega)
 have g12:=h.words 12 (by omega)
 clear h
 go_enter Tryz.func348,Tryz.ntmps348
 go_wp2_with fail
 go_loop[6] (fun v=>∃j:Nat,j<=13/\v=.int .i64 (j:Int)/\Hid (∀i,i<j->(s.toList==(Pu.wordAt i).toList)=false)) (fun v=>13-(intOf v).toNat)
 case atStart=>exact⟨0,by omega,rfl,fun i h=>by omega⟩
 case round=>
  obtain⟨j,hj,rfl,hno⟩:=hrel
  by_cases hlt:j<13
  .have hcase:j=0\/j=1\/j=2\/j=3\/j=4\/j=5\/j=6\/j=7\/j=8\/j=9\/j=10\/j=11\/j=12:=by omega
   rcases hcase with rfl|rfl|rfl|rfl|rfl|rfl|rfl|rfl|rfl|rfl|rfl|rfl|rfl
   .have hix:=idx13_0 (Pu.wordAt 0) (Pu.wordAt 1) (Pu.wordAt 2) (Pu.wordAt 3) (Pu.wordAt 4) (Pu.wordAt 5) (Pu.wordAt 6) (Pu.wordAt 7) (Pu.wordAt 8) (Pu.wordAt 9) (Pu.wordAt 10) (Pu.wordAt 11) (Pu.wordAt 12)
    cases he:(s.toList==(Pu.wordAt 0).toList)with
    |true=>
     have hb:Hid (Pu.wordB s=true):=Pu.wordB_at (k:=0) (by omega) (by rw[beq_comm'];exact he)
     go_wp2_with fail
     go_ret
     exact⟨qbb (uh hb).symm,rfl⟩
    |false=>
     have hn2:Hid (∀i,i<1->(s.toList==(Pu.wordAt i).toList)=false):=fun i hi=>by
      by_cases e:i=0
      .subst e;exact he
      .exact uh hno i (by omega)
     go_wp2_with fail
     go_round
     case rel=>exact⟨1,by omega,by go_num,hn2⟩
     case measure=>simp[intOf]
   .have hix:=idx13_1 (Pu.wordAt 0) (Pu.wordAt 1) (Pu.wordAt 2) (Pu.wordAt 3) (Pu.wordAt 4) (Pu.wordAt 5) (Pu.wordAt 6) (Pu.wordAt 7) (Pu.wordAt 8) (Pu.wordAt 9) (Pu.wordAt 10) (Pu.wordAt 11) (Pu.wordAt 12)
    cases he:(s.toList==(Pu.wordAt 1).toList)with
    |true=>
     have hb:Hid (Pu.wordB s=true):=Pu.wordB_at (k:=1) (by omega) (by rw[beq_comm'];exact he)
     go_wp2_with fail
     go_ret
     exact⟨qbb (uh hb).symm,rfl⟩
    |false=>
     have hn2:Hid (∀i,i<2->(s.toList==(Pu.wordAt i).toList)=false):=fun i hi=>by
      by_cases e:i=1
      .subst e;exact he
      .exact uh hno i (by omega)
     go_wp2_with fail
     go_round
     case rel=>exact⟨2,by omega,by go_num,hn2⟩
     case measure=>simp[intOf]
   .have hix:=idx13_2 (Pu.wordAt 0) (Pu.wordAt 1) (Pu.wordAt 2) (Pu.wordAt 3) (Pu.wordAt 4) (Pu.wordAt 5) (Pu.wordAt 6) (Pu.wordAt 7) (Pu.wordAt 8) (Pu.wordAt 9) (Pu.wordAt 10) (Pu.wordAt 11) (Pu.wordAt 12)
    cases he:(s.toList==(Pu.wordAt 2).toList)with
    |true=>
     have hb:Hid (Pu.wordB s=true):=Pu.wordB_at (k:=2) (by omega) (by rw[beq_comm'];exact he)
     go_wp2_with fail
     go_ret
     exact⟨qbb (uh hb).symm,rfl⟩
    |false=>
     have hn2:Hid (∀i,i<3->(s.toList==(Pu.wordAt i).toList)=false):=fun i hi=>by
      by_cases e:i=2
      .subst e;exact he
      .exact uh hno i (by omega)
     go_wp2_with fail
     go_round
     case rel=>exact⟨3,by omega,by go_num,hn2⟩
     case measure=>simp[intOf]
   .have hix:=idx13_3 (Pu.wordAt 0) (Pu.wordAt 1) (Pu.wordAt 2) (Pu.wordAt 3) (Pu.wordAt 4) (Pu.wordAt 5) (Pu.wordAt 6) (Pu.wordAt 7) (Pu.wordAt 8) (Pu.wordAt 9) (Pu.wordAt 10) (Pu.wordAt 11) (Pu.wordAt 12)
    cases he:(s.toList==(Pu.wordAt 3).toList)with
    |true=>
     have hb:Hid (Pu.wordB s=true):=Pu.wordB_at (k:=3) (by omega) (by rw[beq_comm'];exact he)
     go_wp2_with fail
     go_ret
     exact⟨qbb (uh hb).symm,rfl⟩
    |false=>
     have hn2:Hid (∀i,i<4->(s.toList==(Pu.wordAt i).toList)=false):=fun i hi=>by
      by_cases e:i=3
      .subst e;exact he
      .exact uh hno i (by omega)
     go_wp2_with fail
     go_round
     case rel=>exact⟨4,by omega,by go_num,hn2⟩
     case measure=>simp[intOf]
   .have hix:=idx13_4 (Pu.wordAt 0) (Pu.wordAt 1) (Pu.wordAt 2) (Pu.wordAt 3) (Pu.wordAt 4) (Pu.wordAt 5) (Pu.wordAt 6) (Pu.wordAt 7) (Pu.wordAt 8) (Pu.wordAt 9) (Pu.wordAt 10) (Pu.wordAt 11) (Pu.wordAt 12)
    cases he:(s.toList==(Pu.wordAt 4).toList)with
    |true=>
     have hb:Hid (Pu.wordB s=true):=Pu.wordB_at (k:=4) (by omega) (by rw[beq_comm'];exact he)
     go_wp2_with fail
     go_ret
     exact⟨qbb (uh hb).symm,rfl⟩
    |false=>
     have hn2:Hid (∀i,i<5->(s.toList==(Pu.wordAt i).toList)=false):=fun i hi=>by
      by_cases e:i=4
      .subst e;exact he
      .exact uh hno i (by omega)
     go_wp2_with fail
     go_round
     case rel=>exact⟨5,by omega,by go_num,hn2⟩
     case measure=>simp[intOf]
   .have hix:=idx13_5 (Pu.wordAt 0) (Pu.wordAt 1) (Pu.wordAt 2) (Pu.wordAt 3) (Pu.wordAt 4) (Pu.wordAt 5) (Pu.wordAt 6) (Pu.wordAt 7) (Pu.wordAt 8) (Pu.wordAt 9) (Pu.wordAt 10) (Pu.wordAt 11) (Pu.wordAt 12)
    cases he:(s.toList==(Pu.wordAt 5).toList)with
    |true=>
     have hb:Hid (Pu.wordB s=true):=Pu.wordB_at (k:=5) (by omega) (by rw[beq_comm'];exact he)
     go_wp2_with fail
     go_ret
     exact⟨qbb (uh hb).symm,rfl⟩
    |false=>
     have hn2:Hid (∀i,i<6->(s.toList==(Pu.wordAt i).toList)=false):=fun i hi=>by
      by_cases e:i=5
      .subst e;exact he
      .exact uh hno i (by omega)
     go_wp2_with fail
     go_round
     case rel=>exact⟨6,by omega,by go_num,hn2⟩
     case measure=>simp[intOf]
   .have hix:=idx13_6 (Pu.wordAt 0) (Pu.wordAt 1) (Pu.wordAt 2) (Pu.wordAt 3) (Pu.wordAt 4) (Pu.wordAt 5) (Pu.wordAt 6) (Pu.wordAt 7) (Pu.wordAt 8) (Pu.wordAt 9) (Pu.wordAt 10) (Pu.wordAt 11) (Pu.wordAt 12)
    cases he:(s.toList==(Pu.wordAt 6).toList)with
    |true=>
     have hb:Hid (Pu.wordB s=true):=Pu.wordB_at (k:=6) (by omega) (by rw[beq_comm'];exact he)
     go_wp2_with fail
     go_ret
     exact⟨qbb (uh hb).symm,rfl⟩
    |false=>
     have hn2:Hid (∀i,i<7->(s.toList==(Pu.wordAt i).toList)=false):=fun i hi=>by
      by_cases e:i=6
      .subst e;exact he
      .exact uh hno i (by omega)
     go_wp2_with fail
     go_round
     case rel=>exact⟨7,by omega,by go_num,hn2⟩
     case measure=>simp[intOf]
   .have hix:=idx13_7 (Pu.wordAt 0) (Pu.wordAt 1) (Pu.wordAt 2) (Pu.wordAt 3) (Pu.wordAt 4) (Pu.wordAt 5) (Pu.wordAt 6) (Pu.wordAt 7) (Pu.wordAt 8) (Pu.wordAt 9) (Pu.wordAt 10) (Pu.wordAt 11) (Pu.wordAt 12)
    cases he:(s.toList==(Pu.wordAt 7).toList)with
    |true=>
     have hb:Hid (Pu.wordB s=true):=Pu.wordB_at (k:=7) (by omega) (by rw[beq_comm'];exact he)
     go_wp2_with fail
     go_ret
     exact⟨qbb (uh hb).symm,rfl⟩
    |false=>
     have hn2:Hid (∀i,i<8->(s.toList==(Pu.wordAt i).toList)=false):=fun i hi=>by
      by_cases e:i=7
      .subst e;exact he
      .exact uh hno i (by omega)
     go_wp2_with fail
     go_round
     case rel=>exact⟨8,by omega,by go_num,hn2⟩
     case measure=>simp[intOf]
   .have hix:=idx13_8 (Pu.wordAt 0) (Pu.wordAt 1) (Pu.wordAt 2) (Pu.wordAt 3) (Pu.wordAt 4) (Pu.wordAt 5) (Pu.wordAt 6) (Pu.wordAt 7) (Pu.wordAt 8) (Pu.wordAt 9) (Pu.wordAt 10) (Pu.wordAt 11) (Pu.wordAt 12)
    cases he:(s.toList==(Pu.wordAt 8).toList)with
    |true=>
     have hb:Hid (Pu.wordB s=true):=Pu.wordB_at (k:=8) (by omega) (by rw[beq_comm'];exact he)
     go_wp2_with fail
     go_ret
     exact⟨qbb (uh hb).symm,rfl⟩
    |false=>
     have hn2:Hid (∀i,i<9->(s.toList==(Pu.wordAt i).toList)=false):=fun i hi=>by
      by_cases e:i=8
      .subst e;exact he
      .exact uh hno i (by omega)
     go_wp2_with fail
     go_round
     case rel=>exact⟨9,by omega,by go_num,hn2⟩
     case measure=>simp[intOf]
   .have hix:=idx13_9 (Pu.wordAt 0) (Pu.wordAt 1) (Pu.wordAt 2) (Pu.wordAt 3) (Pu.wordAt 4) (Pu.wordAt 5) (Pu.wordAt 6) (Pu.wordAt 7) (Pu.wordAt 8) (Pu.wordAt 9) (Pu.wordAt 10) (Pu.wordAt 11) (Pu.wordAt 12)
    cases he:(s.toList==(Pu.wordAt 9).toList)with
    |true=>
     have hb:Hid (Pu.wordB s=true):=Pu.wordB_at (k:=9) (by omega) (by rw[beq_comm'];exact he)
     go_wp2_with fail
     go_ret
     exact⟨qbb (uh hb).symm,rfl⟩
    |false=>
     have hn2:Hid (∀i,i<10->(s.toList==(Pu.wordAt i).toList)=false):=fun i hi=>by
      by_cases e:i=9
      .subst e;exact he
      .exact uh hno i (by omega)
     go_wp2_with fail
     go_round
     case rel=>exact⟨10,by omega,by go_num,hn2⟩
     case measure=>simp[intOf]
   .have hix:=idx13_10 (Pu.wordAt 0) (Pu.wordAt 1) (Pu.wordAt 2) (Pu.wordAt 3) (Pu.wordAt 4) (Pu.wordAt 5) (Pu.wordAt 6) (Pu.wordAt 7) (Pu.wordAt 8) (Pu.wordAt 9) (Pu.wordAt 10) (Pu.wordAt 11) (Pu.wordAt 12)
    cases he:(s.toList==(Pu.wordAt 10).toList)with
    |true=>
     have hb:Hid (Pu.wordB s=true):=Pu.wordB_at (k:=10) (by omega) (by rw[beq_comm'];exact he)
     go_wp2_with fail
     go_ret
     exact⟨qbb (uh hb).symm,rfl⟩
    |false=>
     have hn2:Hid (∀i,i<11->(s.toList==(Pu.wordAt i).toList)=false):=fun i hi=>by
      by_cases e:i=10
      .subst e;exact he
      .exact uh hno i (by omega)
     go_wp2_with fail
     go_round
     case rel=>exact⟨11,by omega,by go_num,hn2⟩
     case measure=>simp[intOf]
   .have hix:=idx13_11 (Pu.wordAt 0) (Pu.wordAt 1) (Pu.wordAt 2) (Pu.wordAt 3) (Pu.wordAt 4) (Pu.wordAt 5) (Pu.wordAt 6) (Pu.wordAt 7) (Pu.wordAt 8) (Pu.wordAt 9) (Pu.wordAt 10) (Pu.wordAt 11) (Pu.wordAt 12)
    cases he:(s.toList==(Pu.wordAt 11).toList)with
    |true=>
     have hb:Hid (Pu.wordB s=true):=Pu.wordB_at (k:=11) (by omega) (by rw[beq_comm'];exact he)
     go_wp2_with fail
     go_ret
     exact⟨qbb (uh hb).symm,rfl⟩
    |false=>
     have hn2:Hid (∀i,i<12->(s.toList==(Pu.wordAt i).toList)=false):=fun i hi=>by
      by_cases e:i=11
      .subst e;exact he
      .exact uh hno i (by omega)
     go_wp2_with fail
     go_round
     case rel=>exact⟨12,by omega,by go_num,hn2⟩
     case measure=>simp[intOf]
   .have hix:=idx13_12 (Pu.wordAt 0) (Pu.wordAt 1) (Pu.wordAt 2) (Pu.wordAt 3) (Pu.wordAt 4) (Pu.wordAt 5) (Pu.wordAt 6) (Pu.wordAt 7) (Pu.wordAt 8) (Pu.wordAt 9) (Pu.wordAt 10) (Pu.wordAt 11) (Pu.wordAt 12)
    cases he:(s.toList==(Pu.wordAt 12).toList)with
    |true=>
     have hb:Hid (Pu.wordB s=true):=Pu.wordB_at (k:=12) (by omega) (by rw[beq_comm'];exact he)
     go_wp2_with fail
     go_ret
     exact⟨qbb (uh hb).symm,rfl⟩
    |false=>
     have hn2:Hid (∀i,i<13->(s.toList==(Pu.wordAt i).toList)=false):=fun i hi=>by
      by_cases e:i=12
      .subst e;exact he
      .exact uh hno i (by omega)
     go_wp2_with fail
     go_round
     case rel=>exact⟨13,by omega,by go_num,hn2⟩
     case measure=>simp[intOf]
  .have hb:Hid (Pu.wordB s=false):=Pu.wordB_none (fun i hi=>by rw[beq_comm'];exact uh hno i (by omega))
   go_wp2_with fail
   go_ret
   exact⟨qbb (uh hb).symm,rfl⟩
end
end
section
open Go Go.RowKit
section
variable {rb g cap:Nat} {T:List Pu.Tok} {σ:St} {w:World}
theorem isS_yes{s:BA}(h:isS T σ s=true):∃k,σ=.ok k/\isT (tk T k) s=true/\(tk T k).kind=5:=by
 cases σ with
 |ok k=>exact⟨k,rfl,h,by simp[isS,isT]at h;exact h.1⟩|error f=>simp[isS]at h
theorem ofS_yes{n:Nat}(h:ofS T σ n=true):∃k,σ=.ok k/\(tk T k).kind=n:=by
 cases σ with
 |ok k=>exact⟨k,rfl,by simpa[ofS]using h⟩|error f=>simp[ofS]at h
theorem qch(h:SS w rb g cap T σ)(s:BA):
 Calls Tryz.prog 60 #[.pointer (some ⟨rb,0,none⟩),.string s] w fun e w'=>e=.returned (.tuple #[])/\Ke rb w w'/\SS w' rb g cap T (nx σ (qag T s)):=by
 rcases hi:isS T σ s with _|_
 .have E:nx σ (qag T s)=nx σ (qb1 (α:=Unit) T):=by
   cases σ with
   |ok k=>simp[isS]at hi;simp[nx,qag,qb1,hi]|error f=>rfl
  rw[E]
  clear E
  go_enter Tryz.func60,Tryz.ntmps60
  go_wp2_with(first|(go_at_call 57;refine(is_S h s).mono ?_;rintro e w1⟨rfl,hb1⟩;have h1:=ai (h.below hb1))|(go_at_call 117;refine(wrong_S (α:=Unit) (uh h1)).mono ?_;rintro e w2⟨rfl,hk2,h2⟩))
  exact bodyPost_ret (v:=.tuple #[]) (by simp[results,Tryz.results60,go_sem]) rfl ⟨rfl,(Ke.of hb1).trans hk2,h2⟩
 .obtain⟨k,rfl,hk,h5⟩:=isS_yes hi
  have E:nx (.ok k) (qag T s)=.ok (k+1):=by simp[nx,qag,hk]
  rw[E]
  have h7:(tk T k).kind≠7:=by omega
  clear E hk h5
  go_enter Tryz.func60,Tryz.ntmps60
  go_wp2_with(first|(go_at_call 57;refine(is_S h s).mono ?_;rintro e w1⟨rfl,hb1⟩;have h1:=ai (h.below hb1))|(go_at_call 116;refine(qcp (uh h1) h7).mono ?_;rintro e w2⟨rfl,hk2,h2⟩))
  go_end0
  exact⟨rfl,(Ke.of hb1).trans hk2,h2⟩
theorem name_S(h:SS w rb g cap T σ)(n:Nat)(hn7:n≠7):
 Calls Tryz.prog 115 #[.pointer (some ⟨rb,0,none⟩),.int .i64 (n:Int)] w fun e w'=>∃t,e=.returned (tokV t)/\Ke rb w w'/\SS w' rb g cap T (nx σ (qa7 T n))/\(∀k a k',σ=.ok k->qa7 T n k=.ok (a,k')->t=a):=by
 rcases hi:ofS T σ n with _|_
 .have E:nx σ (qa7 T n)=nx σ (qb1 (α:=Unit) T):=by
   cases σ with
   |ok k=>simp[ofS]at hi;simp[nx,qa7,qb1,hi]|error f=>rfl
  have E2:∀k a k',σ=.ok k->qa7 T n k=.ok (a,k')->False:=by
   intro k a k' hs hm
   subst hs
   simp[ofS]at hi;simp[qa7,hi]at hm
  rw[E]
  have H2:=ai E2
  clear E E2
  go_enter Tryz.func115,Tryz.ntmps115
  have hr:=h.hr
  have hg:=h.hg
  have h0:=ai (h.alloc (.cells #[.int .i64 0,.string ⟨#[]⟩,.int .i64 0,.int .i64 0] 58))
  have B0:=ai (Bx.new w #[.int .i64 0,.string ⟨#[]⟩,.int .i64 0,.int .i64 0] 58)
  go_wp2_with(first|(go_at_call 56;refine(of_S (uh h0) n).mono ?_;rintro e w1⟨rfl,hb1⟩;have h1:=ai ((uh h0).below hb1);have B1:=ai ((uh B0).below hb1))|(go_at_call 117;refine(wrong_S (α:=Unit) (uh h1)).mono ?_;rintro e w2⟨rfl,hk2,h2⟩;obtain⟨c2,f2,z2⟩:=(uh B1).ke hk2 (by omega)))
  refine bodyPost_ret (v:=tokV ⟨0,⟨#[]⟩,0,0⟩) (by simp[results,Tryz.results115,go_sem,c2,z2,tokV];try rfl) rfl ⟨_,rfl,?_,?_,fun k a k' hs hm=>absurd (uh H2 k a k' hs hm) id⟩
  .have K0:Ke rb w w2:=((Ke.of (bw _)).trans (Ke.of hb1)).trans hk2
   exact(((K0.setNew (br _) _ _).setNew (br _) _ _).setNew (br _) _ _).setNew (br _) _ _
  .exact(((h2.set (by omega) (by omega) _ _).set (by omega) (by omega) _ _).set (by omega) (by omega) _ _).set (by omega) (by omega) _ _
 .obtain⟨k,rfl,hk⟩:=ofS_yes hi
  have E:nx (.ok k) (qa7 T n)=.ok (k+1):=by simp[nx,qa7,hk]
  rw[E]
  have E2:∀j a k',(Except.ok k:St)=.ok j->qa7 T n j=.ok (a,k')->tk T k=a:=by
   intro j a k' hs hm
   cases hs
   simp[qa7,hk]at hm
   exact hm.1
  have H2:=ai E2
  have h7:(tk T k).kind≠7:=by omega
  clear E E2 hk
  have hr:=h.hr
  have hg:=h.hg
  have h0:=ai (h.alloc (.cells #[.int .i64 0,.string ⟨#[]⟩,.int .i64 0,.int .i64 0] 58))
  have B0:=ai (Bx.new w #[.int .i64 0,.string ⟨#[]⟩,.int .i64 0,.int .i64 0] 58)
  go_enter Tryz.func115,Tryz.ntmps115
  go_wp2_with(first|(go_at_call 56;refine(of_S (uh h0) n).mono ?_;rintro e w1⟨rfl,hb1⟩;have h1:=ai ((uh h0).below hb1);have B1:=ai ((uh B0).below hb1))|(go_at_call 116;refine(qcp (uh h1) h7).mono ?_;rintro e w2⟨rfl,hk2,h2⟩;unfold tokV;obtain⟨c2,f2,z2⟩:=(uh B1).ke hk2 (by omega)))
  refine bodyPost_ret (v:=tokV (tk T k)) (by simp[results,Tryz.results115,go_sem,c2,z2,tokV];try rfl) rfl ⟨_,rfl,?_,?_,uh H2⟩
  .have K0:Ke rb w w2:=((Ke.of (bw _)).trans (Ke.of hb1)).trans hk2
   exact(((K0.setNew (br _) _ _).setNew (br _) _ _).setNew (br _) _ _).setNew (br _) _ _
  .exact(((h2.set (by omega) (by omega) _ _).set (by omega) (by omega) _ _).set (by omega) (by omega) _ _).set (by omega) (by omega) _ _
end
end
section
open Go Go.RowKit
section
variable {rb g cap:Nat} {T:List Pu.Tok} {σ:St} {w:World}
theorem last_any{k:Nat}{f:Fl}(h:RS w rb g cap T k f):
 Calls Tryz.prog 206 #[.pointer (some ⟨rb,0,none⟩)] w fun e w'=>e=.returned (.int .i64 (qan T k:Int))/\Below w.heap.size w w':=by
 by_cases h0:k=0
 .subst h0
  have h1:=h.c1
  clear h
  go_enter Tryz.func206,Tryz.ntmps206
  go_wp2
  go_ret
  exact⟨rfl,Below.refl _ _⟩
 .obtain⟨j,rfl⟩:∃j,k=j+1:=⟨k-1,by omega⟩
  have hj:j<T.length:=by have:=h.hk;omega
  obtain⟨t0,t1,t2,t3⟩:=h.tk j hj
  have c0:=h.c0
  have h1:=h.c1
  have hrb:=h.hr
  have hg:=h.hg
  have hk:((j:Int)+1)<(T.length:Int):=by have:=h.hk;omega
  have hk2:(j:Int)<=1001:=by have:=h.hk;have:=h.hT;omega
  have E:(((j+1:Nat):Int)==0)=false:=by simp;omega
  rw[tk_eq hj]at t0 t1 t2 t3
  have L:=ai (show qan T (j+1)=(tk T j).to by simp[qan])
  generalize tk T j=t at*
  clear h h0 hj
  go_enter Tryz.func206,Tryz.ntmps206
  go_wp2
  go_quiet(fail)
  go_wp2
  go_ret
  exact⟨retInt (by rw[uh L]),⟨rfl,rfl,rfl,br _,fun _ _=>rfl⟩⟩
theorem qd1(h:SS w rb g cap T σ):
 Calls Tryz.prog 206 #[.pointer (some ⟨rb,0,none⟩)] w fun e w'=>∃n:Nat,e=.returned (.int .i64 (n:Int))/\Below w.heap.size w w'/\(∀k,σ=.ok k->n=qan T k):=by
 obtain⟨k,f,hR,hs⟩:=h.any
 refine(last_any hR).mono ?_
 rintro e w'⟨rfl,hb⟩
 refine⟨_,rfl,hb,fun j hj=>?_⟩
 rcases hs with⟨rfl,_⟩|⟨rfl,_⟩
 .cases hj;rfl
 .cases hj
end
def numF(s:BA):Nat->Nat
 |0=>0|k+1=>10*numF s k+(Pu.at_ s k+208)%256
def numB(s:BA):Nat:=numF s (min s.size 9)
theorem numF_le(s:BA):∀k,k<=9->numF s k<=255*111111111:=by
 have:∀k,9*numF s k+255<=255*10^k:=by
  intro k
  induction k with
  |zero=>simp[numF]|succ k ih=>simp only[numF,Nat.pow_succ];omega
 intro k hk
 have h:=this k
 have h2:10^k<=10^9:=Nat.pow_le_pow_right (by omega) hk
 omega
theorem qcv(s:BA)(w:World):
 Calls Tryz.prog 354 #[.string s] w fun e w'=>e=.returned (.int .i64 (numB s:Int))/\w'=w:=by
 go_enter Tryz.func354,Tryz.ntmps354
 go_wp2
 go_loop[3,4] (fun n i=>∃k:Nat,k<=s.size/\k<=9/\i=.int .i64 (k:Int)/\n=.int .i64 (numF s k:Int)) (fun _ i=>9-(intOf i).toNat)
 case atStart=>exact⟨0,by omega,by omega,rfl,rfl⟩
 case round=>
  obtain⟨k,h1,h2,rfl,rfl⟩:=hrel
  have hb:=numF_le s k h2
  by_cases ha:k<s.size
  .by_cases hb:k<9
   .go_wp2
    refine⟨⟨k+1,by omega,by omega,by go_num,congrArg (Value.int .i64) ?_⟩,by simp[intOf];omega⟩
    simp only[numF,Pu.at_lt ha]
    omega
   .go_wp2
    go_ret
    exact⟨retInt (by unfold numB;rw[show min s.size 9=k by omega]),rfl⟩
  .go_wp2
   go_ret
   exact⟨retInt (by unfold numB;rw[show min s.size 9=k by omega]),rfl⟩
end
section
open Go Go.RowKit
inductive Nd where
 |mk(kind:Nat)(s:BA)(n:Nat)(L:List Nd)(frm to at_:Nat):Nd
def qcm(kind:Int)(s:BA)(n:Int)(L:Value)(frm to at_:Int):Value:=.agg #[.int .i64 kind,.string s,.int .i64 n,L,.int .i64 frm,.int .i64 to,.int .i64 at_]
theorem qab(l:List UInt8):(ByteArray.mk l.toArray).toList=l:=by
 rw[ByteArray.toList_eq]
abbrev kTrue:BA:=⟨#[116,114,117,101]⟩
abbrev kFalse:BA:=⟨#[102,97,108,115,101]⟩
abbrev kAny:BA:=⟨#[95]⟩
abbrev qes:BA:=⟨#[40]⟩
def qa6(t:Pu.Tok):Nat:=
 if t.kind=1 then 1 else if t.kind=2 then 2 else if t.kind=3 then 16 else if t.kind=4 then 3
 else if isT t kTrue=true\/isT t kFalse=true then 4 else if isT t kAny=true then 15 else 0
def qa9(t:Pu.Tok):Nat:=if t.kind=4 then numB t.text else 0
def qcl(t:Pu.Tok):Value:=qcm (qa6 t:Int) t.text (qa9 t:Int) (.slice none 0 0) (t.frm:Int) (t.to:Int) (t.frm:Int)
theorem isT_mk(t:Pu.Tok)(l:List UInt8):isT t ⟨l.toArray⟩=(t.kind==5&&t.text.toList==l):=by unfold isT;rw[qab l]
theorem qft(t:Pu.Tok):isT t kTrue=(t.kind==5&&t.text.toList==[116,114,117,101]):=isT_mk t _
theorem qff(t:Pu.Tok):isT t kFalse=(t.kind==5&&t.text.toList==[102,97,108,115,101]):=isT_mk t _
theorem isT_any(t:Pu.Tok):isT t kAny=(t.kind==5&&t.text.toList==[95]):=isT_mk t _
theorem qea(t:Pu.Tok):isT t qes=(t.kind==5&&t.text.toList==[40]):=isT_mk t _
theorem leaf_k1(t:Pu.Tok)(w:World)(h:t.kind=1):
 Calls Tryz.prog 304 #[tokV t] w fun e w'=>e=.returned (qcl t)/\Below w.heap.size w w':=by
 have hK:qa6 t=1:=by simp[qa6,h]
 have hN:qa9 t=0:=by simp[qa9,h]
 have H:=ai (show qcl t=qcm 1 t.text (0) (.slice none 0 0) (t.frm:Int) (t.to:Int) (t.frm:Int) by unfold qcl;rw[hK,hN];try rfl)
 have e1:((t.kind:Int)==1)=true:=by rw[h];rfl
 clear hK hN h
 unfold tokV
 go_enter Tryz.func304,Tryz.ntmps304
 go_wp2_with(go_at_call 354;refine(qcv _ _).mono ?_;rintro e w'⟨rfl,rfl⟩)
 refine bodyPost_ret (v:=qcm 1 t.text (0) (.slice none 0 0) (t.frm:Int) (t.to:Int) (t.frm:Int)) (by simp[results,Tryz.results304,go_sem,qcm];try rfl) rfl ⟨by rw[uh H],?_⟩
 exact((bw _).alloc (by simp) _).alloc (by simp;try omega) _
theorem leaf_k2(t:Pu.Tok)(w:World)(h:t.kind=2):
 Calls Tryz.prog 304 #[tokV t] w fun e w'=>e=.returned (qcl t)/\Below w.heap.size w w':=by
 have hK:qa6 t=2:=by simp[qa6,h]
 have hN:qa9 t=0:=by simp[qa9,h]
 have H:=ai (show qcl t=qcm 2 t.text (0) (.slice none 0 0) (t.frm:Int) (t.to:Int) (t.frm:Int) by unfold qcl;rw[hK,hN];try rfl)
 have e1:((t.kind:Int)==1)=false:=by rw[h];rfl
 have e2:((t.kind:Int)==2)=true:=by rw[h];rfl
 clear hK hN h
 unfold tokV
 go_enter Tryz.func304,Tryz.ntmps304
 go_wp2_with(go_at_call 354;refine(qcv _ _).mono ?_;rintro e w'⟨rfl,rfl⟩)
 refine bodyPost_ret (v:=qcm 2 t.text (0) (.slice none 0 0) (t.frm:Int) (t.to:Int) (t.frm:Int)) (by simp[results,Tryz.results304,go_sem,qcm];try rfl) rfl ⟨by rw[uh H],?_⟩
 exact((bw _).alloc (by simp) _).alloc (by simp;try omega) _
theorem leaf_k3(t:Pu.Tok)(w:World)(h:t.kind=3):
 Calls Tryz.prog 304 #[tokV t] w fun e w'=>e=.returned (qcl t)/\Below w.heap.size w w':=by
 have hK:qa6 t=16:=by simp[qa6,h]
 have hN:qa9 t=0:=by simp[qa9,h]
 have H:=ai (show qcl t=qcm 16 t.text (0) (.slice none 0 0) (t.frm:Int) (t.to:Int) (t.frm:Int) by unfold qcl;rw[hK,hN];try rfl)
 have e1:((t.kind:Int)==1)=false:=by rw[h];rfl
 have e2:((t.kind:Int)==2)=false:=by rw[h];rfl
 have e3:((t.kind:Int)==3)=true:=by rw[h];rfl
 clear hK hN h
 unfold tokV
 go_enter Tryz.func304,Tryz.ntmps304
 go_wp2_with(go_at_call 354;refine(qcv _ _).mono ?_;rintro e w'⟨rfl,rfl⟩)
 refine bodyPost_ret (v:=qcm 16 t.text (0) (.slice none 0 0) (t.frm:Int) (t.to:Int) (t.frm:Int)) (by simp[results,Tryz.results304,go_sem,qcm];try rfl) rfl ⟨by rw[uh H],?_⟩
 exact((bw _).alloc (by simp) _).alloc (by simp;try omega) _
theorem leaf_k4(t:Pu.Tok)(w:World)(h:t.kind=4):
 Calls Tryz.prog 304 #[tokV t] w fun e w'=>e=.returned (qcl t)/\Below w.heap.size w w':=by
 have hK:qa6 t=3:=by simp[qa6,h]
 have hN:qa9 t=numB t.text:=by simp[qa9,h]
 have H:=ai (show qcl t=qcm 3 t.text ((numB t.text:Int)) (.slice none 0 0) (t.frm:Int) (t.to:Int) (t.frm:Int) by unfold qcl;rw[hK,hN];try rfl)
 have e1:((t.kind:Int)==1)=false:=by rw[h];rfl
 have e2:((t.kind:Int)==2)=false:=by rw[h];rfl
 have e3:((t.kind:Int)==3)=false:=by rw[h];rfl
 have e4:((t.kind:Int)==4)=true:=by rw[h];rfl
 clear hK hN h
 unfold tokV
 go_enter Tryz.func304,Tryz.ntmps304
 go_wp2_with(go_at_call 354;refine(qcv _ _).mono ?_;rintro e w'⟨rfl,rfl⟩)
 refine bodyPost_ret (v:=qcm 3 t.text ((numB t.text:Int)) (.slice none 0 0) (t.frm:Int) (t.to:Int) (t.frm:Int)) (by simp[results,Tryz.results304,go_sem,qcm];try rfl) rfl ⟨by rw[uh H],?_⟩
 exact((bw _).alloc (by simp) _).alloc (by simp;try omega) _
theorem leaf_true(t:Pu.Tok)(w:World)(h:t.kind=5)(q1:(t.text.toList==[116,114,117,101])=true):
 Calls Tryz.prog 304 #[tokV t] w fun e w'=>e=.returned (qcl t)/\Below w.heap.size w w':=by
 have hK:qa6 t=4:=by unfold qa6;rw[qft];simp[h,q1]
 have hN:qa9 t=0:=by simp[qa9,h]
 have H:=ai (show qcl t=qcm 4 t.text (0) (.slice none 0 0) (t.frm:Int) (t.to:Int) (t.frm:Int) by unfold qcl;rw[hK,hN];try rfl)
 have e1:((t.kind:Int)==1)=false:=by rw[h];rfl
 have e2:((t.kind:Int)==2)=false:=by rw[h];rfl
 have e3:((t.kind:Int)==3)=false:=by rw[h];rfl
 have e4:((t.kind:Int)==4)=false:=by rw[h];rfl
 have e5:((t.kind:Int)==5)=true:=by rw[h];rfl
 clear hK hN h
 unfold tokV
 go_enter Tryz.func304,Tryz.ntmps304
 go_wp2_with(go_at_call 354;refine(qcv _ _).mono ?_;rintro e w'⟨rfl,rfl⟩)
 refine bodyPost_ret (v:=qcm 4 t.text (0) (.slice none 0 0) (t.frm:Int) (t.to:Int) (t.frm:Int)) (by simp[results,Tryz.results304,go_sem,qcm];try rfl) rfl ⟨by rw[uh H],?_⟩
 exact((bw _).alloc (by simp) _).alloc (by simp;try omega) _
theorem leaf_false(t:Pu.Tok)(w:World)(h:t.kind=5)(q1:(t.text.toList==[116,114,117,101])=false)(q2:(t.text.toList==[102,97,108,115,101])=true):
 Calls Tryz.prog 304 #[tokV t] w fun e w'=>e=.returned (qcl t)/\Below w.heap.size w w':=by
 have hK:qa6 t=4:=by unfold qa6;rw[qft,qff];simp[h,q1,q2]
 have hN:qa9 t=0:=by simp[qa9,h]
 have H:=ai (show qcl t=qcm 4 t.text (0) (.slice none 0 0) (t.frm:Int) (t.to:Int) (t.frm:Int) by unfold qcl;rw[hK,hN];try rfl)
 have e1:((t.kind:Int)==1)=false:=by rw[h];rfl
 have e2:((t.kind:Int)==2)=false:=by rw[h];rfl
 have e3:((t.kind:Int)==3)=false:=by rw[h];rfl
 have e4:((t.kind:Int)==4)=false:=by rw[h];rfl
 have e5:((t.kind:Int)==5)=true:=by rw[h];rfl
 clear hK hN h
 unfold tokV
 go_enter Tryz.func304,Tryz.ntmps304
 go_wp2_with(go_at_call 354;refine(qcv _ _).mono ?_;rintro e w'⟨rfl,rfl⟩)
 refine bodyPost_ret (v:=qcm 4 t.text (0) (.slice none 0 0) (t.frm:Int) (t.to:Int) (t.frm:Int)) (by simp[results,Tryz.results304,go_sem,qcm];try rfl) rfl ⟨by rw[uh H],?_⟩
 exact((bw _).alloc (by simp) _).alloc (by simp;try omega) _
theorem leaf_under(t:Pu.Tok)(w:World)(h:t.kind=5)(q1:(t.text.toList==[116,114,117,101])=false)(q2:(t.text.toList==[102,97,108,115,101])=false)(q3:(t.text.toList==[95])=true):
 Calls Tryz.prog 304 #[tokV t] w fun e w'=>e=.returned (qcl t)/\Below w.heap.size w w':=by
 have hK:qa6 t=15:=by unfold qa6;rw[qft,qff,isT_any];simp[h,q1,q2,q3]
 have hN:qa9 t=0:=by simp[qa9,h]
 have H:=ai (show qcl t=qcm 15 t.text (0) (.slice none 0 0) (t.frm:Int) (t.to:Int) (t.frm:Int) by unfold qcl;rw[hK,hN];try rfl)
 have e1:((t.kind:Int)==1)=false:=by rw[h];rfl
 have e2:((t.kind:Int)==2)=false:=by rw[h];rfl
 have e3:((t.kind:Int)==3)=false:=by rw[h];rfl
 have e4:((t.kind:Int)==4)=false:=by rw[h];rfl
 have e5:((t.kind:Int)==5)=true:=by rw[h];rfl
 clear hK hN h
 unfold tokV
 go_enter Tryz.func304,Tryz.ntmps304
 go_wp2_with(go_at_call 354;refine(qcv _ _).mono ?_;rintro e w'⟨rfl,rfl⟩)
 refine bodyPost_ret (v:=qcm 15 t.text (0) (.slice none 0 0) (t.frm:Int) (t.to:Int) (t.frm:Int)) (by simp[results,Tryz.results304,go_sem,qcm];try rfl) rfl ⟨by rw[uh H],?_⟩
 exact((bw _).alloc (by simp) _).alloc (by simp;try omega) _
theorem leaf_sign(t:Pu.Tok)(w:World)(h:t.kind=5)(q1:(t.text.toList==[116,114,117,101])=false)(q2:(t.text.toList==[102,97,108,115,101])=false)(q3:(t.text.toList==[95])=false):
 Calls Tryz.prog 304 #[tokV t] w fun e w'=>e=.returned (qcl t)/\Below w.heap.size w w':=by
 have hK:qa6 t=0:=by unfold qa6;rw[qft,qff,isT_any];simp[h,q1,q2,q3]
 have hN:qa9 t=0:=by simp[qa9,h]
 have H:=ai (show qcl t=qcm 0 t.text (0) (.slice none 0 0) (t.frm:Int) (t.to:Int) (t.frm:Int) by unfold qcl;rw[hK,hN];try rfl)
 have e1:((t.kind:Int)==1)=false:=by rw[h];rfl
 have e2:((t.kind:Int)==2)=false:=by rw[h];rfl
 have e3:((t.kind:Int)==3)=false:=by rw[h];rfl
 have e4:((t.kind:Int)==4)=false:=by rw[h];rfl
 have e5:((t.kind:Int)==5)=true:=by rw[h];rfl
 clear hK hN h
 unfold tokV
 go_enter Tryz.func304,Tryz.ntmps304
 go_wp2_with(go_at_call 354;refine(qcv _ _).mono ?_;rintro e w'⟨rfl,rfl⟩)
 refine bodyPost_ret (v:=qcm 0 t.text (0) (.slice none 0 0) (t.frm:Int) (t.to:Int) (t.frm:Int)) (by simp[results,Tryz.results304,go_sem,qcm];try rfl) rfl ⟨by rw[uh H],?_⟩
 exact((bw _).alloc (by simp) _).alloc (by simp;try omega) _
theorem leaf_no(t:Pu.Tok)(w:World)(h:t.kind≠1/\t.kind≠2/\t.kind≠3/\t.kind≠4/\t.kind≠5):
 Calls Tryz.prog 304 #[tokV t] w fun e w'=>e=.returned (qcl t)/\Below w.heap.size w w':=by
 have hK:qa6 t=0:=by unfold qa6;rw[qft,qff,isT_any];simp[h]
 have hN:qa9 t=0:=by simp[qa9,h]
 have H:=ai (show qcl t=qcm 0 t.text (0) (.slice none 0 0) (t.frm:Int) (t.to:Int) (t.frm:Int) by unfold qcl;rw[hK,hN];try rfl)
 have e1:((t.kind:Int)==1)=false:=by simp;omega
 have e2:((t.kind:Int)==2)=false:=by simp;omega
 have e3:((t.kind:Int)==3)=false:=by simp;omega
 have e4:((t.kind:Int)==4)=false:=by simp;omega
 have e5:((t.kind:Int)==5)=false:=by simp;omega
 clear hK hN h
 unfold tokV
 go_enter Tryz.func304,Tryz.ntmps304
 go_wp2_with(go_at_call 354;refine(qcv _ _).mono ?_;rintro e w'⟨rfl,rfl⟩)
 refine bodyPost_ret (v:=qcm 0 t.text (0) (.slice none 0 0) (t.frm:Int) (t.to:Int) (t.frm:Int)) (by simp[results,Tryz.results304,go_sem,qcm];try rfl) rfl ⟨by rw[uh H],?_⟩
 exact((bw _).alloc (by simp) _).alloc (by simp;try omega) _
theorem leaf_any(t:Pu.Tok)(w:World):
 Calls Tryz.prog 304 #[tokV t] w fun e w'=>e=.returned (qcl t)/\Below w.heap.size w w':=by
 by_cases h1:t.kind=1
 .exact leaf_k1 t w h1
 by_cases h2:t.kind=2
 .exact leaf_k2 t w h2
 by_cases h3:t.kind=3
 .exact leaf_k3 t w h3
 by_cases h4:t.kind=4
 .exact leaf_k4 t w h4
 by_cases h5:t.kind=5
 .rcases q1:(t.text.toList==[116,114,117,101])with _|_
  .rcases q2:(t.text.toList==[102,97,108,115,101])with _|_
   .rcases q3:(t.text.toList==[95])with _|_
    .exact leaf_sign t w h5 q1 q2 q3
    .exact leaf_under t w h5 q1 q2 q3
   .exact leaf_false t w h5 q1 q2
  .exact leaf_true t w h5 q1
 .exact leaf_no t w ⟨h1,h2,h3,h4,h5⟩
end
section
open Go Go.RowKit
def qai(t:Pu.Tok)(sort:Nat):Bool:=isT t qes||
 (if sort=1 then qa6 t==16||qa6 t==2 else if sort=2 then qa6 t==15||qa6 t==1||qa6 t==2||qa6 t==3||qa6 t==4 else qa6 t==1||qa6 t==2||qa6 t==3||qa6 t==4)
theorem node_f0(a0 a1 a2 a3 a4 a5 a6:Value)(w:World):(Instr.field 62 (.agg #[a0,a1,a2,a3,a4,a5,a6]) 0).run Tryz.prog w=.ok a0 w:=by kernel_rfl
theorem leafK_of(t:Pu.Tok):qa6 t=0\/qa6 t=1\/qa6 t=2\/qa6 t=3\/qa6 t=4\/qa6 t=15\/qa6 t=16:=by
 unfold qa6
 repeat(first|omega|split)
theorem begins_no(t:Pu.Tok)(w:World)(sort:Nat)(hs:sort=1\/sort=2\/sort=3)(h:isT t qes=false):
 Calls Tryz.prog 204 #[tokV t,.int .i64 (sort:Int)] w fun e w'=>e=.returned (.bool (qai t sort))/\Below w.heap.size w w':=by
 have ho:(t.kind=5/\(t.text.toList==[40])=false)\/t.kind≠5:=by
  rw[qea]at h
  by_cases k:t.kind=5
  .simp[k]at h;exact Or.inl ⟨k,by simpa using h⟩
  .exact Or.inr k
 have H:=ai (show qai t sort=_ by unfold qai;rw[h])
 have hl:=leafK_of t
 clear h
 unfold tokV
 rcases ho with⟨k5,q1⟩|k5
 .have e5:((t.kind:Int)==5)=true:=by rw[k5];rfl
  clear k5
  rcases hs with rfl|rfl|rfl<;>rcases hl with hl|hl|hl|hl|hl|hl|hl
  all_goals
   have hf0:=node_f0
   go_enter Tryz.func204,Tryz.ntmps204
   go_wp2_with(go_at_call 304;refine(leaf_any t _).mono ?_;rintro e w1⟨rfl,hb1⟩;unfold qcl qcm)
   go_ret
   exact⟨qbb (by rw[uh H,hl];rfl),(bw _).trans (hb1.mono (by simp))⟩
 .have e5:((t.kind:Int)==5)=false:=by simp;omega
  clear k5
  rcases hs with rfl|rfl|rfl<;>rcases hl with hl|hl|hl|hl|hl|hl|hl
  all_goals
   have hf0:=node_f0
   go_enter Tryz.func204,Tryz.ntmps204
   go_wp2_with(go_at_call 304;refine(leaf_any t _).mono ?_;rintro e w1⟨rfl,hb1⟩;unfold qcl qcm)
   go_ret
   exact⟨qbb (by rw[uh H,hl];rfl),(bw _).trans (hb1.mono (by simp))⟩
theorem begins_yes(t:Pu.Tok)(w:World)(sort:Nat)(h:isT t qes=true):
 Calls Tryz.prog 204 #[tokV t,.int .i64 (sort:Int)] w fun e w'=>e=.returned (.bool (qai t sort))/\Below w.heap.size w w':=by
 have ho:t.kind=5/\(t.text.toList==[40])=true:=by rw[qea]at h;simpa using h
 have H:=ai (show qai t sort=true by unfold qai;rw[h];rfl)
 obtain⟨k5,q1⟩:=ho
 have e5:((t.kind:Int)==5)=true:=by rw[k5];rfl
 clear h k5
 unfold tokV
 go_enter Tryz.func204,Tryz.ntmps204
 go_wp2_with fail
 go_ret
 exact⟨qbb (uh H).symm,bw _⟩
theorem qbt(t:Pu.Tok)(w:World)(sort:Nat)(hs:sort=1\/sort=2\/sort=3):
 Calls Tryz.prog 204 #[tokV t,.int .i64 (sort:Int)] w fun e w'=>e=.returned (.bool (qai t sort))/\Below w.heap.size w w':=by
 rcases h:isT t qes with _|_
 .exact begins_no t w sort hs h
 .exact begins_yes t w sort h
end
section
open Go Go.RowKit
abbrev kNo:BA:=⟨#[]⟩
abbrev kClose:BA:=⟨#[41]⟩
abbrev kComma:BA:=⟨#[44]⟩
abbrev qcx:BA:=⟨#[58]⟩
abbrev kArrow:BA:=⟨#[45,62]⟩
abbrev kStar:BA:=⟨#[42]⟩
abbrev kPlus:BA:=⟨#[43]⟩
abbrev kMinus:BA:=⟨#[45]⟩
abbrev kLess:BA:=⟨#[60]⟩
abbrev kFun:BA:=⟨#[102,117,110]⟩
abbrev kLet:BA:=⟨#[108,101,116]⟩
abbrev kRec:BA:=⟨#[114,101,99]⟩
abbrev kIn:BA:=⟨#[105,110]⟩
abbrev kIf:BA:=⟨#[105,102]⟩
abbrev qdo:BA:=⟨#[116,104,101,110]⟩
abbrev qer:BA:=⟨#[101,108,115,101]⟩
abbrev qbc:BA:=⟨#[109,97,116,99,104]⟩
abbrev kWith:BA:=⟨#[119,105,116,104]⟩
abbrev kEnd:BA:=⟨#[101,110,100]⟩
abbrev kBar:BA:=⟨#[124]⟩
abbrev qeb:BA:=⟨#[59]⟩
abbrev kEq:BA:=⟨#[61]⟩
abbrev qce:BA:=⟨#[116,121,112,101]⟩
def qb3(t:Pu.Tok):Nd:=.mk (qa6 t) t.text (qa9 t) [] t.frm t.to t.frm
def Nd.add:Nd->Nd->Nat->Nd
 |.mk k s n L f _ a,y,to=>.mk k s n (L++[y]) f to a
def bnd{α β:Type}(m:M α)(f:α->M β):M β:=fun k=>match m k with
 |.error e=>.error e|.ok (a,k')=>f a k'
section
variable (T:List Pu.Tok)
def qc3(mk:Nat->Nd):M Nd:=bnd (qag T kClose) fun _ k=>.ok (mk k,k)
def qee(part typ:M Nd)(sort frm:Nat)(a:Nd):M Nd:=fun k=>
 if isT (tk T k) kComma=true then bnd part (fun b=>qc3 T fun k'=>.mk 6 kNo 0 [a,b] frm (qan T k') frm) (k+1)
 else if sort=3/\isT (tk T k) qcx=true then bnd typ (fun b=>qc3 T fun k'=>.mk 14 kNo 0 [a,b] frm (qan T k') frm) (k+1)
 else qc3 T (fun _=>a) k
def qew(part typ:M Nd)(sort frm:Nat):M Nd:=fun k=>
 if sort≠1/\isT (tk T k) kClose=true then .ok (.mk 5 kNo 0 [] frm (qan T (k+1)) frm,k+1)
 else bnd part (qee T part typ sort frm) k
def qam(part typ:M Nd)(sort:Nat):M Nd:=fun k=>
 if qai (tk T k) sort=true then
  (if isT (tk T k) qes=true then qew T part typ sort (tk T k).frm (k+1)else .ok (qb3 (tk T k),k+1))
 else .error (flOf (tk T k))
def qbv(small:M Nd)(sort:Nat):Nat->Nd->M Nd
 |0,x=>fun k=>.ok (x,k)|f+1,x=>fun k=>if qai (tk T k) sort=true then bnd small (fun y k'=>qbv small sort f (x.add y (qan T k')) k') k else .ok (x,k)
def qdn(small:M Nd)(sort:Nat):M Nd:=fun k=>if(tk T k).kind==2 then bnd small (qbv T small sort T.length) k else small k
def qfc(typ:M Nd)(frm:Nat)(a:Nd):M Nd:=fun k=>
 if isT (tk T k) kArrow=true then bnd typ (fun b k'=>.ok (.mk 17 kNo 0 [a,b] frm (qan T k') frm,k')) (k+1)else .ok (a,k)
def typM:Nat->M Nd
 |0=>qb1 T|n+1=>fun k=>bnd (qdn T (qam T (typM n) (typM n) 1) 1) (qfc T (typM n) (tk T k).frm) k
def patM:Nat->M Nd
 |0=>qb1 T|n+1=>qdn T (qam T (patM n) (qb1 T) 2) 2
def qd7(small:M Nd)(frm:Nat):Nat->Nd->M Nd
 |0,x=>fun k=>.ok (x,k)|f+1,x=>fun k=>if qai (tk T k) 3=true then bnd small (fun y k'=>qd7 small frm f (.mk 8 kNo 0 [x,y] frm (qan T k') frm) k') k else .ok (x,k)
def qbh(small:M Nd):M Nd:=fun k=>bnd small (qd7 T small (tk T k).frm T.length) k
def qec(call:M Nd)(frm:Nat):Nat->Nd->M Nd
 |0,x=>fun k=>.ok (x,k)|f+1,x=>fun k=>if isT (tk T k) kStar=true then bnd call (fun y k'=>qec call frm f (.mk 7 kStar 0 [x,y] frm (qan T k') frm) k') (k+1)else .ok (x,k)
def qby(call:M Nd):M Nd:=fun k=>bnd call (qec T call (tk T k).frm T.length) k
def sumF(prod:M Nd)(frm:Nat):Nat->Nd->M Nd
 |0,x=>fun k=>.ok (x,k)|f+1,x=>fun k=>if isT (tk T k) kPlus=true\/isT (tk T k) kMinus=true then bnd prod (fun y k'=>sumF prod frm f (.mk 7 (tk T k).text 0 [x,y] frm (qan T k') frm) k') (k+1)else .ok (x,k)
def sumM(prod:M Nd):M Nd:=fun k=>bnd prod (sumF T prod (tk T k).frm T.length) k
def funM(expr:M Nd):M Nd:=fun k=>
 bnd (qag T kFun) (fun _=>bnd (qa7 T 1) fun t=>bnd (qag T kArrow) fun _=>bnd expr fun e k'=>.ok (.mk 9 t.text 0 [e] (tk T k).frm (qan T k') t.frm,k')) k
def qbg(expr:M Nd):M (Nat×Pu.Tok×Nd):=
 bnd (qag T kLet) fun _ k=>
  if isT (tk T k) kRec=true then bnd (qa7 T 1) (fun t=>bnd (qag T kEq) fun _=>bnd (funM T expr) fun e k'=>.ok ((11,t,e),k')) (k+1)
  else bnd (qa7 T 1) (fun t=>bnd (qag T kEq) fun _=>bnd expr fun e k'=>.ok ((10,t,e),k')) k
def qdr(expr:M Nd):M Nd:=fun k=>
 bnd (qag T kIf) (fun _=>bnd expr fun a=>bnd (qag T qdo) fun _=>bnd expr fun b=>bnd (qag T qer) fun _=>bnd expr fun c k'=>.ok (.mk 12 kNo 0 [a,b,c] (tk T k).frm (qan T k') (tk T k).frm,k')) k
def qcz(pat expr:M Nd):Nat->List Nd->M (List Nd)
 |0,l=>fun k=>.ok (l,k)|f+1,l=>bnd pat fun p=>bnd (qag T kArrow) fun _=>bnd expr fun e k=>
   if isT (tk T k) kBar=true then qcz pat expr f (l++[p,e]) (k+1)else .ok (l++[p,e],k)
def qel(pat expr:M Nd):M Nd:=fun k=>
 bnd (qag T qbc) (fun _=>bnd expr fun x=>bnd (qag T kWith) fun _=>bnd (qcz T pat expr T.length [x]) fun l=>bnd (qag T kEnd) fun _ k'=>.ok (.mk 13 kNo 0 l (tk T k).frm (qan T k') (tk T k).frm,k')) k
def letM(expr:M Nd):M Nd:=fun k=>
 bnd (qbg T expr) (fun b=>bnd (qag T kIn) fun _=>bnd expr fun f k'=>.ok (.mk b.1 b.2.1.text 0 [b.2.2,f] (tk T k).frm (qan T k') b.2.1.frm,k')) k
def qe8(sum:M Nd):M Nd:=fun k=>
 bnd sum (fun x k1=>if isT (tk T k1) kLess=true then bnd sum (fun y k'=>.ok (.mk 7 kLess 0 [x,y] (tk T k).frm (qan T k') (tk T k).frm,k')) (k1+1)else .ok (x,k1)) k
def qaq:Nat->M Nd
 |0=>qb1 T|n+1=>fun k=>
  if isT (tk T k) kFun=true then funM T (qaq n) k
  else if isT (tk T k) kIf=true then qdr T (qaq n) k
  else if isT (tk T k) qbc=true then qel T (patM T n) (qaq n) k
  else if isT (tk T k) kLet=true then letM T (qaq n) k
  else qe8 T (sumM T (qby T (qbh T (qam T (qaq n) (typM T n) 3)))) k
end
end
section
open Go Go.RowKit
structure NV where
 k:Int
 s:BA
 n:Int
 la:Option Addr
 ll:Nat
 lc:Nat
 f:Int
 t:Int
 a:Int
def NV.v(x:NV):Value:=.agg #[.int .i64 x.k,.string x.s,.int .i64 x.n,.slice x.la x.ll x.lc,.int .i64 x.f,.int .i64 x.t,.int .i64 x.a]
def NV.l(x:NV):List Value:=[.int .i64 x.k,.string x.s,.int .i64 x.n,.slice x.la x.ll x.lc,.int .i64 x.f,.int .i64 x.t,.int .i64 x.a]
def NV.no:NV:=⟨0,⟨#[]⟩,0,none,0,0,0,0,0⟩
def flat(xs:List NV):List Value:=xs.flatMap NV.l
theorem flat_at(xs:List NV)(i j:Nat)(h:i<xs.length)(hj:j<7):(flat xs)[i*7+j]? =(xs[i].l)[j]? :=by
 induction xs generalizing i with
 |nil=>simp at h|cons x xs ih=>
  simp only[flat,List.flatMap_cons]
  cases i with
  |zero=>rw[List.getElem?_append_left (by simp[NV.l];omega)];simp|succ i=>
   rw[List.getElem?_append_right (by simp[NV.l];omega)]
   have:(i+1)*7+j-x.l.length=i*7+j:=by simp[NV.l];omega
   rw[this]
   exact ih i (by simpa using h)
def at7(w:World)(g i:Nat)(x:NV):Prop:=∀j,j<7->w.cell? ⟨g,i*7+j,none⟩=(x.l)[j]?
inductive NR(w:World)(P:Nat->Prop):Nd->NV->Prop where
 |leaf(k:Nat)(s:BA)(n f t a:Nat):NR w P (.mk k s n [] f t a) ⟨k,s,n,none,0,0,f,t,a⟩
 |row(k:Nat)(s:BA)(n:Nat)(L:List Nd)(f t a g cap:Nat)(xs:Nat->NV)(h0:L≠[])(hP:P g)(hz:g<w.heap.size)(hc:∀i,i<L.length->at7 w g i (xs i))(hr:∀i(h:i<L.length),NR w P L[i] (xs i)):
  NR w P (.mk k s n L f t a) ⟨k,s,n,some ⟨g,0,none⟩,L.length,cap,f,t,a⟩
theorem NR.move{w w':World}{P Q:Nat->Prop}{nd:Nd}{x:NV}(h:NR w P nd x)(hs:w.heap.size<=w'.heap.size)(hb:∀b,P b->b<w.heap.size->w'.heap[b]? =w.heap[b]?)(hq:∀b,P b->b<w.heap.size->Q b):NR w' Q nd x:=by
 induction h with
 |leaf k s n f t a=>exact .leaf k s n f t a|row k s n L f t a g cap xs h0 hP hz hc hr ih=>
  refine .row k s n L f t a g cap xs h0 (hq g hP hz) (Nat.lt_of_lt_of_le hz hs) (fun i hi j hj=>?_) ih
  rw[World.cell?_of_block (a:=⟨g,i*7+j,none⟩) (w:=w) (hb g hP hz)]
  exact hc i hi j hj
theorem NR.bel{w w':World}{P:Nat->Prop}{nd:Nd}{x:NV}(h:NR w P nd x)(hb:Below w.heap.size w w'):NR w' P nd x:=h.move hb.size (fun b _ hz=>hb.block b hz) (fun _ p _=>p)
theorem NR.ke{rb:Nat}{w w':World}{P:Nat->Prop}{nd:Nd}{x:NV}(h:NR w P nd x)(hb:Ke rb w w')(hn:∀b,P b->b≠rb):NR w' P nd x:=h.move hb.size (fun b p hz=>hb.block b hz (hn b p)) (fun _ p _=>p)
end
section
open Go Go.RowKit
section
variable {w:World}
abbrev zPt:Array Value:=#[.int .i64 0,.int .i64 0,.string ⟨#[]⟩,.string ⟨#[]⟩]
theorem Bx.set4{w:World}{b:Nat}{C:Array Value}(h:Bx w b C)(hC:C.size=4)(v0 v1 v2 v3:Value):Bx ((((w.setCell ⟨b,0,none⟩ v0).setCell ⟨b,1,none⟩ v1).setCell ⟨b,2,none⟩ v2).setCell ⟨b,3,none⟩ v3) b #[v0,v1,v2,v3]:=by
 obtain⟨a0,a1,a2,a3,rfl⟩:∃a0 a1 a2 a3,C=#[a0,a1,a2,a3]:=by
  obtain⟨l⟩:=C
  match l,hC with
  |[a,b,c,d],_=>exact⟨a,b,c,d,rfl⟩
 exact(((h.setS' 0 v0 #[v0,a1,a2,a3] rfl (by simp)).setS' 1 v1 #[v0,v1,a2,a3] rfl (by simp)).setS' 2 v2 #[v0,v1,v2,a3] rfl (by simp)).setS' 3 v3 #[v0,v1,v2,v3] rfl (by simp)
theorem _root_.Go.RowKit.Below.set4{B:Nat}{a w:World}(h:Below B a w){b:Nat}(hb:B<=b)(v0 v1 v2 v3:Value):Below B a ((((w.setCell ⟨b,0,none⟩ v0).setCell ⟨b,1,none⟩ v1).setCell ⟨b,2,none⟩ v2).setCell ⟨b,3,none⟩ v3):=
 (((h.setCell (p:=⟨b,0,none⟩) hb v0).setCell (p:=⟨b,1,none⟩) hb v1).setCell (p:=⟨b,2,none⟩) hb v2).setCell (p:=⟨b,3,none⟩) hb v3
theorem lowOrWord_C(h:Laid w)(s:BA)(i:Nat)(hi:i<s.size)(hs:s.size<=1000):
 Calls Tryz.prog 288 #[.string s,.int .i64 (i:Int)] w fun e w'=>e=.returned (qbo (if Pu.wordB (s.extract i (Pu.endTo s Pu.nameB i))=true then Pu.mkT s i 5 (Pu.endTo s Pu.nameB i)else Pu.mkT s i 1 (Pu.endTo s Pu.nameB i)))/\Below w.heap.size w w':=by
 have hle:=Pu.endTo_le (s:=s) Pu.nameB (i:=i) (by omega)
 have hge:=Pu.endTo_ge s Pu.nameB i
 have H:=ai (h.bel ((Below.refl w.heap.size w).alloc (br _) (.cells zPt 236)))
 have B0:=ai (Bx.new w zPt 236)
 have HB:=ai ((Below.refl w.heap.size w).alloc (br _) (.cells zPt 236))
 have h1:(i:Int)<=((Pu.endTo s Pu.nameB i:Nat):Int):=by omega
 have h2:((Pu.endTo s Pu.nameB i:Nat):Int)<=(s.size:Int):=by omega
 clear h
 cases hw:Pu.wordB (s.extract i (Pu.endTo s Pu.nameB i))with
 |true=>
  go_enter Tryz.func288,Tryz.ntmps288
  go_wp2_with(first|(go_at_call 285;refine(qej s i _ hs (by omega)).mono ?_;rintro e w'⟨rfl,rfl⟩)|(go_at_call 348;refine(isWord_C (uh H) _).mono ?_;rintro e w'⟨rfl,rfl⟩)|(go_at_call 290;refine(cut_C s i _ _ hge hle hs).mono ?_;rintro e w1⟨rfl,hb⟩;have B1:=ai ((uh B0).below hb);have HB1:=ai ((uh HB).trans (hb.mono (by simp)));obtain⟨c1,f1,y1⟩:=uh B1;clear hb))
  have BF:=ai ((uh B1).set4 rfl (.int .i64 (i:Int)) (.int .i64 ((Pu.endTo s Pu.nameB i:Nat):Int)) (.string (s.extract i (Pu.endTo s Pu.nameB i))) (.string (s.extract i (Pu.endTo s Pu.nameB i))))
  obtain⟨cF,fF,zF⟩:=uh BF
  refine bodyPost_ret (v:=qbo (Pu.mkT s i 5 (Pu.endTo s Pu.nameB i))) (by simp[results,Tryz.results288,go_sem,cF,qbo,Pu.mkT,qaj]) rfl ⟨by simp,(uh HB1).set4 (br _) _ _ _ _⟩
 |false=>
  go_enter Tryz.func288,Tryz.ntmps288
  go_wp2_with(first|(go_at_call 285;refine(qej s i _ hs (by omega)).mono ?_;rintro e w'⟨rfl,rfl⟩)|(go_at_call 348;refine(isWord_C (uh H) _).mono ?_;rintro e w'⟨rfl,rfl⟩)|(go_at_call 290;refine(cut_C s i _ _ hge hle hs).mono ?_;rintro e w1⟨rfl,hb⟩;have B1:=ai ((uh B0).below hb);have HB1:=ai ((uh HB).trans (hb.mono (by simp)));obtain⟨c1,f1,y1⟩:=uh B1;clear hb))
  have BF:=ai ((uh B1).set4 rfl (.int .i64 (i:Int)) (.int .i64 ((Pu.endTo s Pu.nameB i:Nat):Int)) (.string ⟨#[108,111,119,32,110,97,109,101]⟩) (.string (s.extract i (Pu.endTo s Pu.nameB i))))
  obtain⟨cF,fF,zF⟩:=uh BF
  refine bodyPost_ret (v:=qbo (Pu.mkT s i 1 (Pu.endTo s Pu.nameB i))) (by simp[results,Tryz.results288,go_sem,cF,qbo,Pu.mkT,qaj]) rfl ⟨by simp,(uh HB1).set4 (br _) _ _ _ _⟩
def TokPost(t:Pu.Tok)(w:World)(e:Ending)(w':World):Prop:=
 Below w.heap.size w w'/\((t.kind≠6/\e=.returned (qbo t))\/(t.kind=6/\e=.panicked [{v:=.iface 231 (.agg #[.int .i64 2,.int .i64 (t.frm:Int),.int .i64 (t.to:Int)]),recovered:=false}]))
theorem number_C(s:BA)(i:Nat)(hi:i<s.size)(hs:s.size<=1000):
 Calls Tryz.prog 293 #[.string s,.int .i64 (i:Int)] w (TokPost (if Pu.endTo s Pu.digB i-i<=9 then Pu.mkT s i 4 (Pu.endTo s Pu.digB i)else Pu.mkT s i 6 (Pu.endTo s Pu.digB i)) w):=by
 have hle:=Pu.endTo_le (s:=s) Pu.digB (i:=i) (by omega)
 have hge:=Pu.endTo_ge s Pu.digB i
 have B0:=ai (Bx.new w zPt 236)
 have HB:=ai ((Below.refl w.heap.size w).alloc (br _) (.cells zPt 236))
 by_cases hd:Pu.endTo s Pu.digB i-i<=9
 .have h1:¬(9:Int)<((Pu.endTo s Pu.digB i:Nat):Int)-(i:Int):=by omega
  rw[if_pos hd]
  clear hd
  go_enter Tryz.func293,Tryz.ntmps293
  go_wp2_with(first|(go_at_call 285;refine(endDig_any s i _ hs (by omega)).mono ?_;rintro e w'⟨rfl,rfl⟩)|(go_at_call 290;refine(cut_C s i _ _ hge hle hs).mono ?_;rintro e w1⟨rfl,hb⟩;have B1:=ai ((uh B0).below hb);have HB1:=ai ((uh HB).trans (hb.mono (by simp)));obtain⟨c1,f1,y1⟩:=uh B1;clear hb))
  have BF:=ai ((uh B1).set4 rfl (.int .i64 (i:Int)) (.int .i64 ((Pu.endTo s Pu.digB i:Nat):Int)) (.string ⟨#[97,32,110,117,109,98,101,114]⟩) (.string (s.extract i (Pu.endTo s Pu.digB i))))
  obtain⟨cF,fF,zF⟩:=uh BF
  exact bodyPost_ret (v:=qbo (Pu.mkT s i 4 (Pu.endTo s Pu.digB i))) (by simp[results,Tryz.results293,go_sem,cF,qbo,Pu.mkT,qaj]) rfl ⟨(uh HB1).set4 (br _) _ _ _ _,Or.inl ⟨by simp[Pu.mkT],rfl⟩⟩
 .have h1:(9:Int)<((Pu.endTo s Pu.digB i:Nat):Int)-(i:Int):=by omega
  rw[if_neg hd]
  clear hd
  go_enter Tryz.func293,Tryz.ntmps293
  go_wp2_with(first|(go_at_call 285;refine(endDig_any s i _ hs (by omega)).mono ?_;rintro e w'⟨rfl,rfl⟩)|(go_at_call 349;refine(noToken_C _ _).mono ?_;rintro e w1⟨rfl,hb⟩;have HB1:=ai ((uh HB).trans (hb.mono (by simp)));clear hb))
  exact⟨rfl,uh HB1,Or.inr ⟨rfl,rfl⟩⟩
def varTok(s:BA)(i:Nat):Pu.Tok:=
 if Pu.lowB (Pu.at_ s (i+1))=true then(if Pu.wordB (s.extract (i+1) (Pu.endTo s Pu.nameB (i+1)))=true then Pu.mkT s i 6 (Pu.endTo s Pu.nameB (i+1))else Pu.mkT s i 3 (Pu.endTo s Pu.nameB (i+1)))else Pu.mkT s i 6 (i+1)
theorem var_C(h:Laid w)(s:BA)(i:Nat)(hi:i<s.size)(hs:s.size<=1000):
 Calls Tryz.prog 294 #[.string s,.int .i64 (i:Int)] w (TokPost (varTok s i) w):=by
 have B0:=ai (Bx.new w zPt 236)
 have HB:=ai ((Below.refl w.heap.size w).alloc (br _) (.cells zPt 236))
 have H:=ai (h.bel (uh HB))
 clear h
 by_cases hn:i+1<s.size
 .have he:(((i:Int)+1)==(s.size:Int))=false:=by simp;omega
  have hat:Pu.at_ s (i+1)=s[i+1].toNat:=Pu.at_lt hn
  cases hlo:Pu.lowB s[i+1].toNat with
  |false=>
   have ht:varTok s i=Pu.mkT s i 6 (i+1):=by unfold varTok;rw[hat,hlo];simp
   rw[ht]
   clear ht hat
   go_enter Tryz.func294,Tryz.ntmps294
   go_wp2_with(first|(go_at_call 287;refine(qcn _ _).mono ?_;rintro e w'⟨rfl,rfl⟩)|(go_at_call 349;refine(noToken_C _ _).mono ?_;rintro e w1⟨rfl,hb⟩;have HB1:=ai ((uh HB).trans (hb.mono (by simp)));clear hb))
   exact⟨rfl,uh HB1,Or.inr ⟨rfl,rfl⟩⟩
  |true=>
   have hle:=Pu.endTo_le (s:=s) Pu.nameB (i:=i+1) (by omega)
   have hge:=Pu.endTo_ge s Pu.nameB (i+1)
   have h1:(i:Int)+1<=((Pu.endTo s Pu.nameB (i+1):Nat):Int):=by omega
   have h2:((Pu.endTo s Pu.nameB (i+1):Nat):Int)<=(s.size:Int):=by omega
   cases hw:Pu.wordB (s.extract (i+1) (Pu.endTo s Pu.nameB (i+1)))with
   |true=>
    have ht:varTok s i=Pu.mkT s i 6 (Pu.endTo s Pu.nameB (i+1)):=by unfold varTok;rw[hat,hlo,hw];simp
    rw[ht]
    clear ht hat
    go_enter Tryz.func294,Tryz.ntmps294
    go_wp2_with(first|(go_at_call 287;refine(qcn _ _).mono ?_;rintro e w'⟨rfl,rfl⟩)|(go_at_call 285;refine(qej s (i+1) _ hs (by omega)).mono ?_;rintro e w'⟨rfl,rfl⟩)|(go_at_call 348;refine(isWord_C (uh H) _).mono ?_;rintro e w'⟨rfl,rfl⟩)|(go_at_call 349;refine(noToken_C _ _).mono ?_;rintro e w1⟨rfl,hb⟩;have HB1:=ai ((uh HB).trans (hb.mono (by simp)));clear hb))
    exact⟨rfl,uh HB1,Or.inr ⟨rfl,rfl⟩⟩
   |false=>
    have ht:varTok s i=Pu.mkT s i 3 (Pu.endTo s Pu.nameB (i+1)):=by unfold varTok;rw[hat,hlo,hw];simp
    rw[ht]
    clear ht hat
    go_enter Tryz.func294,Tryz.ntmps294
    go_wp2_with(first|(go_at_call 287;refine(qcn _ _).mono ?_;rintro e w'⟨rfl,rfl⟩)|(go_at_call 285;refine(qej s (i+1) _ hs (by omega)).mono ?_;rintro e w'⟨rfl,rfl⟩)|(go_at_call 348;refine(isWord_C (uh H) _).mono ?_;rintro e w'⟨rfl,rfl⟩)|(go_at_call 290;refine(cut_C s i _ _ (by omega) hle hs).mono ?_;rintro e w1⟨rfl,hb⟩;have B1:=ai ((uh B0).below hb);have HB1:=ai ((uh HB).trans (hb.mono (by simp)));obtain⟨c1,f1,y1⟩:=uh B1;clear hb))
    have BF:=ai ((uh B1).set4 rfl (.int .i64 (i:Int)) (.int .i64 ((Pu.endTo s Pu.nameB (i+1):Nat):Int)) (.string ⟨#[97,32,118,97,114,105,97,98,108,101]⟩) (.string (s.extract i (Pu.endTo s Pu.nameB (i+1)))))
    obtain⟨cF,fF,zF⟩:=uh BF
    exact bodyPost_ret (v:=qbo (Pu.mkT s i 3 (Pu.endTo s Pu.nameB (i+1)))) (by simp[results,Tryz.results294,go_sem,cF,qbo,Pu.mkT,qaj]) rfl ⟨(uh HB1).set4 (br _) _ _ _ _,Or.inl ⟨by simp[Pu.mkT],rfl⟩⟩
 .have he:(((i:Int)+1)==(s.size:Int))=true:=by simp;omega
  have ht:varTok s i=Pu.mkT s i 6 (i+1):=by
   unfold varTok
   rw[Pu.at_ge (by omega)]
   rfl
  rw[ht]
  clear ht
  go_enter Tryz.func294,Tryz.ntmps294
  go_wp2_with(first|(go_at_call 349;refine(noToken_C _ _).mono ?_;rintro e w1⟨rfl,hb⟩;have HB1:=ai ((uh HB).trans (hb.mono (by simp)));clear hb))
  exact⟨rfl,uh HB1,Or.inr ⟨rfl,rfl⟩⟩
end
end
section
open Go Go.RowKit
def preB(s p:BA):Bool:=decide (p.size<=s.size)&&((s.extract 0 p.size).toList==p.toList)
def hit(s:BA)(i k:Nat):Bool:=
 if k=0 then(Pu.at_ s i==45&&Pu.at_ s (i+1)==62)else Pu.at_ s i==((qac k)[0]!).toNat
def sgnTok(s:BA)(i:Nat):Pu.Tok:=
 if Pu.at_ s i=45/\Pu.at_ s (i+1)=62 then Pu.mkT s i 5 (i+2)
 else if Pu.signB (Pu.at_ s i)=true then Pu.mkT s i 5 (i+1)else Pu.mkT s i 6 (i+1)
theorem toList_injP{a b:BA}(h:(a.toList==b.toList)=true):a=b:=by
 rw[beq_iff_eq,ByteArray.toList_eq,ByteArray.toList_eq]at h
 exact ByteArray.ext (Array.toList_inj.1 h)
theorem ext1{s:BA}{i:Nat}(h:i<s.size):s.extract i (i+1)=⟨#[s[i]]⟩:=by
 apply ByteArray.ext
 apply Array.ext
 .simp;omega
 .intro j h1 h2
  have:j=0:=by simp at h2;omega
  subst this
  simp[ByteArray.data_extract];rfl
theorem ext2{s:BA}{i:Nat}(h:i+1<s.size):s.extract i (i+2)=⟨#[s[i],s[i+1]]⟩:=by
 apply ByteArray.ext
 apply Array.ext
 .simp;omega
 .intro j h1 h2
  have:j=0\/j=1:=by simp at h2;omega
  rcases this with rfl|rfl
  .simp[ByteArray.data_extract];rfl
  .simp[ByteArray.data_extract];rfl
theorem pre1{s:BA}{i:Nat}(hi:i<s.size)(c:UInt8):preB (s.extract i s.size) ⟨#[c]⟩=(Pu.at_ s i==c.toNat):=by
 have hz:(⟨#[c]⟩:BA).size=1:=rfl
 unfold preB
 rw[hz,ByteArray.extract_extract,show min (i+1) s.size=i+1 by omega,Nat.add_zero,ext1 hi,Pu.at_lt hi,ByteArray.size_extract]
 rw[decide_eq_true (by omega),Bool.true_and,Bool.eq_iff_iff]
 constructor
 .intro h
  have:=congrArg (fun b:BA=>b.data) (toList_injP h)
  simp at this
  simp[this]
 .intro h
  rw[beq_iff_eq]at h
  rw[UInt8.toNat_inj.1 h]
  simp
theorem pre2{s:BA}{i:Nat}(hi:i<s.size)(c d:UInt8):preB (s.extract i s.size) ⟨#[c,d]⟩=(Pu.at_ s i==c.toNat&&Pu.at_ s (i+1)==d.toNat):=by
 have hz:(⟨#[c,d]⟩:BA).size=2:=rfl
 unfold preB
 rw[hz]
 by_cases hn:i+1<s.size
 .rw[ByteArray.extract_extract,show min (i+2) s.size=i+2 by omega,Nat.add_zero,ext2 hn,Pu.at_lt hi,Pu.at_lt hn,ByteArray.size_extract]
  rw[decide_eq_true (by omega),Bool.true_and,Bool.eq_iff_iff]
  constructor
  .intro h
   have:=congrArg (fun b:BA=>b.data) (toList_injP h)
   simp at this
   simp[this]
  .intro h
   rw[Bool.and_eq_true,beq_iff_eq,beq_iff_eq]at h
   rw[UInt8.toNat_inj.1 h.1,UInt8.toNat_inj.1 h.2]
   simp
 .rw[ByteArray.size_extract,decide_eq_false (by omega),Pu.at_ge (s:=s) (i:=i+1) (by omega)]
  have:(256==d.toNat)=false:=by have:=UInt8.toNat_lt d;simp;omega
  rw[this];simp
theorem pre_hit{s:BA}{i:Nat}(hi:i<s.size):∀k,k<13->preB (s.extract i s.size) (qac k)=hit s i k
 |0,_=>pre2 hi 45 62|1,_=>pre1 hi _|2,_=>pre1 hi _|3,_=>pre1 hi _|4,_=>pre1 hi _|5,_=>pre1 hi _|6,_=>pre1 hi _|7,_=>pre1 hi _|8,_=>pre1 hi _|9,_=>pre1 hi _|10,_=>pre1 hi _|11,_=>pre1 hi _|12,_=>pre1 hi _|k+13,h=>absurd h (by omega)
theorem sgn_at{s:BA}{i:Nat}:∀k,0<k->k<13->(∀j,j<k->hit s i j=false)->hit s i k=true->sgnTok s i=Pu.mkT s i 5 (i+1):=by
 intro k h0 hk hno hh
 unfold sgnTok
 have n0:=hno 0 h0
 rw[if_neg (by intro q;simp[hit,q.1,q.2]at n0)]
 have:Pu.signB (Pu.at_ s i)=true:=by
  have hc:k=1\/k=2\/k=3\/k=4\/k=5\/k=6\/k=7\/k=8\/k=9\/k=10\/k=11\/k=12:=by omega
  unfold hit at hh
  rw[if_neg (by omega),beq_iff_eq]at hh
  rw[hh]
  rcases hc with rfl|rfl|rfl|rfl|rfl|rfl|rfl|rfl|rfl|rfl|rfl|rfl<;>decide
 rw[if_pos this]
theorem sgn_0{s:BA}{i:Nat}(h:hit s i 0=true):sgnTok s i=Pu.mkT s i 5 (i+2):=by
 unfold sgnTok
 rw[if_pos (by simpa[hit]using h)]
theorem sgn_no{s:BA}{i:Nat}(h:∀j,j<13->hit s i j=false):sgnTok s i=Pu.mkT s i 6 (i+1):=by
 unfold sgnTok
 have n0:=h 0 (by omega)
 rw[if_neg (by intro q;simp[hit,q.1,q.2]at n0)]
 have:Pu.signB (Pu.at_ s i)=false:=by
  unfold Pu.signB
  rw[List.any_eq_false]
  intro x hx
  simp only[List.mem_cons,List.not_mem_nil,or_false]at hx
  intro q
  rw[beq_iff_eq]at q
  have H:∀k,0<k->k<13->((qac k)[0]!).toNat=x->False:=fun k h0 hk e=>by
   have:=h k hk
   unfold hit at this
   rw[if_neg (by omega),e,q]at this
   simp at this
  rcases hx with rfl|rfl|rfl|rfl|rfl|rfl|rfl|rfl|rfl|rfl|rfl|rfl
  .exact H 1 (by omega) (by omega) rfl
  .exact H 2 (by omega) (by omega) rfl
  .exact H 3 (by omega) (by omega) rfl
  .exact H 4 (by omega) (by omega) rfl
  .exact H 5 (by omega) (by omega) rfl
  .exact H 6 (by omega) (by omega) rfl
  .exact H 7 (by omega) (by omega) rfl
  .exact H 8 (by omega) (by omega) rfl
  .exact H 9 (by omega) (by omega) rfl
  .exact H 10 (by omega) (by omega) rfl
  .exact H 11 (by omega) (by omega) rfl
  .exact H 12 (by omega) (by omega) rfl
 rw[this]
 rfl
theorem qcu{s:BA}{i k:Nat}(hi:i<s.size)(hk:k<13)(h:hit s i k=true):i+(qac k).size<=s.size/\s.extract i (i+(qac k).size)=qac k:=by
 rw[<-pre_hit hi k hk]at h
 unfold preB at h
 rw[Bool.and_eq_true,decide_eq_true_iff,ByteArray.size_extract]at h
 have hz:i+(qac k).size<=s.size:=by omega
 refine⟨hz,?_⟩
 have:=toList_injP h.2
 rwa[ByteArray.extract_extract,Nat.add_zero,Nat.min_eq_left hz]at this
section
variable {w:World}
theorem lite_C(s p:BA)(hs:s.size<=1000)(hp:p.size<=2):Calls Tryz.prog 374 #[.string s,.string p] w fun e w'=>e=.returned (.bool (preB s p))/\w'=w:=by
 by_cases h:p.size<=s.size
 .have h1:(p.size:Int)<=(s.size:Int):=by omega
  have hz:decide (p.size<=s.size)=true:=by simp[h]
  go_enter Tryz.func374,Tryz.ntmps374
  go_wp2_with fail
  go_ret
  exact⟨qbb (by simp[preB,hz]),rfl⟩
 .have h1:¬(p.size:Int)<=(s.size:Int):=by omega
  have hz:decide (p.size<=s.size)=false:=by simp;omega
  go_enter Tryz.func374,Tryz.ntmps374
  go_wp2_with fail
  go_ret
  exact⟨qbb (by simp[preB,hz]),rfl⟩
theorem prefix_C(s p:BA)(hs:s.size<=1000)(hp:p.size<=2):Calls Tryz.prog 350 #[.string s,.string p] w fun e w'=>e=.returned (.bool (preB s p))/\w'=w:=by
 go_enter Tryz.func350,Tryz.ntmps350
 go_wp2_with(go_at_call 374;refine(lite_C s p hs hp).mono ?_;rintro e w'⟨rfl,rfl⟩)
 go_ret
 exact⟨qbb rfl,rfl⟩
theorem qa8(s:BA)(i k:Nat)(hi:i<s.size)(hs:s.size<=1000)(hk:k<13)(hz:(qac k).size<=2):Calls Tryz.prog 350 #[.string (s.extract i s.size),.string (qac k)] w fun e w'=>e=.returned (.bool (hit s i k))/\w'=w:=by
 rw[<-pre_hit hi k hk]
 exact prefix_C _ _ (by rw[ByteArray.size_extract];omega) hz
theorem sign_C(h:Laid w)(s:BA)(i:Nat)(hi:i<s.size)(hs:s.size<=1000):
 Calls Tryz.prog 295 #[.string s,.int .i64 (i:Int)] w (TokPost (sgnTok s i) w):=by
 have B0:=ai (Bx.new w zPt 236)
 have HB:=ai ((Below.refl w.heap.size w).alloc (br _) (.cells zPt 236))
 have H:=h.bel (uh HB)
 have hi1:(i:Int)<=(s.size:Int):=by omega
 have g0:=H.signs 0 (by omega)
 have g1:=H.signs 1 (by omega)
 have g2:=H.signs 2 (by omega)
 have g3:=H.signs 3 (by omega)
 have g4:=H.signs 4 (by omega)
 have g5:=H.signs 5 (by omega)
 have g6:=H.signs 6 (by omega)
 have g7:=H.signs 7 (by omega)
 have g8:=H.signs 8 (by omega)
 have g9:=H.signs 9 (by omega)
 have g10:=H.signs 10 (by omega)
 have g11:=H.signs 11 (by omega)
 have g12:=H.signs 12 (by omega)
 clear h H
 go_enter Tryz.func295,Tryz.ntmps295
 go_wp2_with fail
 go_loop[8] (fun v=>∃j:Nat,j<=13/\v=.int .i64 (j:Int)/\Hid (∀m,m<j->hit s i m=false)) (fun v=>13-(intOf v).toNat)
 case atStart=>exact⟨0,by omega,rfl,fun i h=>by omega⟩
 case round=>
  obtain⟨j,hj,rfl,hno⟩:=hrel
  by_cases hlt:j<13
  .have hcase:j=0\/j=1\/j=2\/j=3\/j=4\/j=5\/j=6\/j=7\/j=8\/j=9\/j=10\/j=11\/j=12:=by omega
   rcases hcase with rfl|rfl|rfl|rfl|rfl|rfl|rfl|rfl|rfl|rfl|rfl|rfl|rfl
   .have hix:=idx13_0 (qac 0) (qac 1) (qac 2) (qac 3) (qac 4) (qac 5) (qac 6) (qac 7) (qac 8) (qac 9) (qac 10) (qac 11) (qac 12)
    have hz:(qac 0).size=2:=rfl
    cases he:hit s i 0 with
    |true=>
     have ht:=ai (sgn_0 he)
     have hx:=qcu hi (by omega) he
     rw[hz]at hx
     have hle:=hx.1
     have hxe:=ai hx.2
     clear hx
     go_wp2_with(first|(go_at_call 350;refine(qa8 s i 0 hi hs (by omega) (by omega)).mono ?_;rintro e w'⟨rfl,rfl⟩)|(go_at_call 290;refine(cut_C s i (i+2) _ (by omega) hle hs).mono ?_;rintro e w1⟨rfl,hb⟩;have B1:=ai ((uh B0).below hb);have HB1:=ai ((uh HB).trans (hb.mono (by simp)));obtain⟨c1,f1,y1⟩:=uh B1;clear hb))
     have BF:=ai ((uh B1).set4 rfl (.int .i64 (i:Int)) (.int .i64 ((i:Int)+2)) (.string (qac 0)) (.string (s.extract i (i+2))))
     obtain⟨cF,fF,zF⟩:=uh BF
     rw[uh ht]
     refine bodyPost_ret (v:=qbo (Pu.mkT s i 5 (i+2))) ?_ rfl ⟨(uh HB1).set4 (br _) _ _ _ _,Or.inl ⟨by simp[Pu.mkT],rfl⟩⟩
     have hk:qaj (Pu.mkT s i 5 (i+2))=qac 0:=uh hxe
     simp only[qbo,hk]
     simp[results,Tryz.results295,go_sem,cF,Pu.mkT]
    |false=>
     have hn2:Hid (∀m,m<1->hit s i m=false):=fun m hm=>by
      by_cases e:m=0
      .subst e;exact he
      .exact uh hno m (by omega)
     go_wp2_with(go_at_call 350;refine(qa8 s i 0 hi hs (by omega) (by omega)).mono ?_;rintro e w'⟨rfl,rfl⟩)
     go_round
     case rel=>exact⟨1,by omega,by go_num,hn2⟩
     case measure=>simp[intOf]
   .have hix:=idx13_1 (qac 0) (qac 1) (qac 2) (qac 3) (qac 4) (qac 5) (qac 6) (qac 7) (qac 8) (qac 9) (qac 10) (qac 11) (qac 12)
    have hz:(qac 1).size=1:=rfl
    cases he:hit s i 1 with
    |true=>
     have ht:=ai (sgn_at 1 (by omega) (by omega) (uh hno) he)
     have hx:=qcu hi (by omega) he
     rw[hz]at hx
     have hle:=hx.1
     have hxe:=ai hx.2
     clear hx
     go_wp2_with(first|(go_at_call 350;refine(qa8 s i 1 hi hs (by omega) (by omega)).mono ?_;rintro e w'⟨rfl,rfl⟩)|(go_at_call 290;refine(cut_C s i (i+1) _ (by omega) hle hs).mono ?_;rintro e w1⟨rfl,hb⟩;have B1:=ai ((uh B0).below hb);have HB1:=ai ((uh HB).trans (hb.mono (by simp)));obtain⟨c1,f1,y1⟩:=uh B1;clear hb))
     have BF:=ai ((uh B1).set4 rfl (.int .i64 (i:Int)) (.int .i64 ((i:Int)+1)) (.string (qac 1)) (.string (s.extract i (i+1))))
     obtain⟨cF,fF,zF⟩:=uh BF
     rw[uh ht]
     refine bodyPost_ret (v:=qbo (Pu.mkT s i 5 (i+1))) ?_ rfl ⟨(uh HB1).set4 (br _) _ _ _ _,Or.inl ⟨by simp[Pu.mkT],rfl⟩⟩
     have hk:qaj (Pu.mkT s i 5 (i+1))=qac 1:=uh hxe
     simp only[qbo,hk]
     simp[results,Tryz.results295,go_sem,cF,Pu.mkT]
    |false=>
     have hn2:Hid (∀m,m<2->hit s i m=false):=fun m hm=>by
      by_cases e:m=1
      .subst e;exact he
      .exact uh hno m (by omega)
     go_wp2_with(go_at_call 350;refine(qa8 s i 1 hi hs (by omega) (by omega)).mono ?_;rintro e w'⟨rfl,rfl⟩)
     go_round
     case rel=>exact⟨2,by omega,by go_num,hn2⟩
     case measure=>simp[intOf]
   .have hix:=idx13_2 (qac 0) (qac 1) (qac 2) (qac 3) (qac 4) (qac 5) (qac 6) (qac 7) (qac 8) (qac 9) (qac 10) (qac 11) (qac 12)
    have hz:(qac 2).size=1:=rfl
    cases he:hit s i 2 with
    |true=>
     have ht:=ai (sgn_at 2 (by omega) (by omega) (uh hno) he)
     have hx:=qcu hi (by omega) he
     rw[hz]at hx
     have hle:=hx.1
     have hxe:=ai hx.2
     clear hx
     go_wp2_with(first|(go_at_call 350;refine(qa8 s i 2 hi hs (by omega) (by omega)).mono ?_;rintro e w'⟨rfl,rfl⟩)|(go_at_call 290;refine(cut_C s i (i+1) _ (by omega) hle hs).mono ?_;rintro e w1⟨rfl,hb⟩;have B1:=ai ((uh B0).below hb);have HB1:=ai ((uh HB).trans (hb.mono (by simp)));obtain⟨c1,f1,y1⟩:=uh B1;clear hb))
     have BF:=ai ((uh B1).set4 rfl (.int .i64 (i:Int)) (.int .i64 ((i:Int)+1)) (.string (qac 2)) (.string (s.extract i (i+1))))
     obtain⟨cF,fF,zF⟩:=uh BF
     rw[uh ht]
     refine bodyPost_ret (v:=qbo (Pu.mkT s i 5 (i+1))) ?_ rfl ⟨(uh HB1).set4 (br _) _ _ _ _,Or.inl ⟨by simp[Pu.mkT],rfl⟩⟩
     have hk:qaj (Pu.mkT s i 5 (i+1))=qac 2:=uh hxe
     simp only[qbo,hk]
     simp[results,Tryz.results295,go_sem,cF,Pu.mkT]
    |false=>
     have hn2:Hid (∀m,m<3->hit s i m=false):=fun m hm=>by
      by_cases e:m=2
      .subst e;exact he
      .exact uh hno m (by omega)
     go_wp2_with(go_at_call 350;refine(qa8 s i 2 hi hs (by omega) (by omega)).mono ?_;rintro e w'⟨rfl,rfl⟩)
     go_round
     case rel=>exact⟨3,by omega,by go_num,hn2⟩
     case measure=>simp[intOf]
   .have hix:=idx13_3 (qac 0) (qac 1) (qac 2) (qac 3) (qac 4) (qac 5) (qac 6) (qac 7) (qac 8) (qac 9) (qac 10) (qac 11) (qac 12)
    have hz:(qac 3).size=1:=rfl
    cases he:hit s i 3 with
    |true=>
     have ht:=ai (sgn_at 3 (by omega) (by omega) (uh hno) he)
     have hx:=qcu hi (by omega) he
     rw[hz]at hx
     have hle:=hx.1
     have hxe:=ai hx.2
     clear hx
     go_wp2_with(first|(go_at_call 350;refine(qa8 s i 3 hi hs (by omega) (by omega)).mono ?_;rintro e w'⟨rfl,rfl⟩)|(go_at_call 290;refine(cut_C s i (i+1) _ (by omega) hle hs).mono ?_;rintro e w1⟨rfl,hb⟩;have B1:=ai ((uh B0).below hb);have HB1:=ai ((uh HB).trans (hb.mono (by simp)));obtain⟨c1,f1,y1⟩:=uh B1;clear hb))
     have BF:=ai ((uh B1).set4 rfl (.int .i64 (i:Int)) (.int .i64 ((i:Int)+1)) (.string (qac 3)) (.string (s.extract i (i+1))))
     obtain⟨cF,fF,zF⟩:=uh BF
     rw[uh ht]
     refine bodyPost_ret (v:=qbo (Pu.mkT s i 5 (i+1))) ?_ rfl ⟨(uh HB1).set4 (br _) _ _ _ _,Or.inl ⟨by simp[Pu.mkT],rfl⟩⟩
     have hk:qaj (Pu.mkT s i 5 (i+1))=qac 3:=uh hxe
     simp only[qbo,hk]
     simp[results,Tryz.results295,go_sem,cF,Pu.mkT]
    |false=>
     have hn2:Hid (∀m,m<4->hit s i m=false):=fun m hm=>by
      by_cases e:m=3
      .subst e;exact he
      .exact uh hno m (by omega)
     go_wp2_with(go_at_call 350;refine(qa8 s i 3 hi hs (by omega) (by omega)).mono ?_;rintro e w'⟨rfl,rfl⟩)
     go_round
     case rel=>exact⟨4,by omega,by go_num,hn2⟩
     case measure=>simp[intOf]
   .have hix:=idx13_4 (qac 0) (qac 1) (qac 2) (qac 3) (qac 4) (qac 5) (qac 6) (qac 7) (qac 8) (qac 9) (qac 10) (qac 11) (qac 12)
    have hz:(qac 4).size=1:=rfl
    cases he:hit s i 4 with
    |true=>
     have ht:=ai (sgn_at 4 (by omega) (by omega) (uh hno) he)
     have hx:=qcu hi (by omega) he
     rw[hz]at hx
     have hle:=hx.1
     have hxe:=ai hx.2
     clear hx
     go_wp2_with(first|(go_at_call 350;refine(qa8 s i 4 hi hs (by omega) (by omega)).mono ?_;rintro e w'⟨rfl,rfl⟩)|(go_at_call 290;refine(cut_C s i (i+1) _ (by omega) hle hs).mono ?_;rintro e w1⟨rfl,hb⟩;have B1:=ai ((uh B0).below hb);have HB1:=ai ((uh HB).trans (hb.mono (by simp)));obtain⟨c1,f1,y1⟩:=uh B1;clear hb))
     have BF:=ai ((uh B1).set4 rfl (.int .i64 (i:Int)) (.int .i64 ((i:Int)+1)) (.string (qac 4)) (.string (s.extract i (i+1))))
     obtain⟨cF,fF,zF⟩:=uh BF
     rw[uh ht]
     refine bodyPost_ret (v:=qbo (Pu.mkT s i 5 (i+1))) ?_ rfl ⟨(uh HB1).set4 (br _) _ _ _ _,Or.inl ⟨by simp[Pu.mkT],rfl⟩⟩
     have hk:qaj (Pu.mkT s i 5 (i+1))=qac 4:=uh hxe
     simp only[qbo,hk]
     simp[results,Tryz.results295,go_sem,cF,Pu.mkT]
    |false=>
     have hn2:Hid (∀m,m<5->hit s i m=false):=fun m hm=>by
      by_cases e:m=4
      .subst e;exact he
      .exact uh hno m (by omega)
     go_wp2_with(go_at_call 350;refine(qa8 s i 4 hi hs (by omega) (by omega)).mono ?_;rintro e w'⟨rfl,rfl⟩)
     go_round
     case rel=>exact⟨5,by omega,by go_num,hn2⟩
     case measure=>simp[intOf]
   .have hix:=idx13_5 (qac 0) (qac 1) (qac 2) (qac 3) (qac 4) (qac 5) (qac 6) (qac 7) (qac 8) (qac 9) (qac 10) (qac 11) (qac 12)
    have hz:(qac 5).size=1:=rfl
    cases he:hit s i 5 with
    |true=>
     have ht:=ai (sgn_at 5 (by omega) (by omega) (uh hno) he)
     have hx:=qcu hi (by omega) he
     rw[hz]at hx
     have hle:=hx.1
     have hxe:=ai hx.2
     clear hx
     go_wp2_with(first|(go_at_call 350;refine(qa8 s i 5 hi hs (by omega) (by omega)).mono ?_;rintro e w'⟨rfl,rfl⟩)|(go_at_call 290;refine(cut_C s i (i+1) _ (by omega) hle hs).mono ?_;rintro e w1⟨rfl,hb⟩;have B1:=ai ((uh B0).below hb);have HB1:=ai ((uh HB).trans (hb.mono (by simp)));obtain⟨c1,f1,y1⟩:=uh B1;clear hb))
     have BF:=ai ((uh B1).set4 rfl (.int .i64 (i:Int)) (.int .i64 ((i:Int)+1)) (.string (qac 5)) (.string (s.extract i (i+1))))
     obtain⟨cF,fF,zF⟩:=uh BF
     rw[uh ht]
     refine bodyPost_ret (v:=qbo (Pu.mkT s i 5 (i+1))) ?_ rfl ⟨(uh HB1).set4 (br _) _ _ _ _,Or.inl ⟨by simp[Pu.mkT],rfl⟩⟩
     have hk:qaj (Pu.mkT s i 5 (i+1))=qac 5:=uh hxe
     simp only[qbo,hk]
     simp[results,Tryz.results295,go_sem,cF,Pu.mkT]
    |false=>
     have hn2:Hid (∀m,m<6->hit s i m=false):=fun m hm=>by
      by_cases e:m=5
      .subst e;exact he
      .exact uh hno m (by omega)
     go_wp2_with(go_at_call 350;refine(qa8 s i 5 hi hs (by omega) (by omega)).mono ?_;rintro e w'⟨rfl,rfl⟩)
     go_round
     case rel=>exact⟨6,by omega,by go_num,hn2⟩
     case measure=>simp[intOf]
   .have hix:=idx13_6 (qac 0) (qac 1) (qac 2) (qac 3) (qac 4) (qac 5) (qac 6) (qac 7) (qac 8) (qac 9) (qac 10) (qac 11) (qac 12)
    have hz:(qac 6).size=1:=rfl
    cases he:hit s i 6 with
    |true=>
     have ht:=ai (sgn_at 6 (by omega) (by omega) (uh hno) he)
     have hx:=qcu hi (by omega) he
     rw[hz]at hx
     have hle:=hx.1
     have hxe:=ai hx.2
     clear hx
     go_wp2_with(first|(go_at_call 350;refine(qa8 s i 6 hi hs (by omega) (by omega)).mono ?_;rintro e w'⟨rfl,rfl⟩)|(go_at_call 290;refine(cut_C s i (i+1) _ (by omega) hle hs).mono ?_;rintro e w1⟨rfl,hb⟩;have B1:=ai ((uh B0).below hb);have HB1:=ai ((uh HB).trans (hb.mono (by simp)));obtain⟨c1,f1,y1⟩:=uh B1;clear hb))
     have BF:=ai ((uh B1).set4 rfl (.int .i64 (i:Int)) (.int .i64 ((i:Int)+1)) (.string (qac 6)) (.string (s.extract i (i+1))))
     obtain⟨cF,fF,zF⟩:=uh BF
     rw[uh ht]
     refine bodyPost_ret (v:=qbo (Pu.mkT s i 5 (i+1))) ?_ rfl ⟨(uh HB1).set4 (br _) _ _ _ _,Or.inl ⟨by simp[Pu.mkT],rfl⟩⟩
     have hk:qaj (Pu.mkT s i 5 (i+1))=qac 6:=uh hxe
     simp only[qbo,hk]
     simp[results,Tryz.results295,go_sem,cF,Pu.mkT]
    |false=>
     have hn2:Hid (∀m,m<7->hit s i m=false):=fun m hm=>by
      by_cases e:m=6
      .subst e;exact he
      .exact uh hno m (by omega)
     go_wp2_with(go_at_call 350;refine(qa8 s i 6 hi hs (by omega) (by omega)).mono ?_;rintro e w'⟨rfl,rfl⟩)
     go_round
     case rel=>exact⟨7,by omega,by go_num,hn2⟩
     case measure=>simp[intOf]
   .have hix:=idx13_7 (qac 0) (qac 1) (qac 2) (qac 3) (qac 4) (qac 5) (qac 6) (qac 7) (qac 8) (qac 9) (qac 10) (qac 11) (qac 12)
    have hz:(qac 7).size=1:=rfl
    cases he:hit s i 7 with
    |true=>
     have ht:=ai (sgn_at 7 (by omega) (by omega) (uh hno) he)
     have hx:=qcu hi (by omega) he
     rw[hz]at hx
     have hle:=hx.1
     have hxe:=ai hx.2
     clear hx
     go_wp2_with(first|(go_at_call 350;refine(qa8 s i 7 hi hs (by omega) (by omega)).mono ?_;rintro e w'⟨rfl,rfl⟩)|(go_at_call 290;refine(cut_C s i (i+1) _ (by omega) hle hs).mono ?_;rintro e w1⟨rfl,hb⟩;have B1:=ai ((uh B0).below hb);have HB1:=ai ((uh HB).trans (hb.mono (by simp)));obtain⟨c1,f1,y1⟩:=uh B1;clear hb))
     have BF:=ai ((uh B1).set4 rfl (.int .i64 (i:Int)) (.int .i64 ((i:Int)+1)) (.string (qac 7)) (.string (s.extract i (i+1))))
     obtain⟨cF,fF,zF⟩:=uh BF
     rw[uh ht]
     refine bodyPost_ret (v:=qbo (Pu.mkT s i 5 (i+1))) ?_ rfl ⟨(uh HB1).set4 (br _) _ _ _ _,Or.inl ⟨by simp[Pu.mkT],rfl⟩⟩
     have hk:qaj (Pu.mkT s i 5 (i+1))=qac 7:=uh hxe
     simp only[qbo,hk]
     simp[results,Tryz.results295,go_sem,cF,Pu.mkT]
    |false=>
     have hn2:Hid (∀m,m<8->hit s i m=false):=fun m hm=>by
      by_cases e:m=7
      .subst e;exact he
      .exact uh hno m (by omega)
     go_wp2_with(go_at_call 350;refine(qa8 s i 7 hi hs (by omega) (by omega)).mono ?_;rintro e w'⟨rfl,rfl⟩)
     go_round
     case rel=>exact⟨8,by omega,by go_num,hn2⟩
     case measure=>simp[intOf]
   .have hix:=idx13_8 (qac 0) (qac 1) (qac 2) (qac 3) (qac 4) (qac 5) (qac 6) (qac 7) (qac 8) (qac 9) (qac 10) (qac 11) (qac 12)
    have hz:(qac 8).size=1:=rfl
    cases he:hit s i 8 with
    |true=>
     have ht:=ai (sgn_at 8 (by omega) (by omega) (uh hno) he)
     have hx:=qcu hi (by omega) he
     rw[hz]at hx
     have hle:=hx.1
     have hxe:=ai hx.2
     clear hx
     go_wp2_with(first|(go_at_call 350;refine(qa8 s i 8 hi hs (by omega) (by omega)).mono ?_;rintro e w'⟨rfl,rfl⟩)|(go_at_call 290;refine(cut_C s i (i+1) _ (by omega) hle hs).mono ?_;rintro e w1⟨rfl,hb⟩;have B1:=ai ((uh B0).below hb);have HB1:=ai ((uh HB).trans (hb.mono (by simp)));obtain⟨c1,f1,y1⟩:=uh B1;clear hb))
     have BF:=ai ((uh B1).set4 rfl (.int .i64 (i:Int)) (.int .i64 ((i:Int)+1)) (.string (qac 8)) (.string (s.extract i (i+1))))
     obtain⟨cF,fF,zF⟩:=uh BF
     rw[uh ht]
     refine bodyPost_ret (v:=qbo (Pu.mkT s i 5 (i+1))) ?_ rfl ⟨(uh HB1).set4 (br _) _ _ _ _,Or.inl ⟨by simp[Pu.mkT],rfl⟩⟩
     have hk:qaj (Pu.mkT s i 5 (i+1))=qac 8:=uh hxe
     simp only[qbo,hk]
     simp[results,Tryz.results295,go_sem,cF,Pu.mkT]
    |false=>
     have hn2:Hid (∀m,m<9->hit s i m=false):=fun m hm=>by
      by_cases e:m=8
      .subst e;exact he
      .exact uh hno m (by omega)
     go_wp2_with(go_at_call 350;refine(qa8 s i 8 hi hs (by omega) (by omega)).mono ?_;rintro e w'⟨rfl,rfl⟩)
     go_round
     case rel=>exact⟨9,by omega,by go_num,hn2⟩
     case measure=>simp[intOf]
   .have hix:=idx13_9 (qac 0) (qac 1) (qac 2) (qac 3) (qac 4) (qac 5) (qac 6) (qac 7) (qac 8) (qac 9) (qac 10) (qac 11) (qac 12)
    have hz:(qac 9).size=1:=rfl
    cases he:hit s i 9 with
    |true=>
     have ht:=ai (sgn_at 9 (by omega) (by omega) (uh hno) he)
     have hx:=qcu hi (by omega) he
     rw[hz]at hx
     have hle:=hx.1
     have hxe:=ai hx.2
     clear hx
     go_wp2_with(first|(go_at_call 350;refine(qa8 s i 9 hi hs (by omega) (by omega)).mono ?_;rintro e w'⟨rfl,rfl⟩)|(go_at_call 290;refine(cut_C s i (i+1) _ (by omega) hle hs).mono ?_;rintro e w1⟨rfl,hb⟩;have B1:=ai ((uh B0).below hb);have HB1:=ai ((uh HB).trans (hb.mono (by simp)));obtain⟨c1,f1,y1⟩:=uh B1;clear hb))
     have BF:=ai ((uh B1).set4 rfl (.int .i64 (i:Int)) (.int .i64 ((i:Int)+1)) (.string (qac 9)) (.string (s.extract i (i+1))))
     obtain⟨cF,fF,zF⟩:=uh BF
     rw[uh ht]
     refine bodyPost_ret (v:=qbo (Pu.mkT s i 5 (i+1))) ?_ rfl ⟨(uh HB1).set4 (br _) _ _ _ _,Or.inl ⟨by simp[Pu.mkT],rfl⟩⟩
     have hk:qaj (Pu.mkT s i 5 (i+1))=qac 9:=uh hxe
     simp only[qbo,hk]
     simp[results,Tryz.results295,go_sem,cF,Pu.mkT]
    |false=>
     have hn2:Hid (∀m,m<10->hit s i m=false):=fun m hm=>by
      by_cases e:m=9
      .subst e;exact he
      .exact uh hno m (by omega)
     go_wp2_with(go_at_call 350;refine(qa8 s i 9 hi hs (by omega) (by omega)).mono ?_;rintro e w'⟨rfl,rfl⟩)
     go_round
     case rel=>exact⟨10,by omega,by go_num,hn2⟩
     case measure=>simp[intOf]
   .have hix:=idx13_10 (qac 0) (qac 1) (qac 2) (qac 3) (qac 4) (qac 5) (qac 6) (qac 7) (qac 8) (qac 9) (qac 10) (qac 11) (qac 12)
    have hz:(qac 10).size=1:=rfl
    cases he:hit s i 10 with
    |true=>
     have ht:=ai (sgn_at 10 (by omega) (by omega) (uh hno) he)
     have hx:=qcu hi (by omega) he
     rw[hz]at hx
     have hle:=hx.1
     have hxe:=ai hx.2
     clear hx
     go_wp2_with(first|(go_at_call 350;refine(qa8 s i 10 hi hs (by omega) (by omega)).mono ?_;rintro e w'⟨rfl,rfl⟩)|(go_at_call 290;refine(cut_C s i (i+1) _ (by omega) hle hs).mono ?_;rintro e w1⟨rfl,hb⟩;have B1:=ai ((uh B0).below hb);have HB1:=ai ((uh HB).trans (hb.mono (by simp)));obtain⟨c1,f1,y1⟩:=uh B1;clear hb))
     have BF:=ai ((uh B1).set4 rfl (.int .i64 (i:Int)) (.int .i64 ((i:Int)+1)) (.string (qac 10)) (.string (s.extract i (i+1))))
     obtain⟨cF,fF,zF⟩:=uh BF
     rw[uh ht]
     refine bodyPost_ret (v:=qbo (Pu.mkT s i 5 (i+1))) ?_ rfl ⟨(uh HB1).set4 (br _) _ _ _ _,Or.inl ⟨by simp[Pu.mkT],rfl⟩⟩
     have hk:qaj (Pu.mkT s i 5 (i+1))=qac 10:=uh hxe
     simp only[qbo,hk]
     simp[results,Tryz.results295,go_sem,cF,Pu.mkT]
    |false=>
     have hn2:Hid (∀m,m<11->hit s i m=false):=fun m hm=>by
      by_cases e:m=10
      .subst e;exact he
      .exact uh hno m (by omega)
     go_wp2_with(go_at_call 350;refine(qa8 s i 10 hi hs (by omega) (by omega)).mono ?_;rintro e w'⟨rfl,rfl⟩)
     go_round
     case rel=>exact⟨11,by omega,by go_num,hn2⟩
     case measure=>simp[intOf]
   .have hix:=idx13_11 (qac 0) (qac 1) (qac 2) (qac 3) (qac 4) (qac 5) (qac 6) (qac 7) (qac 8) (qac 9) (qac 10) (qac 11) (qac 12)
    have hz:(qac 11).size=1:=rfl
    cases he:hit s i 11 with
    |true=>
     have ht:=ai (sgn_at 11 (by omega) (by omega) (uh hno) he)
     have hx:=qcu hi (by omega) he
     rw[hz]at hx
     have hle:=hx.1
     have hxe:=ai hx.2
     clear hx
     go_wp2_with(first|(go_at_call 350;refine(qa8 s i 11 hi hs (by omega) (by omega)).mono ?_;rintro e w'⟨rfl,rfl⟩)|(go_at_call 290;refine(cut_C s i (i+1) _ (by omega) hle hs).mono ?_;rintro e w1⟨rfl,hb⟩;have B1:=ai ((uh B0).below hb);have HB1:=ai ((uh HB).trans (hb.mono (by simp)));obtain⟨c1,f1,y1⟩:=uh B1;clear hb))
     have BF:=ai ((uh B1).set4 rfl (.int .i64 (i:Int)) (.int .i64 ((i:Int)+1)) (.string (qac 11)) (.string (s.extract i (i+1))))
     obtain⟨cF,fF,zF⟩:=uh BF
     rw[uh ht]
     refine bodyPost_ret (v:=qbo (Pu.mkT s i 5 (i+1))) ?_ rfl ⟨(uh HB1).set4 (br _) _ _ _ _,Or.inl ⟨by simp[Pu.mkT],rfl⟩⟩
     have hk:qaj (Pu.mkT s i 5 (i+1))=qac 11:=uh hxe
     simp only[qbo,hk]
     simp[results,Tryz.results295,go_sem,cF,Pu.mkT]
    |false=>
     have hn2:Hid (∀m,m<12->hit s i m=false):=fun m hm=>by
      by_cases e:m=11
      .subst e;exact he
      .exact uh hno m (by omega)
     go_wp2_with(go_at_call 350;refine(qa8 s i 11 hi hs (by omega) (by omega)).mono ?_;rintro e w'⟨rfl,rfl⟩)
     go_round
     case rel=>exact⟨12,by omega,by go_num,hn2⟩
     case measure=>simp[intOf]
   .have hix:=idx13_12 (qac 0) (qac 1) (qac 2) (qac 3) (qac 4) (qac 5) (qac 6) (qac 7) (qac 8) (qac 9) (qac 10) (qac 11) (qac 12)
    have hz:(qac 12).size=1:=rfl
    cases he:hit s i 12 with
    |true=>
     have ht:=ai (sgn_at 12 (by omega) (by omega) (uh hno) he)
     have hx:=qcu hi (by omega) he
     rw[hz]at hx
     have hle:=hx.1
     have hxe:=ai hx.2
     clear hx
     go_wp2_with(first|(go_at_call 350;refine(qa8 s i 12 hi hs (by omega) (by omega)).mono ?_;rintro e w'⟨rfl,rfl⟩)|(go_at_call 290;refine(cut_C s i (i+1) _ (by omega) hle hs).mono ?_;rintro e w1⟨rfl,hb⟩;have B1:=ai ((uh B0).below hb);have HB1:=ai ((uh HB).trans (hb.mono (by simp)));obtain⟨c1,f1,y1⟩:=uh B1;clear hb))
     have BF:=ai ((uh B1).set4 rfl (.int .i64 (i:Int)) (.int .i64 ((i:Int)+1)) (.string (qac 12)) (.string (s.extract i (i+1))))
     obtain⟨cF,fF,zF⟩:=uh BF
     rw[uh ht]
     refine bodyPost_ret (v:=qbo (Pu.mkT s i 5 (i+1))) ?_ rfl ⟨(uh HB1).set4 (br _) _ _ _ _,Or.inl ⟨by simp[Pu.mkT],rfl⟩⟩
     have hk:qaj (Pu.mkT s i 5 (i+1))=qac 12:=uh hxe
     simp only[qbo,hk]
     simp[results,Tryz.results295,go_sem,cF,Pu.mkT]
    |false=>
     have hn2:Hid (∀m,m<13->hit s i m=false):=fun m hm=>by
      by_cases e:m=12
      .subst e;exact he
      .exact uh hno m (by omega)
     go_wp2_with(go_at_call 350;refine(qa8 s i 12 hi hs (by omega) (by omega)).mono ?_;rintro e w'⟨rfl,rfl⟩)
     go_round
     case rel=>exact⟨13,by omega,by go_num,hn2⟩
     case measure=>simp[intOf]
  .have ht:=ai (sgn_no (s:=s) (i:=i) (fun m hm=>uh hno m (by omega)))
   go_wp2_with(go_at_call 349;refine(noToken_C _ _).mono ?_;rintro e w1⟨rfl,hb⟩;have HB1:=ai ((uh HB).trans (hb.mono (by simp)));clear hb)
   rw[uh ht]
   exact⟨rfl,uh HB1,Or.inr ⟨rfl,rfl⟩⟩
end
end
section
open Go Go.RowKit
mutual
def er:Nd->Nd
 |.mk k s _ L _ _ _=>.mk k s 0 (erL L) 0 0 0
def erL:List Nd->List Nd
 |[]=>[]|x::l=>er x::erL l
end
end
end Go.Proofs.YtoceemjbcgmojaaGreatDoor

import Derived.BigQuiet
import Derived.BigRegion
import Derived.Deep.LoopGhost
import Derived.Deep.QuietTactic
import Derived.Test.YtoceemjbcgmojaaGreatDoorVPure
import Derived.Test.YtoceemjbcgmojaaGreatDoorVWh
set_option linter.all false
set_option maxRecDepth 100000
set_option maxHeartbeats 4000000
namespace Go.Proofs.YtoceemjbcgmojaaGreatDoor
section
open Go Go.RowKit
structure Fl where
 kind:Nat
 frm:Nat
 to:Nat
def noFl:Fl:=⟨0,0,0⟩
def flOf (t:Pu.Tok):Fl:=if t.kind=6 then ⟨2,t.frm,t.to⟩ else ⟨3,t.frm,t.to⟩
structure RS (w:World) (rb g cap:Nat) (T:List Pu.Tok) (k:Nat) (f:Fl):Prop where
 c0:w.cell? ⟨rb,0,none⟩=some (.slice (some ⟨g,0,none⟩) T.length cap)
 c1:w.cell? ⟨rb,1,none⟩=some (.int .i64 (k:Int))
 c2:w.cell? ⟨rb,2,none⟩=some (.int .i64 (f.kind:Int))
 c3:w.cell? ⟨rb,3,none⟩=some (.int .i64 (f.frm:Int))
 c4:w.cell? ⟨rb,4,none⟩=some (.int .i64 (f.to:Int))
 fz:∀j,w.frozen? ⟨rb,j,none⟩=false
 tk:∀i (h:i<T.length),w.cell? ⟨g,i*4,none⟩=some (.int .i64 (T[i].kind:Int))∧w.cell? ⟨g,i*4+1,none⟩=some (.string T[i].text)∧w.cell? ⟨g,i*4+2,none⟩=some (.int .i64 (T[i].frm:Int))∧w.cell? ⟨g,i*4+3,none⟩=some (.int .i64 (T[i].to:Int))
 hr:rb<w.heap.size
 hg:g<w.heap.size
 ne:g≠rb
 hk:k<T.length
 hT:T.length≤1001
 en:∀i (h:i<T.length),T[i].kind≠7→i+1<T.length
structure Ke (rb:Nat) (w w':World):Prop where
 os:w'.os=w.os
 tape:w'.tape=w.tape
 output:w'.output=w.output
 size:w.heap.size≤w'.heap.size
 block:∀k,k<w.heap.size→k≠rb→w'.heap[k]? =w.heap[k]?
theorem Ke.refl (rb:Nat) (w:World):Ke rb w w:=⟨rfl,rfl,rfl,br _,fun _ _ _=>rfl⟩
theorem Ke.of {rb:Nat} {w w':World} (h:Below w.heap.size w w'):Ke rb w w':=⟨h.os,h.tape,h.output,h.size,fun k hk _=>h.block k hk⟩
theorem Ke.trans {rb:Nat} {a b c:World} (h:Ke rb a b) (k:Ke rb b c):Ke rb a c:=
 ⟨k.os.trans h.os,k.tape.trans h.tape,k.output.trans h.output,Nat.le_trans h.size k.size,fun i hi hn=>(k.block i (Nat.lt_of_lt_of_le hi h.size) hn).trans (h.block i hi hn)⟩
theorem Ke.drew {rb:Nat} {a w:World} (h:Ke rb a w):Ke rb a w.drew:=⟨h.os,h.tape,h.output,h.size,h.block⟩
theorem Ke.alloc {rb:Nat} {a w:World} (h:Ke rb a w) (o:Obj):Ke rb a (w.alloc o):=h.trans (Ke.of (bw o))
theorem Ke.set {rb:Nat} {a w:World} (h:Ke rb a w) (j:Nat) (u:Value):Ke rb a (w.setCell ⟨rb,j,none⟩ u):=
 h.trans ⟨rfl,rfl,rfl,by simp [World.setCell],fun k _ hn=>Below.heap_setCell _ _ _ _ hn⟩
theorem Ke.cell {rb:Nat} {w w':World} (h:Ke rb w w') {b o:Nat} (hb:b<w.heap.size) (hn:b≠rb):w'.cell? ⟨b,o,none⟩=w.cell? ⟨b,o,none⟩:=World.cell?_of_block (a:=⟨b,o,none⟩) (h.block b hb hn)
theorem RS.below {w w':World} {rb g cap:Nat} {T:List Pu.Tok} {k:Nat} {f:Fl} (h:RS w rb g cap T k f) (hb:Below w.heap.size w w'):RS w' rb g cap T k f:=by
 have hc:=qei hb
 have hf:=oldMark hb
 have hs:=hb.size
 refine ⟨by rw [hc _ _ h.hr];exact h.c0,by rw [hc _ _ h.hr];exact h.c1,by rw [hc _ _ h.hr];exact h.c2,by rw [hc _ _ h.hr];exact h.c3,by rw [hc _ _ h.hr];exact h.c4,fun j=>by rw [hf _ _ h.hr];exact h.fz j,fun i hi=>?_,Nat.lt_of_lt_of_le h.hr hs,Nat.lt_of_lt_of_le h.hg hs,h.ne,h.hk,h.hT,h.en⟩
 rw [hc _ _ h.hg,hc _ _ h.hg,hc _ _ h.hg,hc _ _ h.hg]
 exact h.tk i hi
theorem RS.setAt {w:World} {rb g cap:Nat} {T:List Pu.Tok} {k:Nat} {f:Fl} (h:RS w rb g cap T k f) (k':Nat) (v:Int) (hv:v=(k':Int)) (hk:k'<T.length):RS (w.setCell ⟨rb,1,none⟩ (.int .i64 v)) rb g cap T k' f:=by
 subst hv
 have o:∀j,j≠1→(w.setCell ⟨rb,1,none⟩ (.int .i64 (k':Int))).cell? ⟨rb,j,none⟩=w.cell? ⟨rb,j,none⟩:=fun j hj=>World.cell?_setCell_other _ _ _ _ (by intro e;injection e with _ e;exact hj e.symm)
 have q:∀j,(w.setCell ⟨rb,1,none⟩ (.int .i64 (k':Int))).cell? ⟨g,j,none⟩=w.cell? ⟨g,j,none⟩:=fun j=>World.cell?_setCell_other _ _ _ _ (by intro e;injection e with e;exact h.ne e.symm)
 refine ⟨by rw [o 0 (by omega)];exact h.c0,World.cell?_setCell_same _ _ _ h.c1,by rw [o 2 (by omega)];exact h.c2,by rw [o 3 (by omega)];exact h.c3,by rw [o 4 (by omega)];exact h.c4,fun j=>by simp;exact h.fz j,fun i hi=>?_,by simpa [World.setCell] using h.hr,by simpa [World.setCell] using h.hg,h.ne,hk,h.hT,h.en⟩
 rw [q,q,q,q]
 exact h.tk i hi
theorem RS.setFl {w:World} {rb g cap:Nat} {T:List Pu.Tok} {k:Nat} {f:Fl} (h:RS w rb g cap T k f) (f':Fl):RS (((w.setCell ⟨rb,2,none⟩ (.int .i64 (f'.kind:Int))).setCell ⟨rb,3,none⟩ (.int .i64 (f'.frm:Int))).setCell ⟨rb,4,none⟩ (.int .i64 (f'.to:Int))) rb g cap T k f':=by
 have o:∀(w:World) (i j:Nat) (v:Value),j≠i→(w.setCell ⟨rb,i,none⟩ v).cell? ⟨rb,j,none⟩=w.cell? ⟨rb,j,none⟩:=fun w i j v hj=>World.cell?_setCell_other _ _ _ _ (by intro e;injection e with _ e;exact hj e.symm)
 have q:∀(w:World) (i j:Nat) (v:Value),(w.setCell ⟨rb,i,none⟩ v).cell? ⟨g,j,none⟩=w.cell? ⟨g,j,none⟩:=fun w i j v=>World.cell?_setCell_other _ _ _ _ (by intro e;injection e with e;exact h.ne e.symm)
 refine ⟨?_,?_,?_,?_,?_,fun j=>by simp;exact h.fz j,fun i hi=>?_,by simpa [World.setCell] using h.hr,by simpa [World.setCell] using h.hg,h.ne,h.hk,h.hT,h.en⟩
 ·rw [o _ _ _ _ (by omega),o _ _ _ _ (by omega),o _ _ _ _ (by omega)];exact h.c0
 ·rw [o _ _ _ _ (by omega),o _ _ _ _ (by omega),o _ _ _ _ (by omega)];exact h.c1
 ·rw [o _ _ _ _ (by omega),o _ _ _ _ (by omega)];exact World.cell?_setCell_same _ _ _ h.c2
 ·rw [o _ _ _ _ (by omega)];exact World.cell?_setCell_same (u:=.int .i64 (f.frm:Int)) _ _ _ (by rw [o _ _ _ _ (by omega)];exact h.c3)
 ·exact World.cell?_setCell_same (u:=.int .i64 (f.to:Int)) _ _ _ (by rw [o _ _ _ _ (by omega),o _ _ _ _ (by omega)];exact h.c4)
 ·simp only [q]
  exact h.tk i hi
theorem next_any {rb g cap:Nat} {T:List Pu.Tok} {k:Nat} {f:Fl} {w:World} (h:RS w rb g cap T k f):
 Calls Tryz.prog 205 #[.pointer (some ⟨rb,0,none⟩)] w fun e w'=>e=.returned (tokV (T[k]'h.hk))∧Below w.heap.size w w':=by
 obtain ⟨t0,t1,t2,t3⟩:=h.tk k h.hk
 have h0:=h.c0
 have h1:=h.c1
 have hrb:=h.hr
 have hg:=h.hg
 have hk:(k:Int)<(T.length:Int):=by have:=h.hk;omega
 have H:=ai h.hk
 generalize T[k]'h.hk=t at*
 clear h
 go_enter Tryz.func205,Tryz.ntmps205
 go_wp2
 go_region
 go_wp2
 refine bodyPost_ret (v:=tokV t) (by simp [results,Tryz.results205,go_sem,tokV];try rfl) rfl ⟨rfl,?_⟩
 exact (bw _).drew
end
section
open Go Go.RowKit
theorem ok_any {rb g cap:Nat} {T:List Pu.Tok} {k:Nat} {f:Fl} {w:World} (h:RS w rb g cap T k f):
 Calls Tryz.prog 55 #[.pointer (some ⟨rb,0,none⟩)] w fun e w'=>e=.returned (.bool (decide (f.kind=0)))∧w'=w:=by
 have h2:=h.c2
 clear h
 go_enter Tryz.func55,Tryz.ntmps55
 go_wp2
 go_ret
 exact ⟨qa6 (by rw [Bool.eq_iff_iff];simp<;>omega),rfl⟩
def isB (f:Fl) (t:Pu.Tok) (s:BA):Bool:=f.kind==0&&t.kind==5&&t.text.toList==s.toList
def ofB (f:Fl) (t:Pu.Tok) (n:Nat):Bool:=f.kind==0&&t.kind==n
theorem is_any {rb g cap:Nat} {T:List Pu.Tok} {k:Nat} {f:Fl} {w:World} (h:RS w rb g cap T k f) (s:BA):
 Calls Tryz.prog 57 #[.pointer (some ⟨rb,0,none⟩),.string s] w fun e w'=>e=.returned (.bool (isB f (T[k]'h.hk) s))∧Below w.heap.size w w':=by
 obtain ⟨t0,t1,t2,t3⟩:=h.tk k h.hk
 have h0:=h.c0
 have h1:=h.c1
 have h2:=h.c2
 have hrb:=h.hr
 have hg:=h.hg
 have hk:(k:Int)<(T.length:Int):=by have:=h.hk;omega
 have H:=ai h.hk
 generalize T[k]'h.hk=t at*
 clear h t2 t3
 by_cases a:f.kind=0
 ·have a1:((f.kind:Int)==0)=true:=by rw [a];rfl
  by_cases b:t.kind=5
  ·have b1:((t.kind:Int)==5)=true:=by rw [b];rfl
   have R:=ai (show isB f t s=(t.text.toList==s.toList) by simp [isB,a,b])
   clear a b
   go_enter Tryz.func57,Tryz.ntmps57
   go_wp2
   go_quiet (fail)
   go_wp2
   go_ret
   exact ⟨qa6 (uh R).symm,⟨rfl,rfl,rfl,br _,fun _ _=>rfl⟩⟩
  ·have b1:((t.kind:Int)==5)=false:=by simp;omega
   have R:=ai (show isB f t s=false by simp [isB,b])
   clear a b
   go_enter Tryz.func57,Tryz.ntmps57
   go_wp2
   go_quiet (fail)
   go_wp2
   go_ret
   exact ⟨qa6 (uh R).symm,⟨rfl,rfl,rfl,br _,fun _ _=>rfl⟩⟩
 ·have a1:((f.kind:Int)==0)=false:=by simp;omega
  have R:=ai (show isB f t s=false by simp [isB,a])
  clear a
  go_enter Tryz.func57,Tryz.ntmps57
  go_wp2
  go_quiet (fail)
  go_wp2
  go_ret
  exact ⟨qa6 (uh R).symm,⟨rfl,rfl,rfl,br _,fun _ _=>rfl⟩⟩
theorem of_any {rb g cap:Nat} {T:List Pu.Tok} {k:Nat} {f:Fl} {w:World} (h:RS w rb g cap T k f) (n:Nat):
 Calls Tryz.prog 56 #[.pointer (some ⟨rb,0,none⟩),.int .i64 (n:Int)] w fun e w'=>e=.returned (.bool (ofB f (T[k]'h.hk) n))∧Below w.heap.size w w':=by
 obtain ⟨t0,t1,t2,t3⟩:=h.tk k h.hk
 have h0:=h.c0
 have h1:=h.c1
 have h2:=h.c2
 have hrb:=h.hr
 have hg:=h.hg
 have hk:(k:Int)<(T.length:Int):=by have:=h.hk;omega
 have H:=ai h.hk
 generalize T[k]'h.hk=t at*
 clear h t2 t3
 by_cases a:f.kind=0
 ·have a1:((f.kind:Int)==0)=true:=by rw [a];rfl
  have R:=ai (show ofB f t n=((t.kind:Int)==(n:Int)) by rw [Bool.eq_iff_iff];simp [ofB,a];try omega)
  clear a
  go_enter Tryz.func56,Tryz.ntmps56
  go_wp2
  go_quiet (fail)
  go_wp2
  go_ret
  exact ⟨qa6 (uh R).symm,⟨rfl,rfl,rfl,br _,fun _ _=>rfl⟩⟩
 ·have a1:((f.kind:Int)==0)=false:=by simp;omega
  have R:=ai (show ofB f t n=false by simp [ofB,a])
  clear a
  go_enter Tryz.func56,Tryz.ntmps56
  go_wp2
  go_quiet (fail)
  go_wp2
  go_ret
  exact ⟨qa6 (uh R).symm,⟨rfl,rfl,rfl,br _,fun _ _=>rfl⟩⟩
end
section
open Go Go.RowKit
def nextK (T:List Pu.Tok) (k:Nat):Nat:=if (T[k]?.map (·.kind))=some 7 then k else k+1
theorem pass_on {rb g cap:Nat} {T:List Pu.Tok} {k:Nat} {f:Fl} {w:World} (h:RS w rb g cap T k f) (hn:(T[k]'h.hk).kind≠7):
 Calls Tryz.prog 116 #[.pointer (some ⟨rb,0,none⟩)] w fun e w'=>e=.returned (tokV (T[k]'h.hk))∧RS w' rb g cap T (k+1) f∧Ke rb w w':=by
 obtain ⟨t0,t1,t2,t3⟩:=h.tk k h.hk
 have h0:=h.c0
 have h1:=h.c1
 have hrb:=h.hr
 have hg:=h.hg
 have hk:(k:Int)<(T.length:Int):=by have:=h.hk;omega
 have hk1:(k:Int)≤1001:=by have:=h.hk;have:=h.hT;omega
 have hz:=h.fz 1
 have hL:=h.en k h.hk hn
 have HR:=ai h
 generalize T[k]'h.hk=t at*
 clear h
 have n7:((t.kind:Int) !=7)=true:=by simp;omega
 go_enter Tryz.func116,Tryz.ntmps116
 go_wp2
 go_region
 go_wp2
 refine bodyPost_ret (v:=tokV t) (by simp [results,Tryz.results116,go_sem,tokV];try rfl) rfl ⟨rfl,?_,?_⟩
 ·exact ((uh HR).setAt (k+1) _ (by simp) hL).below ((bw _).alloc (by simp) _).drew
 ·exact ((((Ke.refl rb w).set 1 _).alloc _).alloc _).drew
theorem RS.setKind {w:World} {rb g cap:Nat} {T:List Pu.Tok} {k:Nat} {f:Fl} (h:RS w rb g cap T k f) (n:Nat):RS (w.setCell ⟨rb,2,none⟩ (.int .i64 (n:Int))) rb g cap T k ⟨n,f.frm,f.to⟩:=by
 have o:∀j,j≠2→(w.setCell ⟨rb,2,none⟩ (.int .i64 (n:Int))).cell? ⟨rb,j,none⟩=w.cell? ⟨rb,j,none⟩:=fun j hj=>World.cell?_setCell_other _ _ _ _ (by intro e;injection e with _ e;exact hj e.symm)
 have q:∀j,(w.setCell ⟨rb,2,none⟩ (.int .i64 (n:Int))).cell? ⟨g,j,none⟩=w.cell? ⟨g,j,none⟩:=fun j=>World.cell?_setCell_other _ _ _ _ (by intro e;injection e with e;exact h.ne e.symm)
 refine ⟨by rw [o 0 (by omega)];exact h.c0,by rw [o 1 (by omega)];exact h.c1,World.cell?_setCell_same _ _ _ h.c2,by rw [o 3 (by omega)];exact h.c3,by rw [o 4 (by omega)];exact h.c4,fun j=>by simp;exact h.fz j,fun i hi=>?_,by simpa [World.setCell] using h.hr,by simpa [World.setCell] using h.hg,h.ne,h.hk,h.hT,h.en⟩
 rw [q,q,q,q]
 exact h.tk i hi
theorem wrong_set {rb g cap:Nat} {T:List Pu.Tok} {k:Nat} {f:Fl} {w:World} (h:RS w rb g cap T k f) (hf:f.kind≠0):
 Calls Tryz.prog 117 #[.pointer (some ⟨rb,0,none⟩)] w fun e w'=>e=.returned (.tuple #[])∧w'=w:=by
 have h2:=h.c2
 clear h
 have a1:((f.kind:Int) !=0)=true:=by simp;omega
 go_enter Tryz.func117,Tryz.ntmps117
 go_wp2
 exact bodyPost_ret (v:=.tuple #[]) (by simp [results,Tryz.results117,go_sem]) rfl ⟨rfl,rfl⟩
theorem wrong_new {rb g cap:Nat} {T:List Pu.Tok} {k:Nat} {f:Fl} {w:World} (h:RS w rb g cap T k f) (hf:f.kind=0):
 Calls Tryz.prog 117 #[.pointer (some ⟨rb,0,none⟩)] w fun e w'=>e=.returned (.tuple #[])∧RS w' rb g cap T k (flOf (T[k]'h.hk))∧Ke rb w w':=by
 obtain ⟨t0,t1,t2,t3⟩:=h.tk k h.hk
 have h0:=h.c0
 have h1:=h.c1
 have h2:=h.c2
 have h3:=h.c3
 have h4:=h.c4
 have hrb:=h.hr
 have hg:=h.hg
 have hk:(k:Int)<(T.length:Int):=by have:=h.hk;omega
 have z2:=h.fz 2
 have z3:=h.fz 3
 have z4:=h.fz 4
 have HR:=ai h
 generalize T[k]'h.hk=t at*
 clear h
 have a1:((f.kind:Int) !=0)=false:=by simp;omega
 clear hf
 by_cases b:t.kind=6
 ·have b1:((t.kind:Int)==6)=true:=by rw [b];rfl
  have F:=ai (show flOf t=⟨2,t.frm,t.to⟩ by simp [flOf,b])
  clear b
  go_enter Tryz.func117,Tryz.ntmps117
  go_wp2
  go_region
  go_wp2
  go_end0
  refine ⟨rfl,?_,?_⟩
  ·rw [uh F]
   exact (((uh HR).setFl ⟨3,t.frm,t.to⟩).setKind 2).below (bw _).drew
  ·exact ((((((Ke.refl rb w).set 2 _).set 3 _).set 4 _).set 2 _).alloc _).drew
 ·have b1:((t.kind:Int)==6)=false:=by simp;omega
  have F:=ai (show flOf t=⟨3,t.frm,t.to⟩ by simp [flOf,b])
  clear b
  go_enter Tryz.func117,Tryz.ntmps117
  go_wp2
  go_region
  go_wp2
  go_end0
  refine ⟨rfl,?_,?_⟩
  ·rw [uh F]
   exact ((uh HR).setFl ⟨3,t.frm,t.to⟩).below (bw _).drew
  ·exact (((((Ke.refl rb w).set 2 _).set 3 _).set 4 _).alloc _).drew
end
section
open Go Go.RowKit
def tk (T:List Pu.Tok) (k:Nat):Pu.Tok:=T.getD k ⟨7,⟨#[]⟩,0,0⟩
theorem tk_eq {T:List Pu.Tok} {k:Nat} (h:k<T.length):T[k]'h=tk T k:=by
 unfold tk;rw [List.getD_eq_getElem?_getD,List.getElem?_eq_getElem h];rfl
def isT (t:Pu.Tok) (s:BA):Bool:=t.kind==5&&t.text.toList==s.toList
abbrev St:=Except Fl Nat
abbrev M (α:Type):=Nat→Except Fl (α×Nat)
def nx {α:Type} (σ:St) (m:M α):St:=match σ with
 |.error e=>.error e
 |.ok k=>match m k with
  |.error e=>.error e
  |.ok (_,k')=>.ok k'
def isS (T:List Pu.Tok) (σ:St) (s:BA):Bool:=match σ with
 |.ok k=>isT (tk T k) s
 |.error _=>false
def ofS (T:List Pu.Tok) (σ:St) (n:Nat):Bool:=match σ with
 |.ok k=>(tk T k).kind==n
 |.error _=>false
def okS (σ:St):Bool:=match σ with
 |.ok _=>true
 |.error _=>false
def qb0 {α:Type} (T:List Pu.Tok):M α:=fun k=>.error (flOf (tk T k))
def qaf (T:List Pu.Tok) (s:BA):M Unit:=fun k=>if isT (tk T k) s=true then .ok ((),k+1) else .error (flOf (tk T k))
def qa3 (T:List Pu.Tok) (n:Nat):M Pu.Tok:=fun k=>if (tk T k).kind==n then .ok (tk T k,k+1) else .error (flOf (tk T k))
def qal (T:List Pu.Tok) (k:Nat):Nat:=if k=0 then 0 else (tk T (k-1)).to
theorem flOf_kind (t:Pu.Tok):(flOf t).kind≠0:=by unfold flOf;split<;>simp
def SS (w:World) (rb g cap:Nat) (T:List Pu.Tok) (σ:St):Prop:=match σ with
 |.ok k=>RS w rb g cap T k noFl
 |.error f=>f.kind≠0∧∃k,RS w rb g cap T k f
theorem SS.any {w:World} {rb g cap:Nat} {T:List Pu.Tok} {σ:St} (h:SS w rb g cap T σ):∃k f,RS w rb g cap T k f∧(σ=.ok k∧f=noFl∨(σ=.error f∧f.kind≠0)):=by
 cases σ with
 |ok k=>exact ⟨k,noFl,h,Or.inl ⟨rfl,rfl⟩⟩
 |error f=>obtain ⟨hf,k,h⟩:=h;exact ⟨k,f,h,Or.inr ⟨rfl,hf⟩⟩
theorem SS.below {w w':World} {rb g cap:Nat} {T:List Pu.Tok} {σ:St} (h:SS w rb g cap T σ) (hb:Below w.heap.size w w'):SS w' rb g cap T σ:=by
 cases σ with
 |ok k=>exact RS.below h hb
 |error f=>obtain ⟨hf,k,h⟩:=h;exact ⟨hf,k,h.below hb⟩
theorem SS.hr {w:World} {rb g cap:Nat} {T:List Pu.Tok} {σ:St} (h:SS w rb g cap T σ):rb<w.heap.size:=by
 obtain ⟨k,f,h,_⟩:=h.any;exact h.hr
section
variable {rb g cap:Nat} {T:List Pu.Tok} {σ:St} {w:World}
theorem qb2 (h:SS w rb g cap T σ):
 Calls Tryz.prog 205 #[.pointer (some ⟨rb,0,none⟩)] w fun e w'=>∃t,e=.returned (tokV t)∧Below w.heap.size w w'∧(∀k,σ=.ok k→t=tk T k):=by
 obtain ⟨k,f,h,hs⟩:=h.any
 refine (next_any h).mono ?_
 rintro e w' ⟨rfl,hb⟩
 refine ⟨_,rfl,hb,fun j hj=>?_⟩
 rcases hs with ⟨rfl,_⟩|⟨rfl,_⟩
 ·cases hj;exact tk_eq _
 ·cases hj
theorem ok_S (h:SS w rb g cap T σ):
 Calls Tryz.prog 55 #[.pointer (some ⟨rb,0,none⟩)] w fun e w'=>e=.returned (.bool (okS σ))∧w'=w:=by
 obtain ⟨k,f,h,hs⟩:=h.any
 refine (ok_any h).mono ?_
 rintro e w' ⟨rfl,rfl⟩
 refine ⟨?_,rfl⟩
 rcases hs with ⟨rfl,rfl⟩|⟨rfl,hf⟩
 ·rfl
 ·simp [hf,okS]
theorem is_S (h:SS w rb g cap T σ) (s:BA):
 Calls Tryz.prog 57 #[.pointer (some ⟨rb,0,none⟩),.string s] w fun e w'=>e=.returned (.bool (isS T σ s))∧Below w.heap.size w w':=by
 obtain ⟨k,f,h,hs⟩:=h.any
 refine (is_any h s).mono ?_
 rintro e w' ⟨rfl,hb⟩
 refine ⟨qa6 ?_,hb⟩
 rcases hs with ⟨rfl,rfl⟩|⟨rfl,hf⟩
 ·simp [isB,isS,isT,noFl,tk_eq]
 ·simp [isB,isS,hf]
theorem of_S (h:SS w rb g cap T σ) (n:Nat):
 Calls Tryz.prog 56 #[.pointer (some ⟨rb,0,none⟩),.int .i64 (n:Int)] w fun e w'=>e=.returned (.bool (ofS T σ n))∧Below w.heap.size w w':=by
 obtain ⟨k,f,h,hs⟩:=h.any
 refine (of_any h n).mono ?_
 rintro e w' ⟨rfl,hb⟩
 refine ⟨qa6 ?_,hb⟩
 rcases hs with ⟨rfl,rfl⟩|⟨rfl,hf⟩
 ·simp [ofB,ofS,noFl,tk_eq]
 ·simp [ofB,ofS,hf]
theorem wrong_S {α:Type} (h:SS w rb g cap T σ):
 Calls Tryz.prog 117 #[.pointer (some ⟨rb,0,none⟩)] w fun e w'=>e=.returned (.tuple #[])∧Ke rb w w'∧SS w' rb g cap T (nx σ (qb0 (α:=α) T)):=by
 obtain ⟨k,f,hR,hs⟩:=h.any
 rcases hs with ⟨rfl,rfl⟩|⟨rfl,hf⟩
 ·refine (wrong_new hR rfl).mono ?_
  rintro e w' ⟨rfl,h1,h2⟩
  exact ⟨rfl,h2,by show SS w' rb g cap T (.error (flOf (tk T k)));rw [tk_eq] at h1;exact ⟨flOf_kind _,k,h1⟩⟩
 ·refine (wrong_set hR hf).mono ?_
  rintro e w' ⟨rfl,rfl⟩
  exact ⟨rfl,Ke.refl _ _,⟨hf,k,hR⟩⟩
theorem qcl {k:Nat} (h:SS w rb g cap T (.ok k)) (hn:(tk T k).kind≠7):
 Calls Tryz.prog 116 #[.pointer (some ⟨rb,0,none⟩)] w fun e w'=>e=.returned (tokV (tk T k))∧Ke rb w w'∧SS w' rb g cap T (.ok (k+1)):=by
 have h':RS w rb g cap T k noFl:=h
 refine (pass_on h' (by rw [tk_eq];exact hn)).mono ?_
 rintro e w' ⟨rfl,h1,h2⟩
 exact ⟨by rw [tk_eq],h2,h1⟩
end
end
section
open Go Go.RowKit
structure Bx (w:World) (b:Nat) (C:Array Value):Prop where
 c:∀o,w.cell? ⟨b,o,none⟩=C[o]?
 f:∀o,w.frozen? ⟨b,o,none⟩=false
 z:b<w.heap.size
theorem Bx.new (w:World) (C:Array Value) (t:TypeId):Bx (w.alloc (.cells C t)) w.heap.size C:=⟨fun o=>by simp,fun o=>by simp,by simp⟩
theorem Bx.same {w w':World} {b:Nat} {C:Array Value} (h:Bx w b C) (hs:w.heap.size≤w'.heap.size) (hb:w'.heap[b]? =w.heap[b]?):Bx w' b C:=
 ⟨fun o=>by rw [World.cell?_of_block (a:=⟨b,o,none⟩) (w:=w) hb];exact h.c o,fun o=>by rw [World.frozen?_of_block (a:=⟨b,o,none⟩) (w:=w) hb];exact h.f o,Nat.lt_of_lt_of_le h.z hs⟩
theorem Bx.below {w w':World} {b:Nat} {C:Array Value} (h:Bx w b C) (hb:Below w.heap.size w w'):Bx w' b C:=h.same hb.size (hb.block b h.z)
theorem Bx.ke {rb:Nat} {w w':World} {b:Nat} {C:Array Value} (h:Bx w b C) (hb:Ke rb w w') (hn:b≠rb):Bx w' b C:=h.same hb.size (hb.block b h.z hn)
theorem Bx.alloc {w:World} {b:Nat} {C:Array Value} (h:Bx w b C) (o:Obj):Bx (w.alloc o) b C:=h.below (bw o)
theorem Ke.setNew {rb:Nat} {a w:World} (h:Ke rb a w) {b:Nat} (hb:a.heap.size≤b) (j:Nat) (u:Value):Ke rb a (w.setCell ⟨b,j,none⟩ u):=
 ⟨h.os,h.tape,h.output,by simpa [World.setCell] using h.size,fun k hk hn=>by rw [Below.heap_setCell _ _ _ _ (by show k≠b;omega)];exact h.block k hk hn⟩
theorem RS.same {w w':World} {rb g cap:Nat} {T:List Pu.Tok} {k:Nat} {f:Fl} (h:RS w rb g cap T k f) (hs:w.heap.size≤w'.heap.size) (h1:w'.heap[rb]? =w.heap[rb]?) (h2:w'.heap[g]? =w.heap[g]?):RS w' rb g cap T k f:=by
 have hc:∀o,w'.cell? ⟨rb,o,none⟩=w.cell? ⟨rb,o,none⟩:=fun o=>World.cell?_of_block (a:=⟨rb,o,none⟩) (w:=w) h1
 have hf:∀o,w'.frozen? ⟨rb,o,none⟩=w.frozen? ⟨rb,o,none⟩:=fun o=>World.frozen?_of_block (a:=⟨rb,o,none⟩) (w:=w) h1
 have hd:∀o,w'.cell? ⟨g,o,none⟩=w.cell? ⟨g,o,none⟩:=fun o=>World.cell?_of_block (a:=⟨g,o,none⟩) (w:=w) h2
 refine ⟨by rw [hc];exact h.c0,by rw [hc];exact h.c1,by rw [hc];exact h.c2,by rw [hc];exact h.c3,by rw [hc];exact h.c4,fun j=>by rw [hf];exact h.fz j,fun i hi=>?_,Nat.lt_of_lt_of_le h.hr hs,Nat.lt_of_lt_of_le h.hg hs,h.ne,h.hk,h.hT,h.en⟩
 rw [hd,hd,hd,hd]
 exact h.tk i hi
theorem SS.same {w w':World} {rb g cap:Nat} {T:List Pu.Tok} {σ:St} (h:SS w rb g cap T σ) (hs:w.heap.size≤w'.heap.size) (h1:w'.heap[rb]? =w.heap[rb]?) (h2:w'.heap[g]? =w.heap[g]?):SS w' rb g cap T σ:=by
 cases σ with
 |ok k=>exact RS.same h hs h1 h2
 |error f=>obtain ⟨hf,k,h⟩:=h;exact ⟨hf,k,h.same hs h1 h2⟩
theorem SS.hg {w:World} {rb g cap:Nat} {T:List Pu.Tok} {σ:St} (h:SS w rb g cap T σ):g<w.heap.size:=by
 obtain ⟨k,f,h,_⟩:=h.any;exact h.hg
theorem SS.set {w:World} {rb g cap:Nat} {T:List Pu.Tok} {σ:St} (h:SS w rb g cap T σ) {b:Nat} (h1:rb≠b) (h2:g≠b) (j:Nat) (u:Value):SS (w.setCell ⟨b,j,none⟩ u) rb g cap T σ:=
 h.same (by simp [World.setCell]) (Below.heap_setCell _ _ _ _ h1) (Below.heap_setCell _ _ _ _ h2)
theorem SS.alloc {w:World} {rb g cap:Nat} {T:List Pu.Tok} {σ:St} (h:SS w rb g cap T σ) (o:Obj):SS (w.alloc o) rb g cap T σ:=h.below (bw o)
theorem SS.drew {w:World} {rb g cap:Nat} {T:List Pu.Tok} {σ:St} (h:SS w rb g cap T σ):SS w.drew rb g cap T σ:=h.below (Below.refl _ _).drew
end
section
open Go Go.RowKit
def qak (t:Pu.Tok):BA:=
 if t.kind=1 then ⟨#[108,111,119,32,110,97,109,101]⟩ else if t.kind=2 then ⟨#[117,112,32,110,97,109,101]⟩ else if t.kind=3 then ⟨#[97,32,118,97,114,105,97,98,108,101]⟩
 else if t.kind=4 then ⟨#[97,32,110,117,109,98,101,114]⟩ else if t.kind=7 then ⟨#[116,104,101,32,101,110,100]⟩ else t.text
def qbn (t:Pu.Tok):Value:=.agg #[.int .i64 (t.frm:Int),.int .i64 (t.to:Int),.string (qak t),.string t.text]
theorem idx13_0 (a0 a1 a2 a3 a4 a5 a6 a7 a8 a9 a10 a11 a12:BA) (w:World):(Instr.index 518 (.agg #[.string a0,.string a1,.string a2,.string a3,.string a4,.string a5,.string a6,.string a7,.string a8,.string a9,.string a10,.string a11,.string a12]) (.int .i64 0)).run Tryz.prog w=.ok (.string a0) w:=by kernel_rfl
theorem idx13_1 (a0 a1 a2 a3 a4 a5 a6 a7 a8 a9 a10 a11 a12:BA) (w:World):(Instr.index 518 (.agg #[.string a0,.string a1,.string a2,.string a3,.string a4,.string a5,.string a6,.string a7,.string a8,.string a9,.string a10,.string a11,.string a12]) (.int .i64 1)).run Tryz.prog w=.ok (.string a1) w:=by kernel_rfl
theorem idx13_2 (a0 a1 a2 a3 a4 a5 a6 a7 a8 a9 a10 a11 a12:BA) (w:World):(Instr.index 518 (.agg #[.string a0,.string a1,.string a2,.string a3,.string a4,.string a5,.string a6,.string a7,.string a8,.string a9,.string a10,.string a11,.string a12]) (.int .i64 2)).run Tryz.prog w=.ok (.string a2) w:=by kernel_rfl
theorem idx13_3 (a0 a1 a2 a3 a4 a5 a6 a7 a8 a9 a10 a11 a12:BA) (w:World):(Instr.index 518 (.agg #[.string a0,.string a1,.string a2,.string a3,.string a4,.string a5,.string a6,.string a7,.string a8,.string a9,.string a10,.string a11,.string a12]) (.int .i64 3)).run Tryz.prog w=.ok (.string a3) w:=by kernel_rfl
theorem idx13_4 (a0 a1 a2 a3 a4 a5 a6 a7 a8 a9 a10 a11 a12:BA) (w:World):(Instr.index 518 (.agg #[.string a0,.string a1,.string a2,.string a3,.string a4,.string a5,.string a6,.string a7,.string a8,.string a9,.string a10,.string a11,.string a12]) (.int .i64 4)).run Tryz.prog w=.ok (.string a4) w:=by kernel_rfl
theorem idx13_5 (a0 a1 a2 a3 a4 a5 a6 a7 a8 a9 a10 a11 a12:BA) (w:World):(Instr.index 518 (.agg #[.string a0,.string a1,.string a2,.string a3,.string a4,.string a5,.string a6,.string a7,.string a8,.string a9,.string a10,.string a11,.string a12]) (.int .i64 5)).run Tryz.prog w=.ok (.string a5) w:=by kernel_rfl
theorem idx13_6 (a0 a1 a2 a3 a4 a5 a6 a7 a8 a9 a10 a11 a12:BA) (w:World):(Instr.index 518 (.agg #[.string a0,.string a1,.string a2,.string a3,.string a4,.string a5,.string a6,.string a7,.string a8,.string a9,.string a10,.string a11,.string a12]) (.int .i64 6)).run Tryz.prog w=.ok (.string a6) w:=by kernel_rfl
theorem idx13_7 (a0 a1 a2 a3 a4 a5 a6 a7 a8 a9 a10 a11 a12:BA) (w:World):(Instr.index 518 (.agg #[.string a0,.string a1,.string a2,.string a3,.string a4,.string a5,.string a6,.string a7,.string a8,.string a9,.string a10,.string a11,.string a12]) (.int .i64 7)).run Tryz.prog w=.ok (.string a7) w:=by kernel_rfl
theorem idx13_8 (a0 a1 a2 a3 a4 a5 a6 a7 a8 a9 a10 a11 a12:BA) (w:World):(Instr.index 518 (.agg #[.string a0,.string a1,.string a2,.string a3,.string a4,.string a5,.string a6,.string a7,.string a8,.string a9,.string a10,.string a11,.string a12]) (.int .i64 8)).run Tryz.prog w=.ok (.string a8) w:=by kernel_rfl
theorem idx13_9 (a0 a1 a2 a3 a4 a5 a6 a7 a8 a9 a10 a11 a12:BA) (w:World):(Instr.index 518 (.agg #[.string a0,.string a1,.string a2,.string a3,.string a4,.string a5,.string a6,.string a7,.string a8,.string a9,.string a10,.string a11,.string a12]) (.int .i64 9)).run Tryz.prog w=.ok (.string a9) w:=by kernel_rfl
theorem idx13_10 (a0 a1 a2 a3 a4 a5 a6 a7 a8 a9 a10 a11 a12:BA) (w:World):(Instr.index 518 (.agg #[.string a0,.string a1,.string a2,.string a3,.string a4,.string a5,.string a6,.string a7,.string a8,.string a9,.string a10,.string a11,.string a12]) (.int .i64 10)).run Tryz.prog w=.ok (.string a10) w:=by kernel_rfl
theorem idx13_11 (a0 a1 a2 a3 a4 a5 a6 a7 a8 a9 a10 a11 a12:BA) (w:World):(Instr.index 518 (.agg #[.string a0,.string a1,.string a2,.string a3,.string a4,.string a5,.string a6,.string a7,.string a8,.string a9,.string a10,.string a11,.string a12]) (.int .i64 11)).run Tryz.prog w=.ok (.string a11) w:=by kernel_rfl
theorem idx13_12 (a0 a1 a2 a3 a4 a5 a6 a7 a8 a9 a10 a11 a12:BA) (w:World):(Instr.index 518 (.agg #[.string a0,.string a1,.string a2,.string a3,.string a4,.string a5,.string a6,.string a7,.string a8,.string a9,.string a10,.string a11,.string a12]) (.int .i64 12)).run Tryz.prog w=.ok (.string a12) w:=by kernel_rfl
theorem beq_comm' {a b:List UInt8}:(a==b)=(b==a):=by
 rw [Bool.eq_iff_iff,beq_iff_eq,beq_iff_eq]
 exact ⟨Eq.symm,Eq.symm⟩
theorem Bx.setS' {w:World} {b:Nat} {C:Array Value} (h:Bx w b C) (j:Nat) (v:Value) (C':Array Value) (hC:C'=C.setIfInBounds j v) (hj:j<C.size):Bx (w.setCell ⟨b,j,none⟩ v) b C':=by
 subst hC
 refine ⟨fun o=>?_,fun o=>by simp;exact h.f o,by simpa [World.setCell] using h.z⟩
 by_cases e:o=j
 ·subst e
  rw [World.cell?_setCell_same _ _ _ ((h.c o).trans (Array.getElem?_eq_getElem hj))]
  simp [hj]
 ·rw [World.cell?_setCell_other _ _ _ _ (by intro q;injection q with _ q;exact e q.symm),h.c o,Array.getElem?_setIfInBounds_ne (by omega)]
def signs:List BA:=[⟨#[45,62]⟩,⟨#[40]⟩,⟨#[41]⟩,⟨#[44]⟩,⟨#[59]⟩,⟨#[58]⟩,⟨#[61]⟩,⟨#[124]⟩,⟨#[43]⟩,⟨#[45]⟩,⟨#[42]⟩,⟨#[60]⟩,⟨#[95]⟩]
def qab (k:Nat):BA:=signs.getD k ⟨#[]⟩
theorem oldCell' {w u:World} (h:Below w.heap.size w u) (b o:Nat) (hb:b<w.heap.size):u.cell? ⟨b,o,none⟩=w.cell? ⟨b,o,none⟩:=World.cell?_of_block (a:=⟨b,o,none⟩) (h.block b hb)
section
variable {w:World}
theorem cut_C (s:BA) (i j:Nat) (k:BA) (hij:i≤j) (hj:j≤s.size) (hs:s.size≤1000):
 Calls Tryz.prog 290 #[.string s,.int .i64 (i:Int),.int .i64 (j:Int),.string k] w fun e w'=>e=.returned (.agg #[.int .i64 (i:Int),.int .i64 (j:Int),.string k,.string (s.extract i j)])∧Below w.heap.size w w':=by
 have h1:(i:Int)≤(j:Int):=by omega
 have h2:(j:Int)≤(s.size:Int):=by omega
 go_enter Tryz.func290,Tryz.ntmps290
 go_wp2_with fail
 exact bodyPost_ret (v:=.agg #[.int .i64 (i:Int),.int .i64 (j:Int),.string k,.string (s.extract i j)]) (by simp [results,Tryz.results290,go_sem]) rfl ⟨rfl,bw _⟩
theorem noToken_C (i j:Int):Calls Tryz.prog 349 #[.int .i64 i,.int .i64 j] w fun e w'=>e=.returned (.agg #[.int .i64 2,.int .i64 i,.int .i64 j])∧Below w.heap.size w w':=by
 go_enter Tryz.func349,Tryz.ntmps349
 go_wp2_with fail
 exact bodyPost_ret (v:=.agg #[.int .i64 2,.int .i64 i,.int .i64 j]) (by simp [results,Tryz.results349,go_sem]) rfl ⟨rfl,bw _⟩
structure Laid (w:World):Prop where
 words:∀j,j<13→w.cell? ⟨1,j,none⟩=some (.string (Pu.wordAt j))
 signs:∀j,j<13→w.cell? ⟨0,j,none⟩=some (.string (qab j))
 hz:2≤w.heap.size
theorem Laid.bel {w w':World} (h:Laid w) (hb:Below w.heap.size w w'):Laid w':=
 ⟨fun j hj=>(oldCell' hb 1 j (by have:=h.hz;omega)).trans (h.words j hj),fun j hj=>(oldCell' hb 0 j (by have:=h.hz;omega)).trans (h.signs j hj),Nat.le_trans h.hz hb.size⟩
theorem isWord_C (h:Laid w) (s:BA):Calls Tryz.prog 348 #[.string s] w fun e w'=>e=.returned (.bool (Pu.wordB s))∧w'=w:=by
 have g0:=h.words 0 (by omega)
 have g1:=h.words 1 (by omega)
 have g2:=h.words 2 (by omega)
 have g3:=h.words 3 (by omega)
 have g4:=h.words 4 (by omega)
 have g5:=h.words 5 (by omega)
 have g6:=h.words 6 (by omega)
 have g7:=h.words 7 (by omega)
 have g8:=h.words 8 (by omega)
 have g9:=h.words 9 (by omega)
 have g10:=h.words 10 (by omega)
 have g11:=h.words 11 (by omega)
 have g12:=h.words 12 (by omega)
 clear h
 go_enter Tryz.func348,Tryz.ntmps348
 go_wp2_with fail
 go_loop [6] (fun v=>∃j:Nat,j≤13∧v=.int .i64 (j:Int)∧Hid (∀i,i<j→(s.toList==(Pu.wordAt i).toList)=false)) (fun v=>13-(intOf v).toNat)
 case atStart=>exact ⟨0,by omega,rfl,fun i h=>by omega⟩
 case round=>
  obtain ⟨j,hj,rfl,hno⟩:=hrel
  by_cases hlt:j<13
  ·have hcase:j=0∨j=1∨j=2∨j=3∨j=4∨j=5∨j=6∨j=7∨j=8∨j=9∨j=10∨j=11∨j=12:=by omega
   rcases hcase with rfl|rfl|rfl|rfl|rfl|rfl|rfl|rfl|rfl|rfl|rfl|rfl|rfl
   ·have hix:=idx13_0 (Pu.wordAt 0) (Pu.wordAt 1) (Pu.wordAt 2) (Pu.wordAt 3) (Pu.wordAt 4) (Pu.wordAt 5) (Pu.wordAt 6) (Pu.wordAt 7) (Pu.wordAt 8) (Pu.wordAt 9) (Pu.wordAt 10) (Pu.wordAt 11) (Pu.wordAt 12)
    cases he:(s.toList==(Pu.wordAt 0).toList) with
    |true=>
     have hb:Hid (Pu.wordB s=true):=Pu.wordB_at (k:=0) (by omega) (by rw [beq_comm'];exact he)
     go_wp2_with fail
     go_ret
     exact ⟨qa6 (uh hb).symm,rfl⟩
    |false=>
     have hn2:Hid (∀i,i<1→(s.toList==(Pu.wordAt i).toList)=false):=fun i hi=>by
      by_cases e:i=0
      ·subst e;exact he
      ·exact uh hno i (by omega)
     go_wp2_with fail
     go_round
     case rel=>exact ⟨1,by omega,by go_num,hn2⟩
     case measure=>simp [intOf]
   ·have hix:=idx13_1 (Pu.wordAt 0) (Pu.wordAt 1) (Pu.wordAt 2) (Pu.wordAt 3) (Pu.wordAt 4) (Pu.wordAt 5) (Pu.wordAt 6) (Pu.wordAt 7) (Pu.wordAt 8) (Pu.wordAt 9) (Pu.wordAt 10) (Pu.wordAt 11) (Pu.wordAt 12)
    cases he:(s.toList==(Pu.wordAt 1).toList) with
    |true=>
     have hb:Hid (Pu.wordB s=true):=Pu.wordB_at (k:=1) (by omega) (by rw [beq_comm'];exact he)
     go_wp2_with fail
     go_ret
     exact ⟨qa6 (uh hb).symm,rfl⟩
    |false=>
     have hn2:Hid (∀i,i<2→(s.toList==(Pu.wordAt i).toList)=false):=fun i hi=>by
      by_cases e:i=1
      ·subst e;exact he
      ·exact uh hno i (by omega)
     go_wp2_with fail
     go_round
     case rel=>exact ⟨2,by omega,by go_num,hn2⟩
     case measure=>simp [intOf]
   ·have hix:=idx13_2 (Pu.wordAt 0) (Pu.wordAt 1) (Pu.wordAt 2) (Pu.wordAt 3) (Pu.wordAt 4) (Pu.wordAt 5) (Pu.wordAt 6) (Pu.wordAt 7) (Pu.wordAt 8) (Pu.wordAt 9) (Pu.wordAt 10) (Pu.wordAt 11) (Pu.wordAt 12)
    cases he:(s.toList==(Pu.wordAt 2).toList) with
    |true=>
     have hb:Hid (Pu.wordB s=true):=Pu.wordB_at (k:=2) (by omega) (by rw [beq_comm'];exact he)
     go_wp2_with fail
     go_ret
     exact ⟨qa6 (uh hb).symm,rfl⟩
    |false=>
     have hn2:Hid (∀i,i<3→(s.toList==(Pu.wordAt i).toList)=false):=fun i hi=>by
      by_cases e:i=2
      ·subst e;exact he
      ·exact uh hno i (by omega)
     go_wp2_with fail
     go_round
     case rel=>exact ⟨3,by omega,by go_num,hn2⟩
     case measure=>simp [intOf]
   ·have hix:=idx13_3 (Pu.wordAt 0) (Pu.wordAt 1) (Pu.wordAt 2) (Pu.wordAt 3) (Pu.wordAt 4) (Pu.wordAt 5) (Pu.wordAt 6) (Pu.wordAt 7) (Pu.wordAt 8) (Pu.wordAt 9) (Pu.wordAt 10) (Pu.wordAt 11) (Pu.wordAt 12)
    cases he:(s.toList==(Pu.wordAt 3).toList) with
    |true=>
     have hb:Hid (Pu.wordB s=true):=Pu.wordB_at (k:=3) (by omega) (by rw [beq_comm'];exact he)
     go_wp2_with fail
     go_ret
     exact ⟨qa6 (uh hb).symm,rfl⟩
    |false=>
     have hn2:Hid (∀i,i<4→(s.toList==(Pu.wordAt i).toList)=false):=fun i hi=>by
      by_cases e:i=3
      ·subst e;exact he
      ·exact uh hno i (by omega)
     go_wp2_with fail
     go_round
     case rel=>exact ⟨4,by omega,by go_num,hn2⟩
     case measure=>simp [intOf]
   ·have hix:=idx13_4 (Pu.wordAt 0) (Pu.wordAt 1) (Pu.wordAt 2) (Pu.wordAt 3) (Pu.wordAt 4) (Pu.wordAt 5) (Pu.wordAt 6) (Pu.wordAt 7) (Pu.wordAt 8) (Pu.wordAt 9) (Pu.wordAt 10) (Pu.wordAt 11) (Pu.wordAt 12)
    cases he:(s.toList==(Pu.wordAt 4).toList) with
    |true=>
     have hb:Hid (Pu.wordB s=true):=Pu.wordB_at (k:=4) (by omega) (by rw [beq_comm'];exact he)
     go_wp2_with fail
     go_ret
     exact ⟨qa6 (uh hb).symm,rfl⟩
    |false=>
     have hn2:Hid (∀i,i<5→(s.toList==(Pu.wordAt i).toList)=false):=fun i hi=>by
      by_cases e:i=4
      ·subst e;exact he
      ·exact uh hno i (by omega)
     go_wp2_with fail
     go_round
     case rel=>exact ⟨5,by omega,by go_num,hn2⟩
     case measure=>simp [intOf]
   ·have hix:=idx13_5 (Pu.wordAt 0) (Pu.wordAt 1) (Pu.wordAt 2) (Pu.wordAt 3) (Pu.wordAt 4) (Pu.wordAt 5) (Pu.wordAt 6) (Pu.wordAt 7) (Pu.wordAt 8) (Pu.wordAt 9) (Pu.wordAt 10) (Pu.wordAt 11) (Pu.wordAt 12)
    cases he:(s.toList==(Pu.wordAt 5).toList) with
    |true=>
     have hb:Hid (Pu.wordB s=true):=Pu.wordB_at (k:=5) (by omega) (by rw [beq_comm'];exact he)
     go_wp2_with fail
     go_ret
     exact ⟨qa6 (uh hb).symm,rfl⟩
    |false=>
     have hn2:Hid (∀i,i<6→(s.toList==(Pu.wordAt i).toList)=false):=fun i hi=>by
      by_cases e:i=5
      ·subst e;exact he
      ·exact uh hno i (by omega)
     go_wp2_with fail
     go_round
     case rel=>exact ⟨6,by omega,by go_num,hn2⟩
     case measure=>simp [intOf]
   ·have hix:=idx13_6 (Pu.wordAt 0) (Pu.wordAt 1) (Pu.wordAt 2) (Pu.wordAt 3) (Pu.wordAt 4) (Pu.wordAt 5) (Pu.wordAt 6) (Pu.wordAt 7) (Pu.wordAt 8) (Pu.wordAt 9) (Pu.wordAt 10) (Pu.wordAt 11) (Pu.wordAt 12)
    cases he:(s.toList==(Pu.wordAt 6).toList) with
    |true=>
     have hb:Hid (Pu.wordB s=true):=Pu.wordB_at (k:=6) (by omega) (by rw [beq_comm'];exact he)
     go_wp2_with fail
     go_ret
     exact ⟨qa6 (uh hb).symm,rfl⟩
    |false=>
     have hn2:Hid (∀i,i<7→(s.toList==(Pu.wordAt i).toList)=false):=fun i hi=>by
      by_cases e:i=6
      ·subst e;exact he
      ·exact uh hno i (by omega)
     go_wp2_with fail
     go_round
     case rel=>exact ⟨7,by omega,by go_num,hn2⟩
     case measure=>simp [intOf]
   ·have hix:=idx13_7 (Pu.wordAt 0) (Pu.wordAt 1) (Pu.wordAt 2) (Pu.wordAt 3) (Pu.wordAt 4) (Pu.wordAt 5) (Pu.wordAt 6) (Pu.wordAt 7) (Pu.wordAt 8) (Pu.wordAt 9) (Pu.wordAt 10) (Pu.wordAt 11) (Pu.wordAt 12)
    cases he:(s.toList==(Pu.wordAt 7).toList) with
    |true=>
     have hb:Hid (Pu.wordB s=true):=Pu.wordB_at (k:=7) (by omega) (by rw [beq_comm'];exact he)
     go_wp2_with fail
     go_ret
     exact ⟨qa6 (uh hb).symm,rfl⟩
    |false=>
     have hn2:Hid (∀i,i<8→(s.toList==(Pu.wordAt i).toList)=false):=fun i hi=>by
      by_cases e:i=7
      ·subst e;exact he
      ·exact uh hno i (by omega)
     go_wp2_with fail
     go_round
     case rel=>exact ⟨8,by omega,by go_num,hn2⟩
     case measure=>simp [intOf]
   ·have hix:=idx13_8 (Pu.wordAt 0) (Pu.wordAt 1) (Pu.wordAt 2) (Pu.wordAt 3) (Pu.wordAt 4) (Pu.wordAt 5) (Pu.wordAt 6) (Pu.wordAt 7) (Pu.wordAt 8) (Pu.wordAt 9) (Pu.wordAt 10) (Pu.wordAt 11) (Pu.wordAt 12)
    cases he:(s.toList==(Pu.wordAt 8).toList) with
    |true=>
     have hb:Hid (Pu.wordB s=true):=Pu.wordB_at (k:=8) (by omega) (by rw [beq_comm'];exact he)
     go_wp2_with fail
     go_ret
     exact ⟨qa6 (uh hb).symm,rfl⟩
    |false=>
     have hn2:Hid (∀i,i<9→(s.toList==(Pu.wordAt i).toList)=false):=fun i hi=>by
      by_cases e:i=8
      ·subst e;exact he
      ·exact uh hno i (by omega)
     go_wp2_with fail
     go_round
     case rel=>exact ⟨9,by omega,by go_num,hn2⟩
     case measure=>simp [intOf]
   ·have hix:=idx13_9 (Pu.wordAt 0) (Pu.wordAt 1) (Pu.wordAt 2) (Pu.wordAt 3) (Pu.wordAt 4) (Pu.wordAt 5) (Pu.wordAt 6) (Pu.wordAt 7) (Pu.wordAt 8) (Pu.wordAt 9) (Pu.wordAt 10) (Pu.wordAt 11) (Pu.wordAt 12)
    cases he:(s.toList==(Pu.wordAt 9).toList) with
    |true=>
     have hb:Hid (Pu.wordB s=true):=Pu.wordB_at (k:=9) (by omega) (by rw [beq_comm'];exact he)
     go_wp2_with fail
     go_ret
     exact ⟨qa6 (uh hb).symm,rfl⟩
    |false=>
     have hn2:Hid (∀i,i<10→(s.toList==(Pu.wordAt i).toList)=false):=fun i hi=>by
      by_cases e:i=9
      ·subst e;exact he
      ·exact uh hno i (by omega)
     go_wp2_with fail
     go_round
     case rel=>exact ⟨10,by omega,by go_num,hn2⟩
     case measure=>simp [intOf]
   ·have hix:=idx13_10 (Pu.wordAt 0) (Pu.wordAt 1) (Pu.wordAt 2) (Pu.wordAt 3) (Pu.wordAt 4) (Pu.wordAt 5) (Pu.wordAt 6) (Pu.wordAt 7) (Pu.wordAt 8) (Pu.wordAt 9) (Pu.wordAt 10) (Pu.wordAt 11) (Pu.wordAt 12)
    cases he:(s.toList==(Pu.wordAt 10).toList) with
    |true=>
     have hb:Hid (Pu.wordB s=true):=Pu.wordB_at (k:=10) (by omega) (by rw [beq_comm'];exact he)
     go_wp2_with fail
     go_ret
     exact ⟨qa6 (uh hb).symm,rfl⟩
    |false=>
     have hn2:Hid (∀i,i<11→(s.toList==(Pu.wordAt i).toList)=false):=fun i hi=>by
      by_cases e:i=10
      ·subst e;exact he
      ·exact uh hno i (by omega)
     go_wp2_with fail
     go_round
     case rel=>exact ⟨11,by omega,by go_num,hn2⟩
     case measure=>simp [intOf]
   ·have hix:=idx13_11 (Pu.wordAt 0) (Pu.wordAt 1) (Pu.wordAt 2) (Pu.wordAt 3) (Pu.wordAt 4) (Pu.wordAt 5) (Pu.wordAt 6) (Pu.wordAt 7) (Pu.wordAt 8) (Pu.wordAt 9) (Pu.wordAt 10) (Pu.wordAt 11) (Pu.wordAt 12)
    cases he:(s.toList==(Pu.wordAt 11).toList) with
    |true=>
     have hb:Hid (Pu.wordB s=true):=Pu.wordB_at (k:=11) (by omega) (by rw [beq_comm'];exact he)
     go_wp2_with fail
     go_ret
     exact ⟨qa6 (uh hb).symm,rfl⟩
    |false=>
     have hn2:Hid (∀i,i<12→(s.toList==(Pu.wordAt i).toList)=false):=fun i hi=>by
      by_cases e:i=11
      ·subst e;exact he
      ·exact uh hno i (by omega)
     go_wp2_with fail
     go_round
     case rel=>exact ⟨12,by omega,by go_num,hn2⟩
     case measure=>simp [intOf]
   ·have hix:=idx13_12 (Pu.wordAt 0) (Pu.wordAt 1) (Pu.wordAt 2) (Pu.wordAt 3) (Pu.wordAt 4) (Pu.wordAt 5) (Pu.wordAt 6) (Pu.wordAt 7) (Pu.wordAt 8) (Pu.wordAt 9) (Pu.wordAt 10) (Pu.wordAt 11) (Pu.wordAt 12)
    cases he:(s.toList==(Pu.wordAt 12).toList) with
    |true=>
     have hb:Hid (Pu.wordB s=true):=Pu.wordB_at (k:=12) (by omega) (by rw [beq_comm'];exact he)
     go_wp2_with fail
     go_ret
     exact ⟨qa6 (uh hb).symm,rfl⟩
    |false=>
     have hn2:Hid (∀i,i<13→(s.toList==(Pu.wordAt i).toList)=false):=fun i hi=>by
      by_cases e:i=12
      ·subst e;exact he
      ·exact uh hno i (by omega)
     go_wp2_with fail
     go_round
     case rel=>exact ⟨13,by omega,by go_num,hn2⟩
     case measure=>simp [intOf]
  ·have hb:Hid (Pu.wordB s=false):=Pu.wordB_none (fun i hi=>by rw [beq_comm'];exact uh hno i (by omega))
   go_wp2_with fail
   go_ret
   exact ⟨qa6 (uh hb).symm,rfl⟩
end
end
section
open Go Go.RowKit
section
variable {rb g cap:Nat} {T:List Pu.Tok} {σ:St} {w:World}
theorem isS_yes {s:BA} (h:isS T σ s=true):∃k,σ=.ok k∧isT (tk T k) s=true∧(tk T k).kind=5:=by
 cases σ with
 |ok k=>exact ⟨k,rfl,h,by simp [isS,isT] at h;exact h.1⟩
 |error f=>simp [isS] at h
theorem ofS_yes {n:Nat} (h:ofS T σ n=true):∃k,σ=.ok k∧(tk T k).kind=n:=by
 cases σ with
 |ok k=>exact ⟨k,rfl,by simpa [ofS] using h⟩
 |error f=>simp [ofS] at h
theorem qcb (h:SS w rb g cap T σ) (s:BA):
 Calls Tryz.prog 60 #[.pointer (some ⟨rb,0,none⟩),.string s] w fun e w'=>e=.returned (.tuple #[])∧Ke rb w w'∧SS w' rb g cap T (nx σ (qaf T s)):=by
 rcases hi:isS T σ s with _|_
 ·have E:nx σ (qaf T s)=nx σ (qb0 (α:=Unit) T):=by
   cases σ with
   |ok k=>simp [isS] at hi;simp [nx,qaf,qb0,hi]
   |error f=>rfl
  rw [E]
  clear E
  go_enter Tryz.func60,Tryz.ntmps60
  go_wp2_with (first|(go_at_call 57;refine (is_S h s).mono ?_;rintro e w1 ⟨rfl,hb1⟩;have h1:=ai (h.below hb1))|(go_at_call 117;refine (wrong_S (α:=Unit) (uh h1)).mono ?_;rintro e w2 ⟨rfl,hk2,h2⟩))
  exact bodyPost_ret (v:=.tuple #[]) (by simp [results,Tryz.results60,go_sem]) rfl ⟨rfl,(Ke.of hb1).trans hk2,h2⟩
 ·obtain ⟨k,rfl,hk,h5⟩:=isS_yes hi
  have E:nx (.ok k) (qaf T s)=.ok (k+1):=by simp [nx,qaf,hk]
  rw [E]
  have h7:(tk T k).kind≠7:=by omega
  clear E hk h5
  go_enter Tryz.func60,Tryz.ntmps60
  go_wp2_with (first|(go_at_call 57;refine (is_S h s).mono ?_;rintro e w1 ⟨rfl,hb1⟩;have h1:=ai (h.below hb1))|(go_at_call 116;refine (qcl (uh h1) h7).mono ?_;rintro e w2 ⟨rfl,hk2,h2⟩))
  go_end0
  exact ⟨rfl,(Ke.of hb1).trans hk2,h2⟩
theorem name_S (h:SS w rb g cap T σ) (n:Nat) (hn7:n≠7):
 Calls Tryz.prog 115 #[.pointer (some ⟨rb,0,none⟩),.int .i64 (n:Int)] w fun e w'=>∃t,e=.returned (tokV t)∧Ke rb w w'∧SS w' rb g cap T (nx σ (qa3 T n))∧(∀k a k',σ=.ok k→qa3 T n k=.ok (a,k')→t=a):=by
 rcases hi:ofS T σ n with _|_
 ·have E:nx σ (qa3 T n)=nx σ (qb0 (α:=Unit) T):=by
   cases σ with
   |ok k=>simp [ofS] at hi;simp [nx,qa3,qb0,hi]
   |error f=>rfl
  have E2:∀k a k',σ=.ok k→qa3 T n k=.ok (a,k')→False:=by
   intro k a k' hs hm
   subst hs
   simp [ofS] at hi;simp [qa3,hi] at hm
  rw [E]
  have H2:=ai E2
  clear E E2
  go_enter Tryz.func115,Tryz.ntmps115
  have hr:=h.hr
  have hg:=h.hg
  have h0:=ai (h.alloc (.cells #[.int .i64 0,.string ⟨#[]⟩,.int .i64 0,.int .i64 0] 58))
  have B0:=ai (Bx.new w #[.int .i64 0,.string ⟨#[]⟩,.int .i64 0,.int .i64 0] 58)
  go_wp2_with (first|(go_at_call 56;refine (of_S (uh h0) n).mono ?_;rintro e w1 ⟨rfl,hb1⟩;have h1:=ai ((uh h0).below hb1);have B1:=ai ((uh B0).below hb1))|(go_at_call 117;refine (wrong_S (α:=Unit) (uh h1)).mono ?_;rintro e w2 ⟨rfl,hk2,h2⟩;obtain ⟨c2,f2,z2⟩:=(uh B1).ke hk2 (by omega)))
  refine bodyPost_ret (v:=tokV ⟨0,⟨#[]⟩,0,0⟩) (by simp [results,Tryz.results115,go_sem,c2,z2,tokV];try rfl) rfl ⟨_,rfl,?_,?_,fun k a k' hs hm=>absurd (uh H2 k a k' hs hm) id⟩
  ·have K0:Ke rb w w2:=((Ke.of (bw _)).trans (Ke.of hb1)).trans hk2
   exact (((K0.setNew (br _) _ _).setNew (br _) _ _).setNew (br _) _ _).setNew (br _) _ _
  ·exact (((h2.set (by omega) (by omega) _ _).set (by omega) (by omega) _ _).set (by omega) (by omega) _ _).set (by omega) (by omega) _ _
 ·obtain ⟨k,rfl,hk⟩:=ofS_yes hi
  have E:nx (.ok k) (qa3 T n)=.ok (k+1):=by simp [nx,qa3,hk]
  rw [E]
  have E2:∀j a k',(Except.ok k:St)=.ok j→qa3 T n j=.ok (a,k')→tk T k=a:=by
   intro j a k' hs hm
   cases hs
   simp [qa3,hk] at hm
   exact hm.1
  have H2:=ai E2
  have h7:(tk T k).kind≠7:=by omega
  clear E E2 hk
  have hr:=h.hr
  have hg:=h.hg
  have h0:=ai (h.alloc (.cells #[.int .i64 0,.string ⟨#[]⟩,.int .i64 0,.int .i64 0] 58))
  have B0:=ai (Bx.new w #[.int .i64 0,.string ⟨#[]⟩,.int .i64 0,.int .i64 0] 58)
  go_enter Tryz.func115,Tryz.ntmps115
  go_wp2_with (first|(go_at_call 56;refine (of_S (uh h0) n).mono ?_;rintro e w1 ⟨rfl,hb1⟩;have h1:=ai ((uh h0).below hb1);have B1:=ai ((uh B0).below hb1))|(go_at_call 116;refine (qcl (uh h1) h7).mono ?_;rintro e w2 ⟨rfl,hk2,h2⟩;unfold tokV;obtain ⟨c2,f2,z2⟩:=(uh B1).ke hk2 (by omega)))
  refine bodyPost_ret (v:=tokV (tk T k)) (by simp [results,Tryz.results115,go_sem,c2,z2,tokV];try rfl) rfl ⟨_,rfl,?_,?_,uh H2⟩
  ·have K0:Ke rb w w2:=((Ke.of (bw _)).trans (Ke.of hb1)).trans hk2
   exact (((K0.setNew (br _) _ _).setNew (br _) _ _).setNew (br _) _ _).setNew (br _) _ _
  ·exact (((h2.set (by omega) (by omega) _ _).set (by omega) (by omega) _ _).set (by omega) (by omega) _ _).set (by omega) (by omega) _ _
end
end
section
open Go Go.RowKit
section
variable {rb g cap:Nat} {T:List Pu.Tok} {σ:St} {w:World}
theorem last_any {k:Nat} {f:Fl} (h:RS w rb g cap T k f):
 Calls Tryz.prog 206 #[.pointer (some ⟨rb,0,none⟩)] w fun e w'=>e=.returned (.int .i64 (qal T k:Int))∧Below w.heap.size w w':=by
 by_cases h0:k=0
 ·subst h0
  have h1:=h.c1
  clear h
  go_enter Tryz.func206,Tryz.ntmps206
  go_wp2
  go_ret
  exact ⟨rfl,Below.refl _ _⟩
 ·obtain ⟨j,rfl⟩:∃j,k=j+1:=⟨k-1,by omega⟩
  have hj:j<T.length:=by have:=h.hk;omega
  obtain ⟨t0,t1,t2,t3⟩:=h.tk j hj
  have c0:=h.c0
  have h1:=h.c1
  have hrb:=h.hr
  have hg:=h.hg
  have hk:((j:Int)+1)<(T.length:Int):=by have:=h.hk;omega
  have hk2:(j:Int)≤1001:=by have:=h.hk;have:=h.hT;omega
  have E:(((j+1:Nat):Int)==0)=false:=by simp;omega
  rw [tk_eq hj] at t0 t1 t2 t3
  have L:=ai (show qal T (j+1)=(tk T j).to by simp [qal])
  generalize tk T j=t at*
  clear h h0 hj
  go_enter Tryz.func206,Tryz.ntmps206
  go_wp2
  go_quiet (fail)
  go_wp2
  go_ret
  exact ⟨retInt (by rw [uh L]),⟨rfl,rfl,rfl,br _,fun _ _=>rfl⟩⟩
theorem qdl (h:SS w rb g cap T σ):
 Calls Tryz.prog 206 #[.pointer (some ⟨rb,0,none⟩)] w fun e w'=>∃n:Nat,e=.returned (.int .i64 (n:Int))∧Below w.heap.size w w'∧(∀k,σ=.ok k→n=qal T k):=by
 obtain ⟨k,f,hR,hs⟩:=h.any
 refine (last_any hR).mono ?_
 rintro e w' ⟨rfl,hb⟩
 refine ⟨_,rfl,hb,fun j hj=>?_⟩
 rcases hs with ⟨rfl,_⟩|⟨rfl,_⟩
 ·cases hj;rfl
 ·cases hj
end
def numF (s:BA):Nat→Nat
 |0=>0
 |k+1=>10*numF s k+(Pu.at_ s k+208)%256
def numB (s:BA):Nat:=numF s (min s.size 9)
theorem numF_le (s:BA):∀k,k≤9→numF s k≤255*111111111:=by
 have:∀k,9*numF s k+255≤255*10^k:=by
  intro k
  induction k with
  |zero=>simp [numF]
  |succ k ih=>simp only [numF,Nat.pow_succ];omega
 intro k hk
 have h:=this k
 have h2:10^k≤10^9:=Nat.pow_le_pow_right (by omega) hk
 omega
theorem qcp (s:BA) (w:World):
 Calls Tryz.prog 354 #[.string s] w fun e w'=>e=.returned (.int .i64 (numB s:Int))∧w'=w:=by
 go_enter Tryz.func354,Tryz.ntmps354
 go_wp2
 go_loop [3,4] (fun n i=>∃k:Nat,k≤s.size∧k≤9∧i=.int .i64 (k:Int)∧n=.int .i64 (numF s k:Int)) (fun _ i=>9-(intOf i).toNat)
 case atStart=>exact ⟨0,by omega,by omega,rfl,rfl⟩
 case round=>
  obtain ⟨k,h1,h2,rfl,rfl⟩:=hrel
  have hb:=numF_le s k h2
  by_cases ha:k<s.size
  ·by_cases hb:k<9
   ·go_wp2
    refine ⟨⟨k+1,by omega,by omega,by go_num,congrArg (Value.int .i64) ?_⟩,by simp [intOf];omega⟩
    simp only [numF,Pu.at_lt ha]
    omega
   ·go_wp2
    go_ret
    exact ⟨retInt (by unfold numB;rw [show min s.size 9=k by omega]),rfl⟩
  ·go_wp2
   go_ret
   exact ⟨retInt (by unfold numB;rw [show min s.size 9=k by omega]),rfl⟩
end
section
open Go Go.RowKit
inductive Nd where
 |mk (kind:Nat) (s:BA) (n:Nat) (L:List Nd) (frm to at_:Nat):Nd
def qce (kind:Int) (s:BA) (n:Int) (L:Value) (frm to at_:Int):Value:=.agg #[.int .i64 kind,.string s,.int .i64 n,L,.int .i64 frm,.int .i64 to,.int .i64 at_]
theorem qbz (l:List UInt8):(ByteArray.mk l.toArray).toList=l:=by
 rw [ByteArray.toList_eq]
abbrev kTrue:BA:=⟨#[116,114,117,101]⟩
abbrev kFalse:BA:=⟨#[102,97,108,115,101]⟩
abbrev kAny:BA:=⟨#[95]⟩
abbrev qd6:BA:=⟨#[40]⟩
def qa0 (t:Pu.Tok):Nat:=
 if t.kind=1 then 1 else if t.kind=2 then 2 else if t.kind=3 then 16 else if t.kind=4 then 3
 else if isT t kTrue=true∨isT t kFalse=true then 4 else if isT t kAny=true then 15 else 0
def qa5 (t:Pu.Tok):Nat:=if t.kind=4 then numB t.text else 0
def qcd (t:Pu.Tok):Value:=qce (qa0 t:Int) t.text (qa5 t:Int) (.slice none 0 0) (t.frm:Int) (t.to:Int) (t.frm:Int)
theorem isT_mk (t:Pu.Tok) (l:List UInt8):isT t ⟨l.toArray⟩=(t.kind==5&&t.text.toList==l):=by unfold isT;rw [qbz l]
theorem qe0 (t:Pu.Tok):isT t kTrue=(t.kind==5&&t.text.toList==[116,114,117,101]):=isT_mk t _
theorem qep (t:Pu.Tok):isT t kFalse=(t.kind==5&&t.text.toList==[102,97,108,115,101]):=isT_mk t _
theorem isT_any (t:Pu.Tok):isT t kAny=(t.kind==5&&t.text.toList==[95]):=isT_mk t _
theorem qdt (t:Pu.Tok):isT t qd6=(t.kind==5&&t.text.toList==[40]):=isT_mk t _
theorem leaf_k1 (t:Pu.Tok) (w:World) (h:t.kind=1):
 Calls Tryz.prog 304 #[tokV t] w fun e w'=>e=.returned (qcd t)∧Below w.heap.size w w':=by
 have hK:qa0 t=1:=by simp [qa0,h]
 have hN:qa5 t=0:=by simp [qa5,h]
 have H:=ai (show qcd t=qce 1 t.text (0) (.slice none 0 0) (t.frm:Int) (t.to:Int) (t.frm:Int) by unfold qcd;rw [hK,hN];try rfl)
 have e1:((t.kind:Int)==1)=true:=by rw [h];rfl
 clear hK hN h
 unfold tokV
 go_enter Tryz.func304,Tryz.ntmps304
 go_wp2_with (go_at_call 354;refine (qcp _ _).mono ?_;rintro e w' ⟨rfl,rfl⟩)
 refine bodyPost_ret (v:=qce 1 t.text (0) (.slice none 0 0) (t.frm:Int) (t.to:Int) (t.frm:Int)) (by simp [results,Tryz.results304,go_sem,qce];try rfl) rfl ⟨by rw [uh H],?_⟩
 exact ((bw _).alloc (by simp) _).alloc (by simp;try omega) _
theorem leaf_k2 (t:Pu.Tok) (w:World) (h:t.kind=2):
 Calls Tryz.prog 304 #[tokV t] w fun e w'=>e=.returned (qcd t)∧Below w.heap.size w w':=by
 have hK:qa0 t=2:=by simp [qa0,h]
 have hN:qa5 t=0:=by simp [qa5,h]
 have H:=ai (show qcd t=qce 2 t.text (0) (.slice none 0 0) (t.frm:Int) (t.to:Int) (t.frm:Int) by unfold qcd;rw [hK,hN];try rfl)
 have e1:((t.kind:Int)==1)=false:=by rw [h];rfl
 have e2:((t.kind:Int)==2)=true:=by rw [h];rfl
 clear hK hN h
 unfold tokV
 go_enter Tryz.func304,Tryz.ntmps304
 go_wp2_with (go_at_call 354;refine (qcp _ _).mono ?_;rintro e w' ⟨rfl,rfl⟩)
 refine bodyPost_ret (v:=qce 2 t.text (0) (.slice none 0 0) (t.frm:Int) (t.to:Int) (t.frm:Int)) (by simp [results,Tryz.results304,go_sem,qce];try rfl) rfl ⟨by rw [uh H],?_⟩
 exact ((bw _).alloc (by simp) _).alloc (by simp;try omega) _
theorem leaf_k3 (t:Pu.Tok) (w:World) (h:t.kind=3):
 Calls Tryz.prog 304 #[tokV t] w fun e w'=>e=.returned (qcd t)∧Below w.heap.size w w':=by
 have hK:qa0 t=16:=by simp [qa0,h]
 have hN:qa5 t=0:=by simp [qa5,h]
 have H:=ai (show qcd t=qce 16 t.text (0) (.slice none 0 0) (t.frm:Int) (t.to:Int) (t.frm:Int) by unfold qcd;rw [hK,hN];try rfl)
 have e1:((t.kind:Int)==1)=false:=by rw [h];rfl
 have e2:((t.kind:Int)==2)=false:=by rw [h];rfl
 have e3:((t.kind:Int)==3)=true:=by rw [h];rfl
 clear hK hN h
 unfold tokV
 go_enter Tryz.func304,Tryz.ntmps304
 go_wp2_with (go_at_call 354;refine (qcp _ _).mono ?_;rintro e w' ⟨rfl,rfl⟩)
 refine bodyPost_ret (v:=qce 16 t.text (0) (.slice none 0 0) (t.frm:Int) (t.to:Int) (t.frm:Int)) (by simp [results,Tryz.results304,go_sem,qce];try rfl) rfl ⟨by rw [uh H],?_⟩
 exact ((bw _).alloc (by simp) _).alloc (by simp;try omega) _
theorem leaf_k4 (t:Pu.Tok) (w:World) (h:t.kind=4):
 Calls Tryz.prog 304 #[tokV t] w fun e w'=>e=.returned (qcd t)∧Below w.heap.size w w':=by
 have hK:qa0 t=3:=by simp [qa0,h]
 have hN:qa5 t=numB t.text:=by simp [qa5,h]
 have H:=ai (show qcd t=qce 3 t.text ((numB t.text:Int)) (.slice none 0 0) (t.frm:Int) (t.to:Int) (t.frm:Int) by unfold qcd;rw [hK,hN];try rfl)
 have e1:((t.kind:Int)==1)=false:=by rw [h];rfl
 have e2:((t.kind:Int)==2)=false:=by rw [h];rfl
 have e3:((t.kind:Int)==3)=false:=by rw [h];rfl
 have e4:((t.kind:Int)==4)=true:=by rw [h];rfl
 clear hK hN h
 unfold tokV
 go_enter Tryz.func304,Tryz.ntmps304
 go_wp2_with (go_at_call 354;refine (qcp _ _).mono ?_;rintro e w' ⟨rfl,rfl⟩)
 refine bodyPost_ret (v:=qce 3 t.text ((numB t.text:Int)) (.slice none 0 0) (t.frm:Int) (t.to:Int) (t.frm:Int)) (by simp [results,Tryz.results304,go_sem,qce];try rfl) rfl ⟨by rw [uh H],?_⟩
 exact ((bw _).alloc (by simp) _).alloc (by simp;try omega) _
theorem leaf_true (t:Pu.Tok) (w:World) (h:t.kind=5) (q1:(t.text.toList==[116,114,117,101])=true):
 Calls Tryz.prog 304 #[tokV t] w fun e w'=>e=.returned (qcd t)∧Below w.heap.size w w':=by
 have hK:qa0 t=4:=by unfold qa0;rw [qe0];simp [h,q1]
 have hN:qa5 t=0:=by simp [qa5,h]
 have H:=ai (show qcd t=qce 4 t.text (0) (.slice none 0 0) (t.frm:Int) (t.to:Int) (t.frm:Int) by unfold qcd;rw [hK,hN];try rfl)
 have e1:((t.kind:Int)==1)=false:=by rw [h];rfl
 have e2:((t.kind:Int)==2)=false:=by rw [h];rfl
 have e3:((t.kind:Int)==3)=false:=by rw [h];rfl
 have e4:((t.kind:Int)==4)=false:=by rw [h];rfl
 have e5:((t.kind:Int)==5)=true:=by rw [h];rfl
 clear hK hN h
 unfold tokV
 go_enter Tryz.func304,Tryz.ntmps304
 go_wp2_with (go_at_call 354;refine (qcp _ _).mono ?_;rintro e w' ⟨rfl,rfl⟩)
 refine bodyPost_ret (v:=qce 4 t.text (0) (.slice none 0 0) (t.frm:Int) (t.to:Int) (t.frm:Int)) (by simp [results,Tryz.results304,go_sem,qce];try rfl) rfl ⟨by rw [uh H],?_⟩
 exact ((bw _).alloc (by simp) _).alloc (by simp;try omega) _
theorem leaf_false (t:Pu.Tok) (w:World) (h:t.kind=5) (q1:(t.text.toList==[116,114,117,101])=false) (q2:(t.text.toList==[102,97,108,115,101])=true):
 Calls Tryz.prog 304 #[tokV t] w fun e w'=>e=.returned (qcd t)∧Below w.heap.size w w':=by
 have hK:qa0 t=4:=by unfold qa0;rw [qe0,qep];simp [h,q1,q2]
 have hN:qa5 t=0:=by simp [qa5,h]
 have H:=ai (show qcd t=qce 4 t.text (0) (.slice none 0 0) (t.frm:Int) (t.to:Int) (t.frm:Int) by unfold qcd;rw [hK,hN];try rfl)
 have e1:((t.kind:Int)==1)=false:=by rw [h];rfl
 have e2:((t.kind:Int)==2)=false:=by rw [h];rfl
 have e3:((t.kind:Int)==3)=false:=by rw [h];rfl
 have e4:((t.kind:Int)==4)=false:=by rw [h];rfl
 have e5:((t.kind:Int)==5)=true:=by rw [h];rfl
 clear hK hN h
 unfold tokV
 go_enter Tryz.func304,Tryz.ntmps304
 go_wp2_with (go_at_call 354;refine (qcp _ _).mono ?_;rintro e w' ⟨rfl,rfl⟩)
 refine bodyPost_ret (v:=qce 4 t.text (0) (.slice none 0 0) (t.frm:Int) (t.to:Int) (t.frm:Int)) (by simp [results,Tryz.results304,go_sem,qce];try rfl) rfl ⟨by rw [uh H],?_⟩
 exact ((bw _).alloc (by simp) _).alloc (by simp;try omega) _
theorem leaf_under (t:Pu.Tok) (w:World) (h:t.kind=5) (q1:(t.text.toList==[116,114,117,101])=false) (q2:(t.text.toList==[102,97,108,115,101])=false) (q3:(t.text.toList==[95])=true):
 Calls Tryz.prog 304 #[tokV t] w fun e w'=>e=.returned (qcd t)∧Below w.heap.size w w':=by
 have hK:qa0 t=15:=by unfold qa0;rw [qe0,qep,isT_any];simp [h,q1,q2,q3]
 have hN:qa5 t=0:=by simp [qa5,h]
 have H:=ai (show qcd t=qce 15 t.text (0) (.slice none 0 0) (t.frm:Int) (t.to:Int) (t.frm:Int) by unfold qcd;rw [hK,hN];try rfl)
 have e1:((t.kind:Int)==1)=false:=by rw [h];rfl
 have e2:((t.kind:Int)==2)=false:=by rw [h];rfl
 have e3:((t.kind:Int)==3)=false:=by rw [h];rfl
 have e4:((t.kind:Int)==4)=false:=by rw [h];rfl
 have e5:((t.kind:Int)==5)=true:=by rw [h];rfl
 clear hK hN h
 unfold tokV
 go_enter Tryz.func304,Tryz.ntmps304
 go_wp2_with (go_at_call 354;refine (qcp _ _).mono ?_;rintro e w' ⟨rfl,rfl⟩)
 refine bodyPost_ret (v:=qce 15 t.text (0) (.slice none 0 0) (t.frm:Int) (t.to:Int) (t.frm:Int)) (by simp [results,Tryz.results304,go_sem,qce];try rfl) rfl ⟨by rw [uh H],?_⟩
 exact ((bw _).alloc (by simp) _).alloc (by simp;try omega) _
theorem leaf_sign (t:Pu.Tok) (w:World) (h:t.kind=5) (q1:(t.text.toList==[116,114,117,101])=false) (q2:(t.text.toList==[102,97,108,115,101])=false) (q3:(t.text.toList==[95])=false):
 Calls Tryz.prog 304 #[tokV t] w fun e w'=>e=.returned (qcd t)∧Below w.heap.size w w':=by
 have hK:qa0 t=0:=by unfold qa0;rw [qe0,qep,isT_any];simp [h,q1,q2,q3]
 have hN:qa5 t=0:=by simp [qa5,h]
 have H:=ai (show qcd t=qce 0 t.text (0) (.slice none 0 0) (t.frm:Int) (t.to:Int) (t.frm:Int) by unfold qcd;rw [hK,hN];try rfl)
 have e1:((t.kind:Int)==1)=false:=by rw [h];rfl
 have e2:((t.kind:Int)==2)=false:=by rw [h];rfl
 have e3:((t.kind:Int)==3)=false:=by rw [h];rfl
 have e4:((t.kind:Int)==4)=false:=by rw [h];rfl
 have e5:((t.kind:Int)==5)=true:=by rw [h];rfl
 clear hK hN h
 unfold tokV
 go_enter Tryz.func304,Tryz.ntmps304
 go_wp2_with (go_at_call 354;refine (qcp _ _).mono ?_;rintro e w' ⟨rfl,rfl⟩)
 refine bodyPost_ret (v:=qce 0 t.text (0) (.slice none 0 0) (t.frm:Int) (t.to:Int) (t.frm:Int)) (by simp [results,Tryz.results304,go_sem,qce];try rfl) rfl ⟨by rw [uh H],?_⟩
 exact ((bw _).alloc (by simp) _).alloc (by simp;try omega) _
theorem leaf_no (t:Pu.Tok) (w:World) (h:t.kind≠1∧t.kind≠2∧t.kind≠3∧t.kind≠4∧t.kind≠5):
 Calls Tryz.prog 304 #[tokV t] w fun e w'=>e=.returned (qcd t)∧Below w.heap.size w w':=by
 have hK:qa0 t=0:=by unfold qa0;rw [qe0,qep,isT_any];simp [h]
 have hN:qa5 t=0:=by simp [qa5,h]
 have H:=ai (show qcd t=qce 0 t.text (0) (.slice none 0 0) (t.frm:Int) (t.to:Int) (t.frm:Int) by unfold qcd;rw [hK,hN];try rfl)
 have e1:((t.kind:Int)==1)=false:=by simp;omega
 have e2:((t.kind:Int)==2)=false:=by simp;omega
 have e3:((t.kind:Int)==3)=false:=by simp;omega
 have e4:((t.kind:Int)==4)=false:=by simp;omega
 have e5:((t.kind:Int)==5)=false:=by simp;omega
 clear hK hN h
 unfold tokV
 go_enter Tryz.func304,Tryz.ntmps304
 go_wp2_with (go_at_call 354;refine (qcp _ _).mono ?_;rintro e w' ⟨rfl,rfl⟩)
 refine bodyPost_ret (v:=qce 0 t.text (0) (.slice none 0 0) (t.frm:Int) (t.to:Int) (t.frm:Int)) (by simp [results,Tryz.results304,go_sem,qce];try rfl) rfl ⟨by rw [uh H],?_⟩
 exact ((bw _).alloc (by simp) _).alloc (by simp;try omega) _
theorem leaf_any (t:Pu.Tok) (w:World):
 Calls Tryz.prog 304 #[tokV t] w fun e w'=>e=.returned (qcd t)∧Below w.heap.size w w':=by
 by_cases h1:t.kind=1
 ·exact leaf_k1 t w h1
 by_cases h2:t.kind=2
 ·exact leaf_k2 t w h2
 by_cases h3:t.kind=3
 ·exact leaf_k3 t w h3
 by_cases h4:t.kind=4
 ·exact leaf_k4 t w h4
 by_cases h5:t.kind=5
 ·rcases q1:(t.text.toList==[116,114,117,101]) with _|_
  ·rcases q2:(t.text.toList==[102,97,108,115,101]) with _|_
   ·rcases q3:(t.text.toList==[95]) with _|_
    ·exact leaf_sign t w h5 q1 q2 q3
    ·exact leaf_under t w h5 q1 q2 q3
   ·exact leaf_false t w h5 q1 q2
  ·exact leaf_true t w h5 q1
 ·exact leaf_no t w ⟨h1,h2,h3,h4,h5⟩
end
section
open Go Go.RowKit
def qah (t:Pu.Tok) (sort:Nat):Bool:=isT t qd6||
 (if sort=1 then qa0 t==16||qa0 t==2 else if sort=2 then qa0 t==15||qa0 t==1||qa0 t==2||qa0 t==3||qa0 t==4 else qa0 t==1||qa0 t==2||qa0 t==3||qa0 t==4)
theorem node_f0 (a0 a1 a2 a3 a4 a5 a6:Value) (w:World):(Instr.field 62 (.agg #[a0,a1,a2,a3,a4,a5,a6]) 0).run Tryz.prog w=.ok a0 w:=by kernel_rfl
theorem leafK_of (t:Pu.Tok):qa0 t=0∨qa0 t=1∨qa0 t=2∨qa0 t=3∨qa0 t=4∨qa0 t=15∨qa0 t=16:=by
 unfold qa0
 repeat (first|omega|split)
theorem begins_no (t:Pu.Tok) (w:World) (sort:Nat) (hs:sort=1∨sort=2∨sort=3) (h:isT t qd6=false):
 Calls Tryz.prog 204 #[tokV t,.int .i64 (sort:Int)] w fun e w'=>e=.returned (.bool (qah t sort))∧Below w.heap.size w w':=by
 have ho:(t.kind=5∧(t.text.toList==[40])=false)∨t.kind≠5:=by
  rw [qdt] at h
  by_cases k:t.kind=5
  ·simp [k] at h;exact Or.inl ⟨k,by simpa using h⟩
  ·exact Or.inr k
 have H:=ai (show qah t sort=_ by unfold qah;rw [h])
 have hl:=leafK_of t
 clear h
 unfold tokV
 rcases ho with ⟨k5,q1⟩|k5
 ·have e5:((t.kind:Int)==5)=true:=by rw [k5];rfl
  clear k5
  rcases hs with rfl|rfl|rfl<;>rcases hl with hl|hl|hl|hl|hl|hl|hl
  all_goals
   have hf0:=node_f0
   go_enter Tryz.func204,Tryz.ntmps204
   go_wp2_with (go_at_call 304;refine (leaf_any t _).mono ?_;rintro e w1 ⟨rfl,hb1⟩;unfold qcd qce)
   go_ret
   exact ⟨qa6 (by rw [uh H,hl];rfl),(bw _).trans (hb1.mono (by simp))⟩
 ·have e5:((t.kind:Int)==5)=false:=by simp;omega
  clear k5
  rcases hs with rfl|rfl|rfl<;>rcases hl with hl|hl|hl|hl|hl|hl|hl
  all_goals
   have hf0:=node_f0
   go_enter Tryz.func204,Tryz.ntmps204
   go_wp2_with (go_at_call 304;refine (leaf_any t _).mono ?_;rintro e w1 ⟨rfl,hb1⟩;unfold qcd qce)
   go_ret
   exact ⟨qa6 (by rw [uh H,hl];rfl),(bw _).trans (hb1.mono (by simp))⟩
theorem begins_yes (t:Pu.Tok) (w:World) (sort:Nat) (h:isT t qd6=true):
 Calls Tryz.prog 204 #[tokV t,.int .i64 (sort:Int)] w fun e w'=>e=.returned (.bool (qah t sort))∧Below w.heap.size w w':=by
 have ho:t.kind=5∧(t.text.toList==[40])=true:=by rw [qdt] at h;simpa using h
 have H:=ai (show qah t sort=true by unfold qah;rw [h];rfl)
 obtain ⟨k5,q1⟩:=ho
 have e5:((t.kind:Int)==5)=true:=by rw [k5];rfl
 clear h k5
 unfold tokV
 go_enter Tryz.func204,Tryz.ntmps204
 go_wp2_with fail
 go_ret
 exact ⟨qa6 (uh H).symm,bw _⟩
theorem qbr (t:Pu.Tok) (w:World) (sort:Nat) (hs:sort=1∨sort=2∨sort=3):
 Calls Tryz.prog 204 #[tokV t,.int .i64 (sort:Int)] w fun e w'=>e=.returned (.bool (qah t sort))∧Below w.heap.size w w':=by
 rcases h:isT t qd6 with _|_
 ·exact begins_no t w sort hs h
 ·exact begins_yes t w sort h
end
section
open Go Go.RowKit
abbrev kNo:BA:=⟨#[]⟩
abbrev kClose:BA:=⟨#[41]⟩
abbrev kComma:BA:=⟨#[44]⟩
abbrev qec:BA:=⟨#[58]⟩
abbrev kArrow:BA:=⟨#[45,62]⟩
abbrev qbu:BA:=⟨#[42]⟩
abbrev qcx:BA:=⟨#[43]⟩
abbrev qb1:BA:=⟨#[45]⟩
abbrev qb6:BA:=⟨#[60]⟩
abbrev kFun:BA:=⟨#[102,117,110]⟩
abbrev kLet:BA:=⟨#[108,101,116]⟩
abbrev kRec:BA:=⟨#[114,101,99]⟩
abbrev kIn:BA:=⟨#[105,110]⟩
abbrev kIf:BA:=⟨#[105,102]⟩
abbrev qeh:BA:=⟨#[116,104,101,110]⟩
abbrev kElse:BA:=⟨#[101,108,115,101]⟩
abbrev qbg:BA:=⟨#[109,97,116,99,104]⟩
abbrev kWith:BA:=⟨#[119,105,116,104]⟩
abbrev kEnd:BA:=⟨#[101,110,100]⟩
abbrev kBar:BA:=⟨#[124]⟩
abbrev qeq:BA:=⟨#[59]⟩
abbrev kEq:BA:=⟨#[61]⟩
abbrev qco:BA:=⟨#[116,121,112,101]⟩
def qbt (t:Pu.Tok):Nd:=.mk (qa0 t) t.text (qa5 t) [] t.frm t.to t.frm
def Nd.add:Nd→Nd→Nat→Nd
 |.mk k s n L f _ a,y,to=>.mk k s n (L++[y]) f to a
def bnd {α β:Type} (m:M α) (f:α→M β):M β:=fun k=>match m k with
 |.error e=>.error e
 |.ok (a,k')=>f a k'
section
variable (T:List Pu.Tok)
def qci (mk:Nat→Nd):M Nd:=bnd (qaf T kClose) fun _ k=>.ok (mk k,k)
def qdc (part typ:M Nd) (sort frm:Nat) (a:Nd):M Nd:=fun k=>
 if isT (tk T k) kComma=true then bnd part (fun b=>qci T fun k'=>.mk 6 kNo 0 [a,b] frm (qal T k') frm) (k+1)
 else if sort=3∧isT (tk T k) qec=true then bnd typ (fun b=>qci T fun k'=>.mk 14 kNo 0 [a,b] frm (qal T k') frm) (k+1)
 else qci T (fun _=>a) k
def qdj (part typ:M Nd) (sort frm:Nat):M Nd:=fun k=>
 if sort≠1∧isT (tk T k) kClose=true then .ok (.mk 5 kNo 0 [] frm (qal T (k+1)) frm,k+1)
 else bnd part (qdc T part typ sort frm) k
def qaj (part typ:M Nd) (sort:Nat):M Nd:=fun k=>
 if qah (tk T k) sort=true then
  (if isT (tk T k) qd6=true then qdj T part typ sort (tk T k).frm (k+1) else .ok (qbt (tk T k),k+1))
 else .error (flOf (tk T k))
def qbe (small:M Nd) (sort:Nat):Nat→Nd→M Nd
 |0,x=>fun k=>.ok (x,k)
 |f+1,x=>fun k=>if qah (tk T k) sort=true then bnd small (fun y k'=>qbe small sort f (x.add y (qal T k')) k') k else .ok (x,k)
def qcr (small:M Nd) (sort:Nat):M Nd:=fun k=>if (tk T k).kind==2 then bnd small (qbe T small sort T.length) k else small k
def qdo (typ:M Nd) (frm:Nat) (a:Nd):M Nd:=fun k=>
 if isT (tk T k) kArrow=true then bnd typ (fun b k'=>.ok (.mk 17 kNo 0 [a,b] frm (qal T k') frm,k')) (k+1) else .ok (a,k)
def typM:Nat→M Nd
 |0=>qb0 T
 |n+1=>fun k=>bnd (qcr T (qaj T (typM n) (typM n) 1) 1) (qdo T (typM n) (tk T k).frm) k
def patM:Nat→M Nd
 |0=>qb0 T
 |n+1=>qcr T (qaj T (patM n) (qb0 T) 2) 2
def qdh (small:M Nd) (frm:Nat):Nat→Nd→M Nd
 |0,x=>fun k=>.ok (x,k)
 |f+1,x=>fun k=>if qah (tk T k) 3=true then bnd small (fun y k'=>qdh small frm f (.mk 8 kNo 0 [x,y] frm (qal T k') frm) k') k else .ok (x,k)
def qbc (small:M Nd):M Nd:=fun k=>bnd small (qdh T small (tk T k).frm T.length) k
def qdn (call:M Nd) (frm:Nat):Nat→Nd→M Nd
 |0,x=>fun k=>.ok (x,k)
 |f+1,x=>fun k=>if isT (tk T k) qbu=true then bnd call (fun y k'=>qdn call frm f (.mk 7 qbu 0 [x,y] frm (qal T k') frm) k') (k+1) else .ok (x,k)
def qbv (call:M Nd):M Nd:=fun k=>bnd call (qdn T call (tk T k).frm T.length) k
def sumF (prod:M Nd) (frm:Nat):Nat→Nd→M Nd
 |0,x=>fun k=>.ok (x,k)
 |f+1,x=>fun k=>if isT (tk T k) qcx=true∨isT (tk T k) qb1=true then bnd prod (fun y k'=>sumF prod frm f (.mk 7 (tk T k).text 0 [x,y] frm (qal T k') frm) k') (k+1) else .ok (x,k)
def sumM (prod:M Nd):M Nd:=fun k=>bnd prod (sumF T prod (tk T k).frm T.length) k
def funM (expr:M Nd):M Nd:=fun k=>
 bnd (qaf T kFun) (fun _=>bnd (qa3 T 1) fun t=>bnd (qaf T kArrow) fun _=>bnd expr fun e k'=>.ok (.mk 9 t.text 0 [e] (tk T k).frm (qal T k') t.frm,k')) k
def qbb (expr:M Nd):M (Nat×Pu.Tok×Nd):=
 bnd (qaf T kLet) fun _ k=>
  if isT (tk T k) kRec=true then bnd (qa3 T 1) (fun t=>bnd (qaf T kEq) fun _=>bnd (funM T expr) fun e k'=>.ok ((11,t,e),k')) (k+1)
  else bnd (qa3 T 1) (fun t=>bnd (qaf T kEq) fun _=>bnd expr fun e k'=>.ok ((10,t,e),k')) k
def qcw (expr:M Nd):M Nd:=fun k=>
 bnd (qaf T kIf) (fun _=>bnd expr fun a=>bnd (qaf T qeh) fun _=>bnd expr fun b=>bnd (qaf T kElse) fun _=>bnd expr fun c k'=>.ok (.mk 12 kNo 0 [a,b,c] (tk T k).frm (qal T k') (tk T k).frm,k')) k
def qch (pat expr:M Nd):Nat→List Nd→M (List Nd)
 |0,l=>fun k=>.ok (l,k)
 |f+1,l=>bnd pat fun p=>bnd (qaf T kArrow) fun _=>bnd expr fun e k=>
   if isT (tk T k) kBar=true then qch pat expr f (l++[p,e]) (k+1) else .ok (l++[p,e],k)
def qdm (pat expr:M Nd):M Nd:=fun k=>
 bnd (qaf T qbg) (fun _=>bnd expr fun x=>bnd (qaf T kWith) fun _=>bnd (qch T pat expr T.length [x]) fun l=>bnd (qaf T kEnd) fun _ k'=>.ok (.mk 13 kNo 0 l (tk T k).frm (qal T k') (tk T k).frm,k')) k
def letM (expr:M Nd):M Nd:=fun k=>
 bnd (qbb T expr) (fun b=>bnd (qaf T kIn) fun _=>bnd expr fun f k'=>.ok (.mk b.1 b.2.1.text 0 [b.2.2,f] (tk T k).frm (qal T k') b.2.1.frm,k')) k
def qd1 (sum:M Nd):M Nd:=fun k=>
 bnd sum (fun x k1=>if isT (tk T k1) qb6=true then bnd sum (fun y k'=>.ok (.mk 7 qb6 0 [x,y] (tk T k).frm (qal T k') (tk T k).frm,k')) (k1+1) else .ok (x,k1)) k
def qar:Nat→M Nd
 |0=>qb0 T
 |n+1=>fun k=>
  if isT (tk T k) kFun=true then funM T (qar n) k
  else if isT (tk T k) kIf=true then qcw T (qar n) k
  else if isT (tk T k) qbg=true then qdm T (patM T n) (qar n) k
  else if isT (tk T k) kLet=true then letM T (qar n) k
  else qd1 T (sumM T (qbv T (qbc T (qaj T (qar n) (typM T n) 3)))) k
end
end
section
open Go Go.RowKit
structure NV where
 k:Int
 s:BA
 n:Int
 la:Option Addr
 ll:Nat
 lc:Nat
 f:Int
 t:Int
 a:Int
def NV.v (x:NV):Value:=.agg #[.int .i64 x.k,.string x.s,.int .i64 x.n,.slice x.la x.ll x.lc,.int .i64 x.f,.int .i64 x.t,.int .i64 x.a]
def NV.l (x:NV):List Value:=[.int .i64 x.k,.string x.s,.int .i64 x.n,.slice x.la x.ll x.lc,.int .i64 x.f,.int .i64 x.t,.int .i64 x.a]
def NV.no:NV:=⟨0,⟨#[]⟩,0,none,0,0,0,0,0⟩
def flat (xs:List NV):List Value:=xs.flatMap NV.l
theorem flat_at (xs:List NV) (i j:Nat) (h:i<xs.length) (hj:j<7):(flat xs)[i*7+j]? =(xs[i].l)[j]? :=by
 induction xs generalizing i with
 |nil=>simp at h
 |cons x xs ih=>
  simp only [flat,List.flatMap_cons]
  cases i with
  |zero=>rw [List.getElem?_append_left (by simp [NV.l];omega)];simp
  |succ i=>
   rw [List.getElem?_append_right (by simp [NV.l];omega)]
   have:(i+1)*7+j-x.l.length=i*7+j:=by simp [NV.l];omega
   rw [this]
   exact ih i (by simpa using h)
def at7 (w:World) (g i:Nat) (x:NV):Prop:=∀j,j<7→w.cell? ⟨g,i*7+j,none⟩=(x.l)[j]?
inductive NR (w:World) (P:Nat→Prop):Nd→NV→Prop where
 |leaf (k:Nat) (s:BA) (n f t a:Nat):NR w P (.mk k s n [] f t a) ⟨k,s,n,none,0,0,f,t,a⟩
 |row (k:Nat) (s:BA) (n:Nat) (L:List Nd) (f t a g cap:Nat) (xs:Nat→NV) (h0:L≠[]) (hP:P g) (hz:g<w.heap.size) (hc:∀i,i<L.length→at7 w g i (xs i)) (hr:∀i (h:i<L.length),NR w P L[i] (xs i)):
  NR w P (.mk k s n L f t a) ⟨k,s,n,some ⟨g,0,none⟩,L.length,cap,f,t,a⟩
theorem NR.move {w w':World} {P Q:Nat→Prop} {nd:Nd} {x:NV} (h:NR w P nd x) (hs:w.heap.size≤w'.heap.size) (hb:∀b,P b→b<w.heap.size→w'.heap[b]? =w.heap[b]?) (hq:∀b,P b→b<w.heap.size→Q b):NR w' Q nd x:=by
 induction h with
 |leaf k s n f t a=>exact .leaf k s n f t a
 |row k s n L f t a g cap xs h0 hP hz hc hr ih=>
  refine .row k s n L f t a g cap xs h0 (hq g hP hz) (Nat.lt_of_lt_of_le hz hs) (fun i hi j hj=>?_) ih
  rw [World.cell?_of_block (a:=⟨g,i*7+j,none⟩) (w:=w) (hb g hP hz)]
  exact hc i hi j hj
theorem NR.bel {w w':World} {P:Nat→Prop} {nd:Nd} {x:NV} (h:NR w P nd x) (hb:Below w.heap.size w w'):NR w' P nd x:=h.move hb.size (fun b _ hz=>hb.block b hz) (fun _ p _=>p)
theorem NR.ke {rb:Nat} {w w':World} {P:Nat→Prop} {nd:Nd} {x:NV} (h:NR w P nd x) (hb:Ke rb w w') (hn:∀b,P b→b≠rb):NR w' P nd x:=h.move hb.size (fun b p hz=>hb.block b hz (hn b p)) (fun _ p _=>p)
theorem NR.new {w:World} {P:Nat→Prop} (k:Nat) (s:BA) (n:Nat) (f t a:Nat) (L:List Nd) (xs:List NV) (h0:L≠[]) (hl:xs.length=L.length) (tt:TypeId)
 (hr:∀i (h:i<L.length),NR w P L[i] (xs[i]'(by omega))) (hP:P w.heap.size) (b:Nat) (hb:b=w.heap.size) (cap:Nat):
 NR (w.alloc (.cells (flat xs).toArray tt)) P (.mk k s n L f t a) ⟨k,s,n,some ⟨b,0,none⟩,L.length,cap,f,t,a⟩:=by
 subst hb
 refine .row k s n L f t a w.heap.size cap (fun i=>xs.getD i NV.no) h0 hP (by simp) (fun i hi j hj=>?_) (fun i hi=>?_)
 ·have:xs.getD i NV.no=xs[i]'(by omega):=by rw [List.getD_eq_getElem?_getD,List.getElem?_eq_getElem (by omega)];rfl
  rw [this]
  simp only [World.cell?_alloc_new]
  rw [←flat_at xs i j (by omega) hj]
  simp
 ·have:xs.getD i NV.no=xs[i]'(by omega):=by rw [List.getD_eq_getElem?_getD,List.getElem?_eq_getElem (by omega)];rfl
  rw [this]
  exact (hr i hi).bel (bw _)
end
end Go.Proofs.YtoceemjbcgmojaaGreatDoor

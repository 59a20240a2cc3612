import Derived.Deep.Cut
import Derived.Test.YtnhnocmpodaggaaGreatDoorVTo
import Derived.Test.YtnhnocmpodaggaaGreatDoorVSh0
import Derived.Test.YtnhnocmpodaggaaGreatDoorVXb
set_option linter.all false
set_option maxRecDepth 100000
set_option maxHeartbeats 2000000
namespace Go.Proofs.YtnhnocmpodaggaaGreatDoor
section
open Go Go.RowKit Go.ChangeMaps
def FM (w:World) (b:Nat) (F:BA→Option Nat):Prop:=∃L,MS Value.string w b L∧∀x,got x L=(F x).map fun (n:Nat)=>Value.int .i64 (n:Int)
section
variable {w w':World} {b c:Nat} {F:BA→Option Nat}
theorem FM.lt (h:FM w b F):b<w.heap.size:=by obtain ⟨L,h1,_⟩:=h;exact h1.lt
theorem FM.same (h:FM w b F) (hb:w'.heap[b]? =w.heap[b]?):FM w' b F:=by obtain ⟨L,h1,h2⟩:=h;exact ⟨L,h1.same hb,h2⟩
theorem FM.below (h:FM w b F) (hb:Below w.heap.size w w'):FM w' b F:=h.same (hb.block b h.lt)
theorem FM.ke (h:FM w b F) (hk:Ke c w w') (hn:b≠c):FM w' b F:=h.same (hk.block b h.lt hn)
theorem zeroIntO (w:World):(zeroValue 3).run Tryz.prog w=.ok (.int .i64 0) w:=by kernel_rfl
def lkV (c:Bool):Option Nat→Value
 |some n=>if c then .tuple #[.int .i64 (n:Int),.bool true] else .int .i64 (n:Int)
 |none=>if c then .tuple #[.int .i64 0,.bool false] else .int .i64 0
theorem FM.look (h:FM w b F) (x:BA) (c:Bool):(Instr.lookup 181 (.map (some b)) (.string x) c).run Tryz.prog w=.ok (lkV c (F x)) w:=by
 obtain ⟨L,h1,h2⟩:=h
 rw [h1.look (KL.str Tryz.underlying9) Tryz.underlying181 (zeroIntO w) x trivial (fun _ _=>trivial) c,h2 x]
 cases F x<;>rfl
theorem FM.put {L:List (BA×Value)} (h:∀x,got x L=(F x).map fun (n:Nat)=>Value.int .i64 (n:Int)) (s:BA) (n:Nat):∀x,got x (putL s (.int .i64 (n:Int)) L)=(up2 F s n x).map fun (n:Nat)=>Value.int .i64 (n:Int):=fun x=>by
 rw [got_putL,h x]
 unfold up2
 by_cases e:s=x
 ·simp [e]
 ·simp only [e,if_false,if_neg (fun q:x=s=>e q.symm)]
theorem look_none (w:World) (x:BA) (c:Bool):(Instr.lookup 181 (.map none) (.string x) c).run Tryz.prog w=.ok (lkV c none) w:=by
 unfold Instr.lookup
 simp only [Sem.run_bind,run_underlying Tryz.underlying181,Result.andThen]
 have hf:(Instr.findKey 9 (.string x) []).run Tryz.prog w=.ok none w:=(KL.str Tryz.underlying9).fin x [] [] w trivial (by simp) rfl
 cases c<;>simp [zeroIntO,Result.andThen,(KL.str Tryz.underlying9).chk,lkV,hf]
def MV' (w:World) (v:Value) (F:BA→Option Nat):Prop:=(v=.map none∧F=fun _=>none)∨∃b,v=.map (some b)∧FM w b F
theorem MV'.look {v:Value} (h:MV' w v F) (x:BA) (c:Bool):(Instr.lookup 181 v (.string x) c).run Tryz.prog w=.ok (lkV c (F x)) w:=by
 rcases h with ⟨rfl,rfl⟩|⟨b,rfl,h⟩
 ·exact look_none w x c
 ·exact h.look x c
theorem has_P {v:Value} (h:MV' w v F) (s:BA):Calls Tryz.prog 257 #[v,.string s] w fun e w'=>e=.returned (.bool (F s).isSome)∧w'=w:=by
 have hl:=h.look s true
 clear h
 cases hF:F s with
 |none=>
  rw [hF] at hl
  simp only [lkV,if_true] at hl
  go_enter Tryz.func257,Tryz.ntmps257
  go_wp2_with fail
  go_ret
  exact ⟨rfl,rfl⟩
 |some n=>
  rw [hF] at hl
  simp only [lkV,if_true] at hl
  go_enter Tryz.func257,Tryz.ntmps257
  go_wp2_with fail
  go_ret
  exact ⟨rfl,rfl⟩
theorem takes_P {v:Value} (h:MV' w v F) (s:BA) (n:Nat):Calls Tryz.prog 289 #[v,.string s,.int .i64 (n:Int)] w fun e w'=>e=.returned (.bool (F s==some n))∧w'=w:=by
 have hl:=h.look s true
 clear h
 cases hF:F s with
 |none=>
  rw [hF] at hl
  simp only [lkV,if_true] at hl
  go_enter Tryz.func289,Tryz.ntmps289
  go_wp2_with fail
  go_ret
  exact ⟨rfl,rfl⟩
 |some m=>
  rw [hF] at hl
  simp only [lkV,if_true] at hl
  have HE:=ai (show (some m==some n)=((m:Int)==(n:Int)) by
   by_cases e:m=n
   ·simp [e]
   ·have h1:((m:Int)==(n:Int))=false:=by simp;omega
    rw [h1];simp [e])
  rw [uh HE]
  go_enter Tryz.func289,Tryz.ntmps289
  go_wp2_with fail
  go_ret
  exact ⟨rfl,rfl⟩
end
def LM (w:World) (b:Nat) (lo:BA→Nat):Prop:=∃L,MS Value.string w b L∧∀x,got x L=some (.int .i64 (lo x:Int))∨(got x L=none∧lo x=0)
structure CK (w:World) (cb tb mb lb:Nat) (ty mk:BA→Option Nat) (lo:BA→Nat) (f:Fl):Prop where
 bx:Bx w cb #[.map (some tb),.map (some mb),.map (some lb),.int .i64 (f.kind:Int),.int .i64 (f.frm:Int),.int .i64 (f.to:Int)]
 t:FM w tb ty
 m:FM w mb mk
 l:LM w lb lo
 ct:cb≠tb
 cm:cb≠mb
 cl:cb≠lb
 tm:tb≠mb
 tl:tb≠lb
 ml:mb≠lb
section
variable {w w':World} {cb tb mb lb:Nat} {ty mk:BA→Option Nat} {lo:BA→Nat} {f f':Fl}
theorem LM.lt {b:Nat} (h:LM w b lo):b<w.heap.size:=by obtain ⟨L,h1,_⟩:=h;exact h1.lt
theorem LM.same {b:Nat} (h:LM w b lo) (hb:w'.heap[b]? =w.heap[b]?):LM w' b lo:=by obtain ⟨L,h1,h2⟩:=h;exact ⟨L,h1.same hb,h2⟩
theorem LM.look {b:Nat} (h:LM w b lo) (x:BA):(Instr.lookup 181 (.map (some b)) (.string x) false).run Tryz.prog w=.ok (.int .i64 (lo x:Int)) w:=by
 obtain ⟨L,h1,h2⟩:=h
 rw [h1.look (KL.str Tryz.underlying9) Tryz.underlying181 (zeroIntO w) x trivial (fun _ _=>trivial) false]
 rcases h2 x with q|⟨q,q2⟩
 ·rw [q];rfl
 ·rw [q,q2];rfl
theorem LM.put {L:List (BA×Value)} (h:∀x,got x L=some (.int .i64 (lo x:Int))∨(got x L=none∧lo x=0)) (s:BA) (n:Nat):∀x,got x (putL s (.int .i64 (n:Int)) L)=some (.int .i64 ((if x=s then n else lo x:Nat):Int))∨(got x (putL s (.int .i64 (n:Int)) L)=none∧(if x=s then n else lo x)=0):=fun x=>by
 rw [got_putL]
 by_cases e:s=x
 ·subst e;simp
 ·simp only [if_neg e,if_neg (fun q:x=s=>e q.symm)];exact h x
theorem CK.z (h:CK w cb tb mb lb ty mk lo f):cb<w.heap.size:=h.bx.z
theorem CK.ke (h:CK w cb tb mb lb ty mk lo f) (k:Ke cb w w') (b:Bx w' cb #[.map (some tb),.map (some mb),.map (some lb),.int .i64 (f'.kind:Int),.int .i64 (f'.frm:Int),.int .i64 (f'.to:Int)]):CK w' cb tb mb lb ty mk lo f':=
 ⟨b,h.t.ke k (fun e=>h.ct e.symm),h.m.ke k (fun e=>h.cm e.symm),h.l.same (k.block lb h.l.lt (fun e=>h.cl e.symm)),h.ct,h.cm,h.cl,h.tm,h.tl,h.ml⟩
theorem CK.bel (h:CK w cb tb mb lb ty mk lo f) (k:Below w.heap.size w w'):CK w' cb tb mb lb ty mk lo f:=h.ke (Ke.of k) (h.bx.below k)
theorem CK.drewN (h:CK w cb tb mb lb ty mk lo f) (n:Nat):CK (w.drewN n) cb tb mb lb ty mk lo f:=h.bel ((Below.refl _ _).drewN n)
abbrev cp (b:Nat):Value:=.pointer (some ⟨b,0,none⟩)
theorem tell_P (h:CK w cb tb mb lb ty mk lo f) (k a b:Nat):Calls Tryz.prog 258 #[cp cb,.int .i64 (k:Int),.agg #[.int .i64 (a:Int),.int .i64 (b:Int)]] w fun e w'=>e=.returned (.tuple #[])∧Ke cb w w'∧CK w' cb tb mb lb ty mk lo (tell k a b f):=by
 have hz:=h.z
 have hbA:Below w.heap.size w (w.alloc (.cells #[.int .i64 (a:Int),.int .i64 (b:Int)] 207)):=bw _
 have H:=ai (h.bel hbA)
 have HB:=ai (Bx.new w #[.int .i64 (a:Int),.int .i64 (b:Int)] 207)
 have HK:=ai (Ke.of (rb:=cb) hbA)
 clear h hbA
 have yes:∀q,(f.kind=0∨a<f.frm)→Hid (Ke cb w ((((((w.alloc (.cells #[.int .i64 (a:Int),.int .i64 (b:Int)] 207)).drewN q).setCell ⟨cb,3,none⟩ (.int .i64 (k:Int))).setCell ⟨cb,4,none⟩ (.int .i64 (a:Int))).setCell ⟨cb,5,none⟩ (.int .i64 (b:Int))))∧CK (((((w.alloc (.cells #[.int .i64 (a:Int),.int .i64 (b:Int)] 207)).drewN q).setCell ⟨cb,3,none⟩ (.int .i64 (k:Int))).setCell ⟨cb,4,none⟩ (.int .i64 (a:Int))).setCell ⟨cb,5,none⟩ (.int .i64 (b:Int))) cb tb mb lb ty mk lo (tell k a b f)):=fun q hq=>by
  have H':=(uh H).drewN q
  have K':Ke cb ((w.alloc (.cells #[.int .i64 (a:Int),.int .i64 (b:Int)] 207)).drewN q) (((((w.alloc (.cells #[.int .i64 (a:Int),.int .i64 (b:Int)] 207)).drewN q).setCell ⟨cb,3,none⟩ (.int .i64 (k:Int))).setCell ⟨cb,4,none⟩ (.int .i64 (a:Int))).setCell ⟨cb,5,none⟩ (.int .i64 (b:Int))):=(((Ke.refl cb _).set 3 _).set 4 _).set 5 _
  refine ai ⟨((uh HK).trans (Ke.of ((Below.refl _ _).drewN q))).trans K',?_⟩
  unfold tell
  rw [if_pos hq]
  exact H'.ke K' (((H'.bx.setS' 3 (.int .i64 (k:Int)) #[.map (some tb),.map (some mb),.map (some lb),.int .i64 (k:Int),.int .i64 (f.frm:Int),.int .i64 (f.to:Int)] rfl (by simp)).setS' 4 (.int .i64 (a:Int)) #[.map (some tb),.map (some mb),.map (some lb),.int .i64 (k:Int),.int .i64 (a:Int),.int .i64 (f.to:Int)] rfl (by simp)).setS' 5 (.int .i64 (b:Int)) _ rfl (by simp))
 obtain ⟨c,ff,z⟩:=(uh H).bx
 obtain ⟨c1,f1,z1⟩:=uh HB
 by_cases h0:f.kind=0
 ·have h0':((f.kind:Int)==0)=true:=by simp [h0]
  have HY:=fun q=>yes q (Or.inl h0)
  clear h0 yes
  go_enter Tryz.func258,Tryz.ntmps258
  go_wp2_with fail
  go_quiet (fail)
  go_wp2_with fail
  go_end0
  exact ⟨rfl,(uh (HY _)).1,(uh (HY _)).2⟩
 ·have h0':((f.kind:Int)==0)=false:=by simp;omega
  by_cases h1:a<f.frm
  ·have h1':(a:Int)<(f.frm:Int):=by omega
   have HY:=fun q=>yes q (Or.inr h1)
   clear yes
   go_enter Tryz.func258,Tryz.ntmps258
   go_wp2_with fail
   go_quiet (fail)
   go_wp2_with fail
   go_end0
   exact ⟨rfl,(uh (HY _)).1,(uh (HY _)).2⟩
  ·have h1':decide ((a:Int)<(f.frm:Int))=false:=by simp;omega
   have e:tell k a b f=f:=by unfold tell;rw [if_neg (by omega)]
   rw [e]
   clear e yes
   go_enter Tryz.func258,Tryz.ntmps258
   go_wp2_with fail
   go_quiet (fail)
   go_wp2_with fail
   go_end0
   exact ⟨rfl,(uh HK).trans (Ke.of ((Below.refl _ _).drewN _)),(uh H).drewN _⟩
end
end
section
open Go Go.RowKit Go.ChangeMaps
abbrev TaO (I D A:TypeId) (z:Array Value):Prop:=∀(x:Array Value) (w:World),(Instr.typeAssert (.iface D (.agg x)) I A true).run Tryz.prog w=.ok (.tuple #[.agg z,.bool false]) w
abbrev zoTypeVar:Array Value:=#[.int .i64 0,.int .i64 0,.string ⟨#[]⟩]
abbrev zoNamed:Array Value:=#[.int .i64 0,.int .i64 0,.int .i64 0,.int .i64 0,.string ⟨#[]⟩,.slice none 0 0]
abbrev zoTypePair:Array Value:=#[.int .i64 0,.int .i64 0,.nilIface,.nilIface]
abbrev zoArrow:Array Value:=#[.int .i64 0,.int .i64 0,.nilIface,.nilIface]
abbrev zoLow:Array Value:=#[.int .i64 0,.int .i64 0,.string ⟨#[]⟩]
abbrev zoUp:Array Value:=#[.int .i64 0,.int .i64 0,.string ⟨#[]⟩]
abbrev zoPair:Array Value:=#[.int .i64 0,.int .i64 0,.nilIface,.nilIface]
abbrev qfg:Array Value:=#[.int .i64 0,.int .i64 0,.nilIface,.nilIface]
abbrev zoFun:Array Value:=#[.int .i64 0,.int .i64 0,.int .i64 0,.int .i64 0,.string ⟨#[]⟩,.nilIface]
abbrev zoLet:Array Value:=#[.int .i64 0,.int .i64 0,.bool false,.int .i64 0,.int .i64 0,.string ⟨#[]⟩,.nilIface,.nilIface]
abbrev zoIf:Array Value:=#[.int .i64 0,.int .i64 0,.nilIface,.nilIface,.nilIface]
abbrev zoMatch:Array Value:=#[.int .i64 0,.int .i64 0,.nilIface,.slice none 0 0]
abbrev zoBinary:Array Value:=#[.int .i64 0,.int .i64 0,.string ⟨#[]⟩,.nilIface,.nilIface]
abbrev zoCall:Array Value:=#[.int .i64 0,.int .i64 0,.nilIface,.nilIface]
abbrev zoMade:Array Value:=#[.int .i64 0,.int .i64 0,.int .i64 0,.int .i64 0,.string ⟨#[]⟩,.slice none 0 0]
abbrev qdw:Array Value:=#[.int .i64 0,.int .i64 0,.nilIface,.nilIface]
abbrev zoTypeDecl:Array Value:=#[.int .i64 0,.int .i64 0,.int .i64 0,.int .i64 0,.string ⟨#[]⟩,.slice none 0 0,.slice none 0 0]
abbrev zoLetDecl:Array Value:=#[.int .i64 0,.int .i64 0,.bool false,.int .i64 0,.int .i64 0,.string ⟨#[]⟩,.nilIface]
theorem toType_TypeVar_TypeVar (a0 a1 a2:Value) (w:World):(Instr.typeAssert (.iface 247 (.agg #[a0,a1,a2])) 149 247 true).run Tryz.prog w=.ok (.tuple #[.agg #[a0,a1,a2],.bool true]) w:=by kernel_rfl
theorem toType_Named_TypeVar:TaO 149 254 247 zoTypeVar:=fun _ _=>by kernel_rfl
theorem toType_Named_Named (a0 a1 a2 a3 a4 a5:Value) (w:World):(Instr.typeAssert (.iface 254 (.agg #[a0,a1,a2,a3,a4,a5])) 149 254 true).run Tryz.prog w=.ok (.tuple #[.agg #[a0,a1,a2,a3,a4,a5],.bool true]) w:=by kernel_rfl
theorem qfc:TaO 149 251 247 zoTypeVar:=fun _ _=>by kernel_rfl
theorem toType_TypePair_Named:TaO 149 251 254 zoNamed:=fun _ _=>by kernel_rfl
theorem qew (a0 a1 a2 a3:Value) (w:World):(Instr.typeAssert (.iface 251 (.agg #[a0,a1,a2,a3])) 149 251 true).run Tryz.prog w=.ok (.tuple #[.agg #[a0,a1,a2,a3],.bool true]) w:=by kernel_rfl
theorem toType_Arrow_TypeVar:TaO 149 249 247 zoTypeVar:=fun _ _=>by kernel_rfl
theorem toType_Arrow_Named:TaO 149 249 254 zoNamed:=fun _ _=>by kernel_rfl
theorem toType_Arrow_TypePair:TaO 149 249 251 zoTypePair:=fun _ _=>by kernel_rfl
theorem toType_Arrow_Arrow (a0 a1 a2 a3:Value) (w:World):(Instr.typeAssert (.iface 249 (.agg #[a0,a1,a2,a3])) 149 249 true).run Tryz.prog w=.ok (.tuple #[.agg #[a0,a1,a2,a3],.bool true]) w:=by kernel_rfl
theorem toPattern_Low_Low (a0 a1 a2:Value) (w:World):(Instr.typeAssert (.iface 346 (.agg #[a0,a1,a2])) 356 346 true).run Tryz.prog w=.ok (.tuple #[.agg #[a0,a1,a2],.bool true]) w:=by kernel_rfl
theorem toPattern_Made_Low:TaO 356 410 346 zoLow:=fun _ _=>by kernel_rfl
theorem toPattern_Made_Made (a0 a1 a2 a3 a4 a5:Value) (w:World):(Instr.typeAssert (.iface 410 (.agg #[a0,a1,a2,a3,a4,a5])) 356 410 true).run Tryz.prog w=.ok (.tuple #[.agg #[a0,a1,a2,a3,a4,a5],.bool true]) w:=by kernel_rfl
theorem qek:TaO 356 412 346 zoLow:=fun _ _=>by kernel_rfl
theorem qd8:TaO 356 412 410 zoMade:=fun _ _=>by kernel_rfl
theorem qdb (a0 a1 a2 a3:Value) (w:World):(Instr.typeAssert (.iface 412 (.agg #[a0,a1,a2,a3])) 356 412 true).run Tryz.prog w=.ok (.tuple #[.agg #[a0,a1,a2,a3],.bool true]) w:=by kernel_rfl
theorem toPattern_Any_Low:TaO 356 407 346 zoLow:=fun _ _=>by kernel_rfl
theorem toPattern_Any_Made:TaO 356 407 410 zoMade:=fun _ _=>by kernel_rfl
theorem qej:TaO 356 407 412 qdw:=fun _ _=>by kernel_rfl
theorem toPattern_Number_Low:TaO 356 349 346 zoLow:=fun _ _=>by kernel_rfl
theorem toPattern_Number_Made:TaO 356 349 410 zoMade:=fun _ _=>by kernel_rfl
theorem qdv:TaO 356 349 412 qdw:=fun _ _=>by kernel_rfl
theorem toPattern_Bool_Low:TaO 356 352 346 zoLow:=fun _ _=>by kernel_rfl
theorem toPattern_Bool_Made:TaO 356 352 410 zoMade:=fun _ _=>by kernel_rfl
theorem qd7:TaO 356 352 412 qdw:=fun _ _=>by kernel_rfl
theorem toPattern_Unit_Low:TaO 356 406 346 zoLow:=fun _ _=>by kernel_rfl
theorem toPattern_Unit_Made:TaO 356 406 410 zoMade:=fun _ _=>by kernel_rfl
theorem qd9:TaO 356 406 412 qdw:=fun _ _=>by kernel_rfl
theorem toExpr_Low_Low (a0 a1 a2:Value) (w:World):(Instr.typeAssert (.iface 346 (.agg #[a0,a1,a2])) 229 346 true).run Tryz.prog w=.ok (.tuple #[.agg #[a0,a1,a2],.bool true]) w:=by kernel_rfl
theorem toExpr_Up_Low:TaO 229 376 346 zoLow:=fun _ _=>by kernel_rfl
theorem toExpr_Up_Up (a0 a1 a2:Value) (w:World):(Instr.typeAssert (.iface 376 (.agg #[a0,a1,a2])) 229 376 true).run Tryz.prog w=.ok (.tuple #[.agg #[a0,a1,a2],.bool true]) w:=by kernel_rfl
theorem toExpr_Pair_Low:TaO 229 378 346 zoLow:=fun _ _=>by kernel_rfl
theorem toExpr_Pair_Up:TaO 229 378 376 zoUp:=fun _ _=>by kernel_rfl
theorem toExpr_Pair_Pair (a0 a1 a2 a3:Value) (w:World):(Instr.typeAssert (.iface 378 (.agg #[a0,a1,a2,a3])) 229 378 true).run Tryz.prog w=.ok (.tuple #[.agg #[a0,a1,a2,a3],.bool true]) w:=by kernel_rfl
theorem toExpr_Typed_Low:TaO 229 381 346 zoLow:=fun _ _=>by kernel_rfl
theorem toExpr_Typed_Up:TaO 229 381 376 zoUp:=fun _ _=>by kernel_rfl
theorem toExpr_Typed_Pair:TaO 229 381 378 zoPair:=fun _ _=>by kernel_rfl
theorem toExpr_Typed_Typed (a0 a1 a2 a3:Value) (w:World):(Instr.typeAssert (.iface 381 (.agg #[a0,a1,a2,a3])) 229 381 true).run Tryz.prog w=.ok (.tuple #[.agg #[a0,a1,a2,a3],.bool true]) w:=by kernel_rfl
theorem toExpr_Fun_Low:TaO 229 383 346 zoLow:=fun _ _=>by kernel_rfl
theorem toExpr_Fun_Up:TaO 229 383 376 zoUp:=fun _ _=>by kernel_rfl
theorem toExpr_Fun_Pair:TaO 229 383 378 zoPair:=fun _ _=>by kernel_rfl
theorem toExpr_Fun_Typed:TaO 229 383 381 qfg:=fun _ _=>by kernel_rfl
theorem toExpr_Fun_Fun (a0 a1 a2 a3 a4 a5:Value) (w:World):(Instr.typeAssert (.iface 383 (.agg #[a0,a1,a2,a3,a4,a5])) 229 383 true).run Tryz.prog w=.ok (.tuple #[.agg #[a0,a1,a2,a3,a4,a5],.bool true]) w:=by kernel_rfl
theorem toExpr_Let_Low:TaO 229 385 346 zoLow:=fun _ _=>by kernel_rfl
theorem toExpr_Let_Up:TaO 229 385 376 zoUp:=fun _ _=>by kernel_rfl
theorem toExpr_Let_Pair:TaO 229 385 378 zoPair:=fun _ _=>by kernel_rfl
theorem toExpr_Let_Typed:TaO 229 385 381 qfg:=fun _ _=>by kernel_rfl
theorem toExpr_Let_Fun:TaO 229 385 383 zoFun:=fun _ _=>by kernel_rfl
theorem toExpr_Let_Let (a0 a1 a2 a3 a4 a5 a6 a7:Value) (w:World):(Instr.typeAssert (.iface 385 (.agg #[a0,a1,a2,a3,a4,a5,a6,a7])) 229 385 true).run Tryz.prog w=.ok (.tuple #[.agg #[a0,a1,a2,a3,a4,a5,a6,a7],.bool true]) w:=by kernel_rfl
theorem toExpr_If_Low:TaO 229 387 346 zoLow:=fun _ _=>by kernel_rfl
theorem toExpr_If_Up:TaO 229 387 376 zoUp:=fun _ _=>by kernel_rfl
theorem toExpr_If_Pair:TaO 229 387 378 zoPair:=fun _ _=>by kernel_rfl
theorem toExpr_If_Typed:TaO 229 387 381 qfg:=fun _ _=>by kernel_rfl
theorem toExpr_If_Fun:TaO 229 387 383 zoFun:=fun _ _=>by kernel_rfl
theorem toExpr_If_Let:TaO 229 387 385 zoLet:=fun _ _=>by kernel_rfl
theorem toExpr_If_If (a0 a1 a2 a3 a4:Value) (w:World):(Instr.typeAssert (.iface 387 (.agg #[a0,a1,a2,a3,a4])) 229 387 true).run Tryz.prog w=.ok (.tuple #[.agg #[a0,a1,a2,a3,a4],.bool true]) w:=by kernel_rfl
theorem toExpr_Match_Low:TaO 229 390 346 zoLow:=fun _ _=>by kernel_rfl
theorem toExpr_Match_Up:TaO 229 390 376 zoUp:=fun _ _=>by kernel_rfl
theorem toExpr_Match_Pair:TaO 229 390 378 zoPair:=fun _ _=>by kernel_rfl
theorem toExpr_Match_Typed:TaO 229 390 381 qfg:=fun _ _=>by kernel_rfl
theorem toExpr_Match_Fun:TaO 229 390 383 zoFun:=fun _ _=>by kernel_rfl
theorem toExpr_Match_Let:TaO 229 390 385 zoLet:=fun _ _=>by kernel_rfl
theorem toExpr_Match_If:TaO 229 390 387 zoIf:=fun _ _=>by kernel_rfl
theorem toExpr_Match_Match (a0 a1 a2 a3:Value) (w:World):(Instr.typeAssert (.iface 390 (.agg #[a0,a1,a2,a3])) 229 390 true).run Tryz.prog w=.ok (.tuple #[.agg #[a0,a1,a2,a3],.bool true]) w:=by kernel_rfl
theorem toExpr_Binary_Low:TaO 229 363 346 zoLow:=fun _ _=>by kernel_rfl
theorem toExpr_Binary_Up:TaO 229 363 376 zoUp:=fun _ _=>by kernel_rfl
theorem toExpr_Binary_Pair:TaO 229 363 378 zoPair:=fun _ _=>by kernel_rfl
theorem toExpr_Binary_Typed:TaO 229 363 381 qfg:=fun _ _=>by kernel_rfl
theorem toExpr_Binary_Fun:TaO 229 363 383 zoFun:=fun _ _=>by kernel_rfl
theorem toExpr_Binary_Let:TaO 229 363 385 zoLet:=fun _ _=>by kernel_rfl
theorem toExpr_Binary_If:TaO 229 363 387 zoIf:=fun _ _=>by kernel_rfl
theorem toExpr_Binary_Match:TaO 229 363 390 zoMatch:=fun _ _=>by kernel_rfl
theorem toExpr_Binary_Binary (a0 a1 a2 a3 a4:Value) (w:World):(Instr.typeAssert (.iface 363 (.agg #[a0,a1,a2,a3,a4])) 229 363 true).run Tryz.prog w=.ok (.tuple #[.agg #[a0,a1,a2,a3,a4],.bool true]) w:=by kernel_rfl
theorem toExpr_Call_Low:TaO 229 393 346 zoLow:=fun _ _=>by kernel_rfl
theorem toExpr_Call_Up:TaO 229 393 376 zoUp:=fun _ _=>by kernel_rfl
theorem toExpr_Call_Pair:TaO 229 393 378 zoPair:=fun _ _=>by kernel_rfl
theorem toExpr_Call_Typed:TaO 229 393 381 qfg:=fun _ _=>by kernel_rfl
theorem toExpr_Call_Fun:TaO 229 393 383 zoFun:=fun _ _=>by kernel_rfl
theorem toExpr_Call_Let:TaO 229 393 385 zoLet:=fun _ _=>by kernel_rfl
theorem toExpr_Call_If:TaO 229 393 387 zoIf:=fun _ _=>by kernel_rfl
theorem toExpr_Call_Match:TaO 229 393 390 zoMatch:=fun _ _=>by kernel_rfl
theorem toExpr_Call_Binary:TaO 229 393 363 zoBinary:=fun _ _=>by kernel_rfl
theorem toExpr_Call_Call (a0 a1 a2 a3:Value) (w:World):(Instr.typeAssert (.iface 393 (.agg #[a0,a1,a2,a3])) 229 393 true).run Tryz.prog w=.ok (.tuple #[.agg #[a0,a1,a2,a3],.bool true]) w:=by kernel_rfl
theorem toExpr_Number_Low:TaO 229 349 346 zoLow:=fun _ _=>by kernel_rfl
theorem toExpr_Number_Up:TaO 229 349 376 zoUp:=fun _ _=>by kernel_rfl
theorem toExpr_Number_Pair:TaO 229 349 378 zoPair:=fun _ _=>by kernel_rfl
theorem toExpr_Number_Typed:TaO 229 349 381 qfg:=fun _ _=>by kernel_rfl
theorem toExpr_Number_Fun:TaO 229 349 383 zoFun:=fun _ _=>by kernel_rfl
theorem toExpr_Number_Let:TaO 229 349 385 zoLet:=fun _ _=>by kernel_rfl
theorem toExpr_Number_If:TaO 229 349 387 zoIf:=fun _ _=>by kernel_rfl
theorem toExpr_Number_Match:TaO 229 349 390 zoMatch:=fun _ _=>by kernel_rfl
theorem toExpr_Number_Binary:TaO 229 349 363 zoBinary:=fun _ _=>by kernel_rfl
theorem toExpr_Number_Call:TaO 229 349 393 zoCall:=fun _ _=>by kernel_rfl
theorem toExpr_Bool_Low:TaO 229 352 346 zoLow:=fun _ _=>by kernel_rfl
theorem toExpr_Bool_Up:TaO 229 352 376 zoUp:=fun _ _=>by kernel_rfl
theorem toExpr_Bool_Pair:TaO 229 352 378 zoPair:=fun _ _=>by kernel_rfl
theorem toExpr_Bool_Typed:TaO 229 352 381 qfg:=fun _ _=>by kernel_rfl
theorem toExpr_Bool_Fun:TaO 229 352 383 zoFun:=fun _ _=>by kernel_rfl
theorem toExpr_Bool_Let:TaO 229 352 385 zoLet:=fun _ _=>by kernel_rfl
theorem toExpr_Bool_If:TaO 229 352 387 zoIf:=fun _ _=>by kernel_rfl
theorem toExpr_Bool_Match:TaO 229 352 390 zoMatch:=fun _ _=>by kernel_rfl
theorem toExpr_Bool_Binary:TaO 229 352 363 zoBinary:=fun _ _=>by kernel_rfl
theorem toExpr_Bool_Call:TaO 229 352 393 zoCall:=fun _ _=>by kernel_rfl
theorem toExpr_Unit_Low:TaO 229 406 346 zoLow:=fun _ _=>by kernel_rfl
theorem toExpr_Unit_Up:TaO 229 406 376 zoUp:=fun _ _=>by kernel_rfl
theorem toExpr_Unit_Pair:TaO 229 406 378 zoPair:=fun _ _=>by kernel_rfl
theorem toExpr_Unit_Typed:TaO 229 406 381 qfg:=fun _ _=>by kernel_rfl
theorem toExpr_Unit_Fun:TaO 229 406 383 zoFun:=fun _ _=>by kernel_rfl
theorem toExpr_Unit_Let:TaO 229 406 385 zoLet:=fun _ _=>by kernel_rfl
theorem toExpr_Unit_If:TaO 229 406 387 zoIf:=fun _ _=>by kernel_rfl
theorem toExpr_Unit_Match:TaO 229 406 390 zoMatch:=fun _ _=>by kernel_rfl
theorem toExpr_Unit_Binary:TaO 229 406 363 zoBinary:=fun _ _=>by kernel_rfl
theorem toExpr_Unit_Call:TaO 229 406 393 zoCall:=fun _ _=>by kernel_rfl
theorem qev (a0 a1 a2 a3 a4 a5 a6:Value) (w:World):(Instr.typeAssert (.iface 226 (.agg #[a0,a1,a2,a3,a4,a5,a6])) 127 226 true).run Tryz.prog w=.ok (.tuple #[.agg #[a0,a1,a2,a3,a4,a5,a6],.bool true]) w:=by kernel_rfl
theorem qfb:TaO 127 233 226 zoTypeDecl:=fun _ _=>by kernel_rfl
theorem toDecl_LetDecl_LetDecl (a0 a1 a2 a3 a4 a5 a6:Value) (w:World):(Instr.typeAssert (.iface 233 (.agg #[a0,a1,a2,a3,a4,a5,a6])) 127 233 true).run Tryz.prog w=.ok (.tuple #[.agg #[a0,a1,a2,a3,a4,a5,a6],.bool true]) w:=by kernel_rfl
end
end Go.Proofs.YtnhnocmpodaggaaGreatDoor

import Derived.Deep.Cut
import Derived.Test.YtoceemjbcgmojaaGreatDoorVTo
import Derived.Test.YtoceemjbcgmojaaGreatDoorVSh0
import Derived.Test.YtoceemjbcgmojaaGreatDoorVXb
set_option linter.all false
set_option maxRecDepth 100000
set_option maxHeartbeats 2000000
namespace Go.Proofs.YtoceemjbcgmojaaGreatDoor
section
open Go Go.RowKit Go.ChangeMaps
def FM (w:World) (b:Nat) (F:BA→Option Nat):Prop:=∃L,MS Value.string w b L∧∀x,got x L=(F x).map fun (n:Nat)=>Value.int .i64 (n:Int)
section
variable {w w':World} {b c:Nat} {F:BA→Option Nat}
theorem FM.lt (h:FM w b F):b<w.heap.size:=by obtain ⟨L,h1,_⟩:=h;exact h1.lt
theorem FM.same (h:FM w b F) (hb:w'.heap[b]? =w.heap[b]?):FM w' b F:=by obtain ⟨L,h1,h2⟩:=h;exact ⟨L,h1.same hb,h2⟩
theorem FM.below (h:FM w b F) (hb:Below w.heap.size w w'):FM w' b F:=h.same (hb.block b h.lt)
theorem FM.ke (h:FM w b F) (hk:Ke c w w') (hn:b≠c):FM w' b F:=h.same (hk.block b h.lt hn)
theorem zeroIntO (w:World):(zeroValue 3).run Tryz.prog w=.ok (.int .i64 0) w:=by kernel_rfl
def lkV (c:Bool):Option Nat→Value
 |some n=>if c then .tuple #[.int .i64 (n:Int),.bool true] else .int .i64 (n:Int)
 |none=>if c then .tuple #[.int .i64 0,.bool false] else .int .i64 0
theorem FM.look (h:FM w b F) (x:BA) (c:Bool):(Instr.lookup 302 (.map (some b)) (.string x) c).run Tryz.prog w=.ok (lkV c (F x)) w:=by
 obtain ⟨L,h1,h2⟩:=h
 rw [h1.look (KL.str Tryz.underlying9) Tryz.underlying302 (zeroIntO w) x trivial (fun _ _=>trivial) c,h2 x]
 cases F x<;>rfl
theorem FM.put {L:List (BA×Value)} (h:∀x,got x L=(F x).map fun (n:Nat)=>Value.int .i64 (n:Int)) (s:BA) (n:Nat):∀x,got x (putL s (.int .i64 (n:Int)) L)=(up2 F s n x).map fun (n:Nat)=>Value.int .i64 (n:Int):=fun x=>by
 rw [got_putL,h x]
 unfold up2
 by_cases e:s=x
 ·simp [e]
 ·simp only [e,if_false,if_neg (fun q:x=s=>e q.symm)]
theorem look_none (w:World) (x:BA) (c:Bool):(Instr.lookup 302 (.map none) (.string x) c).run Tryz.prog w=.ok (lkV c none) w:=by
 unfold Instr.lookup
 simp only [Sem.run_bind,run_underlying Tryz.underlying302,Result.andThen]
 have hf:(Instr.findKey 9 (.string x) []).run Tryz.prog w=.ok none w:=(KL.str Tryz.underlying9).fin x [] [] w trivial (by simp) rfl
 cases c<;>simp [zeroIntO,Result.andThen,(KL.str Tryz.underlying9).chk,lkV,hf]
def MV' (w:World) (v:Value) (F:BA→Option Nat):Prop:=(v=.map none∧F=fun _=>none)∨∃b,v=.map (some b)∧FM w b F
theorem MV'.look {v:Value} (h:MV' w v F) (x:BA) (c:Bool):(Instr.lookup 302 v (.string x) c).run Tryz.prog w=.ok (lkV c (F x)) w:=by
 rcases h with ⟨rfl,rfl⟩|⟨b,rfl,h⟩
 ·exact look_none w x c
 ·exact h.look x c
theorem has_P {v:Value} (h:MV' w v F) (s:BA):Calls Tryz.prog 360 #[v,.string s] w fun e w'=>e=.returned (.bool (F s).isSome)∧w'=w:=by
 have hl:=h.look s true
 clear h
 cases hF:F s with
 |none=>
  rw [hF] at hl
  simp only [lkV,if_true] at hl
  go_enter Tryz.func360,Tryz.ntmps360
  go_wp2_with fail
  go_ret
  exact ⟨rfl,rfl⟩
 |some n=>
  rw [hF] at hl
  simp only [lkV,if_true] at hl
  go_enter Tryz.func360,Tryz.ntmps360
  go_wp2_with fail
  go_ret
  exact ⟨rfl,rfl⟩
theorem takes_P {v:Value} (h:MV' w v F) (s:BA) (n:Nat):Calls Tryz.prog 379 #[v,.string s,.int .i64 (n:Int)] w fun e w'=>e=.returned (.bool (F s==some n))∧w'=w:=by
 have hl:=h.look s true
 clear h
 cases hF:F s with
 |none=>
  rw [hF] at hl
  simp only [lkV,if_true] at hl
  go_enter Tryz.func379,Tryz.ntmps379
  go_wp2_with fail
  go_ret
  exact ⟨rfl,rfl⟩
 |some m=>
  rw [hF] at hl
  simp only [lkV,if_true] at hl
  have HE:=ai (show (some m==some n)=((m:Int)==(n:Int)) by
   by_cases e:m=n
   ·simp [e]
   ·have h1:((m:Int)==(n:Int))=false:=by simp;omega
    rw [h1];simp [e])
  rw [uh HE]
  go_enter Tryz.func379,Tryz.ntmps379
  go_wp2_with fail
  go_ret
  exact ⟨rfl,rfl⟩
end
def LM (w:World) (b:Nat) (lo:BA→Nat):Prop:=∃L,MS Value.string w b L∧∀x,got x L=some (.int .i64 (lo x:Int))∨(got x L=none∧lo x=0)
structure CK (w:World) (cb tb mb lb:Nat) (ty mk:BA→Option Nat) (lo:BA→Nat) (f:Fl):Prop where
 bx:Bx w cb #[.map (some tb),.map (some mb),.map (some lb),.int .i64 (f.kind:Int),.int .i64 (f.frm:Int),.int .i64 (f.to:Int)]
 t:FM w tb ty
 m:FM w mb mk
 l:LM w lb lo
 ct:cb≠tb
 cm:cb≠mb
 cl:cb≠lb
 tm:tb≠mb
 tl:tb≠lb
 ml:mb≠lb
section
variable {w w':World} {cb tb mb lb:Nat} {ty mk:BA→Option Nat} {lo:BA→Nat} {f f':Fl}
theorem LM.lt {b:Nat} (h:LM w b lo):b<w.heap.size:=by obtain ⟨L,h1,_⟩:=h;exact h1.lt
theorem LM.same {b:Nat} (h:LM w b lo) (hb:w'.heap[b]? =w.heap[b]?):LM w' b lo:=by obtain ⟨L,h1,h2⟩:=h;exact ⟨L,h1.same hb,h2⟩
theorem LM.look {b:Nat} (h:LM w b lo) (x:BA):(Instr.lookup 302 (.map (some b)) (.string x) false).run Tryz.prog w=.ok (.int .i64 (lo x:Int)) w:=by
 obtain ⟨L,h1,h2⟩:=h
 rw [h1.look (KL.str Tryz.underlying9) Tryz.underlying302 (zeroIntO w) x trivial (fun _ _=>trivial) false]
 rcases h2 x with q|⟨q,q2⟩
 ·rw [q];rfl
 ·rw [q,q2];rfl
theorem LM.put {L:List (BA×Value)} (h:∀x,got x L=some (.int .i64 (lo x:Int))∨(got x L=none∧lo x=0)) (s:BA) (n:Nat):∀x,got x (putL s (.int .i64 (n:Int)) L)=some (.int .i64 ((if x=s then n else lo x:Nat):Int))∨(got x (putL s (.int .i64 (n:Int)) L)=none∧(if x=s then n else lo x)=0):=fun x=>by
 rw [got_putL]
 by_cases e:s=x
 ·subst e;simp
 ·simp only [if_neg e,if_neg (fun q:x=s=>e q.symm)];exact h x
theorem CK.z (h:CK w cb tb mb lb ty mk lo f):cb<w.heap.size:=h.bx.z
theorem CK.ke (h:CK w cb tb mb lb ty mk lo f) (k:Ke cb w w') (b:Bx w' cb #[.map (some tb),.map (some mb),.map (some lb),.int .i64 (f'.kind:Int),.int .i64 (f'.frm:Int),.int .i64 (f'.to:Int)]):CK w' cb tb mb lb ty mk lo f':=
 ⟨b,h.t.ke k (fun e=>h.ct e.symm),h.m.ke k (fun e=>h.cm e.symm),h.l.same (k.block lb h.l.lt (fun e=>h.cl e.symm)),h.ct,h.cm,h.cl,h.tm,h.tl,h.ml⟩
theorem CK.bel (h:CK w cb tb mb lb ty mk lo f) (k:Below w.heap.size w w'):CK w' cb tb mb lb ty mk lo f:=h.ke (Ke.of k) (h.bx.below k)
theorem CK.drewN (h:CK w cb tb mb lb ty mk lo f) (n:Nat):CK (w.drewN n) cb tb mb lb ty mk lo f:=h.bel ((Below.refl _ _).drewN n)
abbrev cp (b:Nat):Value:=.pointer (some ⟨b,0,none⟩)
theorem tell_P (h:CK w cb tb mb lb ty mk lo f) (k a b:Nat):Calls Tryz.prog 361 #[cp cb,.int .i64 (k:Int),.agg #[.int .i64 (a:Int),.int .i64 (b:Int)]] w fun e w'=>e=.returned (.tuple #[])∧Ke cb w w'∧CK w' cb tb mb lb ty mk lo (tell k a b f):=by
 have hz:=h.z
 have hbA:Below w.heap.size w (w.alloc (.cells #[.int .i64 (a:Int),.int .i64 (b:Int)] 212)):=bw _
 have H:=ai (h.bel hbA)
 have HB:=ai (Bx.new w #[.int .i64 (a:Int),.int .i64 (b:Int)] 212)
 have HK:=ai (Ke.of (rb:=cb) hbA)
 clear h hbA
 have yes:∀q,(f.kind=0∨a<f.frm)→Hid (Ke cb w ((((((w.alloc (.cells #[.int .i64 (a:Int),.int .i64 (b:Int)] 212)).drewN q).setCell ⟨cb,3,none⟩ (.int .i64 (k:Int))).setCell ⟨cb,4,none⟩ (.int .i64 (a:Int))).setCell ⟨cb,5,none⟩ (.int .i64 (b:Int))))∧CK (((((w.alloc (.cells #[.int .i64 (a:Int),.int .i64 (b:Int)] 212)).drewN q).setCell ⟨cb,3,none⟩ (.int .i64 (k:Int))).setCell ⟨cb,4,none⟩ (.int .i64 (a:Int))).setCell ⟨cb,5,none⟩ (.int .i64 (b:Int))) cb tb mb lb ty mk lo (tell k a b f)):=fun q hq=>by
  have H':=(uh H).drewN q
  have K':Ke cb ((w.alloc (.cells #[.int .i64 (a:Int),.int .i64 (b:Int)] 212)).drewN q) (((((w.alloc (.cells #[.int .i64 (a:Int),.int .i64 (b:Int)] 212)).drewN q).setCell ⟨cb,3,none⟩ (.int .i64 (k:Int))).setCell ⟨cb,4,none⟩ (.int .i64 (a:Int))).setCell ⟨cb,5,none⟩ (.int .i64 (b:Int))):=(((Ke.refl cb _).set 3 _).set 4 _).set 5 _
  refine ai ⟨((uh HK).trans (Ke.of ((Below.refl _ _).drewN q))).trans K',?_⟩
  unfold tell
  rw [if_pos hq]
  exact H'.ke K' (((H'.bx.setS' 3 (.int .i64 (k:Int)) #[.map (some tb),.map (some mb),.map (some lb),.int .i64 (k:Int),.int .i64 (f.frm:Int),.int .i64 (f.to:Int)] rfl (by simp)).setS' 4 (.int .i64 (a:Int)) #[.map (some tb),.map (some mb),.map (some lb),.int .i64 (k:Int),.int .i64 (a:Int),.int .i64 (f.to:Int)] rfl (by simp)).setS' 5 (.int .i64 (b:Int)) _ rfl (by simp))
 obtain ⟨c,ff,z⟩:=(uh H).bx
 obtain ⟨c1,f1,z1⟩:=uh HB
 by_cases h0:f.kind=0
 ·have h0':((f.kind:Int)==0)=true:=by simp [h0]
  have HY:=fun q=>yes q (Or.inl h0)
  clear h0 yes
  go_enter Tryz.func361,Tryz.ntmps361
  go_wp2_with fail
  go_quiet (fail)
  go_wp2_with fail
  go_end0
  exact ⟨rfl,(uh (HY _)).1,(uh (HY _)).2⟩
 ·have h0':((f.kind:Int)==0)=false:=by simp;omega
  by_cases h1:a<f.frm
  ·have h1':(a:Int)<(f.frm:Int):=by omega
   have HY:=fun q=>yes q (Or.inr h1)
   clear yes
   go_enter Tryz.func361,Tryz.ntmps361
   go_wp2_with fail
   go_quiet (fail)
   go_wp2_with fail
   go_end0
   exact ⟨rfl,(uh (HY _)).1,(uh (HY _)).2⟩
  ·have h1':decide ((a:Int)<(f.frm:Int))=false:=by simp;omega
   have e:tell k a b f=f:=by unfold tell;rw [if_neg (by omega)]
   rw [e]
   clear e yes
   go_enter Tryz.func361,Tryz.ntmps361
   go_wp2_with fail
   go_quiet (fail)
   go_wp2_with fail
   go_end0
   exact ⟨rfl,(uh HK).trans (Ke.of ((Below.refl _ _).drewN _)),(uh H).drewN _⟩
end
end
section
open Go Go.RowKit Go.ChangeMaps
abbrev TaO (I D A:TypeId) (z:Array Value):Prop:=∀(x:Array Value) (w:World),(Instr.typeAssert (.iface D (.agg x)) I A true).run Tryz.prog w=.ok (.tuple #[.agg z,.bool false]) w
abbrev zoTypeVar:Array Value:=#[.int .i64 0,.int .i64 0,.string ⟨#[]⟩]
abbrev zoNamed:Array Value:=#[.int .i64 0,.int .i64 0,.int .i64 0,.int .i64 0,.string ⟨#[]⟩,.slice none 0 0]
abbrev zoTypePair:Array Value:=#[.int .i64 0,.int .i64 0,.nilIface,.nilIface]
abbrev zoArrow:Array Value:=#[.int .i64 0,.int .i64 0,.nilIface,.nilIface]
abbrev zoLow:Array Value:=#[.int .i64 0,.int .i64 0,.string ⟨#[]⟩]
abbrev zoUp:Array Value:=#[.int .i64 0,.int .i64 0,.string ⟨#[]⟩]
abbrev zoPair:Array Value:=#[.int .i64 0,.int .i64 0,.nilIface,.nilIface]
abbrev qfg:Array Value:=#[.int .i64 0,.int .i64 0,.nilIface,.nilIface]
abbrev zoFun:Array Value:=#[.int .i64 0,.int .i64 0,.int .i64 0,.int .i64 0,.string ⟨#[]⟩,.nilIface]
abbrev zoLet:Array Value:=#[.int .i64 0,.int .i64 0,.bool false,.int .i64 0,.int .i64 0,.string ⟨#[]⟩,.nilIface,.nilIface]
abbrev zoIf:Array Value:=#[.int .i64 0,.int .i64 0,.nilIface,.nilIface,.nilIface]
abbrev zoMatch:Array Value:=#[.int .i64 0,.int .i64 0,.nilIface,.slice none 0 0]
abbrev zoBinary:Array Value:=#[.int .i64 0,.int .i64 0,.string ⟨#[]⟩,.nilIface,.nilIface]
abbrev zoCall:Array Value:=#[.int .i64 0,.int .i64 0,.nilIface,.nilIface]
abbrev zoMade:Array Value:=#[.int .i64 0,.int .i64 0,.int .i64 0,.int .i64 0,.string ⟨#[]⟩,.slice none 0 0]
abbrev qdw:Array Value:=#[.int .i64 0,.int .i64 0,.nilIface,.nilIface]
abbrev zoTypeDecl:Array Value:=#[.int .i64 0,.int .i64 0,.int .i64 0,.int .i64 0,.string ⟨#[]⟩,.slice none 0 0,.slice none 0 0]
abbrev zoLetDecl:Array Value:=#[.int .i64 0,.int .i64 0,.bool false,.int .i64 0,.int .i64 0,.string ⟨#[]⟩,.nilIface]
theorem toType_TypeVar_TypeVar (a0 a1 a2:Value) (w:World):(Instr.typeAssert (.iface 265 (.agg #[a0,a1,a2])) 151 265 true).run Tryz.prog w=.ok (.tuple #[.agg #[a0,a1,a2],.bool true]) w:=by kernel_rfl
theorem toType_Named_TypeVar:TaO 151 272 265 zoTypeVar:=fun _ _=>by kernel_rfl
theorem toType_Named_Named (a0 a1 a2 a3 a4 a5:Value) (w:World):(Instr.typeAssert (.iface 272 (.agg #[a0,a1,a2,a3,a4,a5])) 151 272 true).run Tryz.prog w=.ok (.tuple #[.agg #[a0,a1,a2,a3,a4,a5],.bool true]) w:=by kernel_rfl
theorem qfc:TaO 151 269 265 zoTypeVar:=fun _ _=>by kernel_rfl
theorem toType_TypePair_Named:TaO 151 269 272 zoNamed:=fun _ _=>by kernel_rfl
theorem qew (a0 a1 a2 a3:Value) (w:World):(Instr.typeAssert (.iface 269 (.agg #[a0,a1,a2,a3])) 151 269 true).run Tryz.prog w=.ok (.tuple #[.agg #[a0,a1,a2,a3],.bool true]) w:=by kernel_rfl
theorem toType_Arrow_TypeVar:TaO 151 267 265 zoTypeVar:=fun _ _=>by kernel_rfl
theorem toType_Arrow_Named:TaO 151 267 272 zoNamed:=fun _ _=>by kernel_rfl
theorem toType_Arrow_TypePair:TaO 151 267 269 zoTypePair:=fun _ _=>by kernel_rfl
theorem toType_Arrow_Arrow (a0 a1 a2 a3:Value) (w:World):(Instr.typeAssert (.iface 267 (.agg #[a0,a1,a2,a3])) 151 267 true).run Tryz.prog w=.ok (.tuple #[.agg #[a0,a1,a2,a3],.bool true]) w:=by kernel_rfl
theorem toPattern_Low_Low (a0 a1 a2:Value) (w:World):(Instr.typeAssert (.iface 466 (.agg #[a0,a1,a2])) 332 466 true).run Tryz.prog w=.ok (.tuple #[.agg #[a0,a1,a2],.bool true]) w:=by kernel_rfl
theorem toPattern_Made_Low:TaO 332 410 466 zoLow:=fun _ _=>by kernel_rfl
theorem toPattern_Made_Made (a0 a1 a2 a3 a4 a5:Value) (w:World):(Instr.typeAssert (.iface 410 (.agg #[a0,a1,a2,a3,a4,a5])) 332 410 true).run Tryz.prog w=.ok (.tuple #[.agg #[a0,a1,a2,a3,a4,a5],.bool true]) w:=by kernel_rfl
theorem qek:TaO 332 433 466 zoLow:=fun _ _=>by kernel_rfl
theorem qd8:TaO 332 433 410 zoMade:=fun _ _=>by kernel_rfl
theorem qdb (a0 a1 a2 a3:Value) (w:World):(Instr.typeAssert (.iface 433 (.agg #[a0,a1,a2,a3])) 332 433 true).run Tryz.prog w=.ok (.tuple #[.agg #[a0,a1,a2,a3],.bool true]) w:=by kernel_rfl
theorem toPattern_Any_Low:TaO 332 442 466 zoLow:=fun _ _=>by kernel_rfl
theorem toPattern_Any_Made:TaO 332 442 410 zoMade:=fun _ _=>by kernel_rfl
theorem qej:TaO 332 442 433 qdw:=fun _ _=>by kernel_rfl
theorem toPattern_Number_Low:TaO 332 431 466 zoLow:=fun _ _=>by kernel_rfl
theorem toPattern_Number_Made:TaO 332 431 410 zoMade:=fun _ _=>by kernel_rfl
theorem qdv:TaO 332 431 433 qdw:=fun _ _=>by kernel_rfl
theorem toPattern_Bool_Low:TaO 332 426 466 zoLow:=fun _ _=>by kernel_rfl
theorem toPattern_Bool_Made:TaO 332 426 410 zoMade:=fun _ _=>by kernel_rfl
theorem qd7:TaO 332 426 433 qdw:=fun _ _=>by kernel_rfl
theorem toPattern_Unit_Low:TaO 332 429 466 zoLow:=fun _ _=>by kernel_rfl
theorem toPattern_Unit_Made:TaO 332 429 410 zoMade:=fun _ _=>by kernel_rfl
theorem qd9:TaO 332 429 433 qdw:=fun _ _=>by kernel_rfl
theorem toExpr_Low_Low (a0 a1 a2:Value) (w:World):(Instr.typeAssert (.iface 466 (.agg #[a0,a1,a2])) 216 466 true).run Tryz.prog w=.ok (.tuple #[.agg #[a0,a1,a2],.bool true]) w:=by kernel_rfl
theorem toExpr_Up_Low:TaO 216 513 466 zoLow:=fun _ _=>by kernel_rfl
theorem toExpr_Up_Up (a0 a1 a2:Value) (w:World):(Instr.typeAssert (.iface 513 (.agg #[a0,a1,a2])) 216 513 true).run Tryz.prog w=.ok (.tuple #[.agg #[a0,a1,a2],.bool true]) w:=by kernel_rfl
theorem toExpr_Pair_Low:TaO 216 412 466 zoLow:=fun _ _=>by kernel_rfl
theorem toExpr_Pair_Up:TaO 216 412 513 zoUp:=fun _ _=>by kernel_rfl
theorem toExpr_Pair_Pair (a0 a1 a2 a3:Value) (w:World):(Instr.typeAssert (.iface 412 (.agg #[a0,a1,a2,a3])) 216 412 true).run Tryz.prog w=.ok (.tuple #[.agg #[a0,a1,a2,a3],.bool true]) w:=by kernel_rfl
theorem toExpr_Typed_Low:TaO 216 414 466 zoLow:=fun _ _=>by kernel_rfl
theorem toExpr_Typed_Up:TaO 216 414 513 zoUp:=fun _ _=>by kernel_rfl
theorem toExpr_Typed_Pair:TaO 216 414 412 zoPair:=fun _ _=>by kernel_rfl
theorem toExpr_Typed_Typed (a0 a1 a2 a3:Value) (w:World):(Instr.typeAssert (.iface 414 (.agg #[a0,a1,a2,a3])) 216 414 true).run Tryz.prog w=.ok (.tuple #[.agg #[a0,a1,a2,a3],.bool true]) w:=by kernel_rfl
theorem toExpr_Fun_Low:TaO 216 416 466 zoLow:=fun _ _=>by kernel_rfl
theorem toExpr_Fun_Up:TaO 216 416 513 zoUp:=fun _ _=>by kernel_rfl
theorem toExpr_Fun_Pair:TaO 216 416 412 zoPair:=fun _ _=>by kernel_rfl
theorem toExpr_Fun_Typed:TaO 216 416 414 qfg:=fun _ _=>by kernel_rfl
theorem toExpr_Fun_Fun (a0 a1 a2 a3 a4 a5:Value) (w:World):(Instr.typeAssert (.iface 416 (.agg #[a0,a1,a2,a3,a4,a5])) 216 416 true).run Tryz.prog w=.ok (.tuple #[.agg #[a0,a1,a2,a3,a4,a5],.bool true]) w:=by kernel_rfl
theorem toExpr_Let_Low:TaO 216 418 466 zoLow:=fun _ _=>by kernel_rfl
theorem toExpr_Let_Up:TaO 216 418 513 zoUp:=fun _ _=>by kernel_rfl
theorem toExpr_Let_Pair:TaO 216 418 412 zoPair:=fun _ _=>by kernel_rfl
theorem toExpr_Let_Typed:TaO 216 418 414 qfg:=fun _ _=>by kernel_rfl
theorem toExpr_Let_Fun:TaO 216 418 416 zoFun:=fun _ _=>by kernel_rfl
theorem toExpr_Let_Let (a0 a1 a2 a3 a4 a5 a6 a7:Value) (w:World):(Instr.typeAssert (.iface 418 (.agg #[a0,a1,a2,a3,a4,a5,a6,a7])) 216 418 true).run Tryz.prog w=.ok (.tuple #[.agg #[a0,a1,a2,a3,a4,a5,a6,a7],.bool true]) w:=by kernel_rfl
theorem toExpr_If_Low:TaO 216 420 466 zoLow:=fun _ _=>by kernel_rfl
theorem toExpr_If_Up:TaO 216 420 513 zoUp:=fun _ _=>by kernel_rfl
theorem toExpr_If_Pair:TaO 216 420 412 zoPair:=fun _ _=>by kernel_rfl
theorem toExpr_If_Typed:TaO 216 420 414 qfg:=fun _ _=>by kernel_rfl
theorem toExpr_If_Fun:TaO 216 420 416 zoFun:=fun _ _=>by kernel_rfl
theorem toExpr_If_Let:TaO 216 420 418 zoLet:=fun _ _=>by kernel_rfl
theorem toExpr_If_If (a0 a1 a2 a3 a4:Value) (w:World):(Instr.typeAssert (.iface 420 (.agg #[a0,a1,a2,a3,a4])) 216 420 true).run Tryz.prog w=.ok (.tuple #[.agg #[a0,a1,a2,a3,a4],.bool true]) w:=by kernel_rfl
theorem toExpr_Match_Low:TaO 216 225 466 zoLow:=fun _ _=>by kernel_rfl
theorem toExpr_Match_Up:TaO 216 225 513 zoUp:=fun _ _=>by kernel_rfl
theorem toExpr_Match_Pair:TaO 216 225 412 zoPair:=fun _ _=>by kernel_rfl
theorem toExpr_Match_Typed:TaO 216 225 414 qfg:=fun _ _=>by kernel_rfl
theorem toExpr_Match_Fun:TaO 216 225 416 zoFun:=fun _ _=>by kernel_rfl
theorem toExpr_Match_Let:TaO 216 225 418 zoLet:=fun _ _=>by kernel_rfl
theorem toExpr_Match_If:TaO 216 225 420 zoIf:=fun _ _=>by kernel_rfl
theorem toExpr_Match_Match (a0 a1 a2 a3:Value) (w:World):(Instr.typeAssert (.iface 225 (.agg #[a0,a1,a2,a3])) 216 225 true).run Tryz.prog w=.ok (.tuple #[.agg #[a0,a1,a2,a3],.bool true]) w:=by kernel_rfl
theorem toExpr_Binary_Low:TaO 216 422 466 zoLow:=fun _ _=>by kernel_rfl
theorem toExpr_Binary_Up:TaO 216 422 513 zoUp:=fun _ _=>by kernel_rfl
theorem toExpr_Binary_Pair:TaO 216 422 412 zoPair:=fun _ _=>by kernel_rfl
theorem toExpr_Binary_Typed:TaO 216 422 414 qfg:=fun _ _=>by kernel_rfl
theorem toExpr_Binary_Fun:TaO 216 422 416 zoFun:=fun _ _=>by kernel_rfl
theorem toExpr_Binary_Let:TaO 216 422 418 zoLet:=fun _ _=>by kernel_rfl
theorem toExpr_Binary_If:TaO 216 422 420 zoIf:=fun _ _=>by kernel_rfl
theorem toExpr_Binary_Match:TaO 216 422 225 zoMatch:=fun _ _=>by kernel_rfl
theorem toExpr_Binary_Binary (a0 a1 a2 a3 a4:Value) (w:World):(Instr.typeAssert (.iface 422 (.agg #[a0,a1,a2,a3,a4])) 216 422 true).run Tryz.prog w=.ok (.tuple #[.agg #[a0,a1,a2,a3,a4],.bool true]) w:=by kernel_rfl
theorem toExpr_Call_Low:TaO 216 424 466 zoLow:=fun _ _=>by kernel_rfl
theorem toExpr_Call_Up:TaO 216 424 513 zoUp:=fun _ _=>by kernel_rfl
theorem toExpr_Call_Pair:TaO 216 424 412 zoPair:=fun _ _=>by kernel_rfl
theorem toExpr_Call_Typed:TaO 216 424 414 qfg:=fun _ _=>by kernel_rfl
theorem toExpr_Call_Fun:TaO 216 424 416 zoFun:=fun _ _=>by kernel_rfl
theorem toExpr_Call_Let:TaO 216 424 418 zoLet:=fun _ _=>by kernel_rfl
theorem toExpr_Call_If:TaO 216 424 420 zoIf:=fun _ _=>by kernel_rfl
theorem toExpr_Call_Match:TaO 216 424 225 zoMatch:=fun _ _=>by kernel_rfl
theorem toExpr_Call_Binary:TaO 216 424 422 zoBinary:=fun _ _=>by kernel_rfl
theorem toExpr_Call_Call (a0 a1 a2 a3:Value) (w:World):(Instr.typeAssert (.iface 424 (.agg #[a0,a1,a2,a3])) 216 424 true).run Tryz.prog w=.ok (.tuple #[.agg #[a0,a1,a2,a3],.bool true]) w:=by kernel_rfl
theorem toExpr_Number_Low:TaO 216 431 466 zoLow:=fun _ _=>by kernel_rfl
theorem toExpr_Number_Up:TaO 216 431 513 zoUp:=fun _ _=>by kernel_rfl
theorem toExpr_Number_Pair:TaO 216 431 412 zoPair:=fun _ _=>by kernel_rfl
theorem toExpr_Number_Typed:TaO 216 431 414 qfg:=fun _ _=>by kernel_rfl
theorem toExpr_Number_Fun:TaO 216 431 416 zoFun:=fun _ _=>by kernel_rfl
theorem toExpr_Number_Let:TaO 216 431 418 zoLet:=fun _ _=>by kernel_rfl
theorem toExpr_Number_If:TaO 216 431 420 zoIf:=fun _ _=>by kernel_rfl
theorem toExpr_Number_Match:TaO 216 431 225 zoMatch:=fun _ _=>by kernel_rfl
theorem toExpr_Number_Binary:TaO 216 431 422 zoBinary:=fun _ _=>by kernel_rfl
theorem toExpr_Number_Call:TaO 216 431 424 zoCall:=fun _ _=>by kernel_rfl
theorem toExpr_Bool_Low:TaO 216 426 466 zoLow:=fun _ _=>by kernel_rfl
theorem toExpr_Bool_Up:TaO 216 426 513 zoUp:=fun _ _=>by kernel_rfl
theorem toExpr_Bool_Pair:TaO 216 426 412 zoPair:=fun _ _=>by kernel_rfl
theorem toExpr_Bool_Typed:TaO 216 426 414 qfg:=fun _ _=>by kernel_rfl
theorem toExpr_Bool_Fun:TaO 216 426 416 zoFun:=fun _ _=>by kernel_rfl
theorem toExpr_Bool_Let:TaO 216 426 418 zoLet:=fun _ _=>by kernel_rfl
theorem toExpr_Bool_If:TaO 216 426 420 zoIf:=fun _ _=>by kernel_rfl
theorem toExpr_Bool_Match:TaO 216 426 225 zoMatch:=fun _ _=>by kernel_rfl
theorem toExpr_Bool_Binary:TaO 216 426 422 zoBinary:=fun _ _=>by kernel_rfl
theorem toExpr_Bool_Call:TaO 216 426 424 zoCall:=fun _ _=>by kernel_rfl
theorem toExpr_Unit_Low:TaO 216 429 466 zoLow:=fun _ _=>by kernel_rfl
theorem toExpr_Unit_Up:TaO 216 429 513 zoUp:=fun _ _=>by kernel_rfl
theorem toExpr_Unit_Pair:TaO 216 429 412 zoPair:=fun _ _=>by kernel_rfl
theorem toExpr_Unit_Typed:TaO 216 429 414 qfg:=fun _ _=>by kernel_rfl
theorem toExpr_Unit_Fun:TaO 216 429 416 zoFun:=fun _ _=>by kernel_rfl
theorem toExpr_Unit_Let:TaO 216 429 418 zoLet:=fun _ _=>by kernel_rfl
theorem toExpr_Unit_If:TaO 216 429 420 zoIf:=fun _ _=>by kernel_rfl
theorem toExpr_Unit_Match:TaO 216 429 225 zoMatch:=fun _ _=>by kernel_rfl
theorem toExpr_Unit_Binary:TaO 216 429 422 zoBinary:=fun _ _=>by kernel_rfl
theorem toExpr_Unit_Call:TaO 216 429 424 zoCall:=fun _ _=>by kernel_rfl
theorem qev (a0 a1 a2 a3 a4 a5 a6:Value) (w:World):(Instr.typeAssert (.iface 250 (.agg #[a0,a1,a2,a3,a4,a5,a6])) 129 250 true).run Tryz.prog w=.ok (.tuple #[.agg #[a0,a1,a2,a3,a4,a5,a6],.bool true]) w:=by kernel_rfl
theorem qfb:TaO 129 220 250 zoTypeDecl:=fun _ _=>by kernel_rfl
theorem toDecl_LetDecl_LetDecl (a0 a1 a2 a3 a4 a5 a6:Value) (w:World):(Instr.typeAssert (.iface 220 (.agg #[a0,a1,a2,a3,a4,a5,a6])) 129 220 true).run Tryz.prog w=.ok (.tuple #[.agg #[a0,a1,a2,a3,a4,a5,a6],.bool true]) w:=by kernel_rfl
end
end Go.Proofs.YtoceemjbcgmojaaGreatDoor

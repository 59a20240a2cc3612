import Derived.Test.YtoceemjbcgmojaaGreatDoorQMa
import Derived.Test.YtoceemjbcgmojaaGreatDoorQPe
set_option linter.all false
set_option maxRecDepth 100000
set_option maxHeartbeats 1000000
namespace Go.Proofs.YtoceemjbcgmojaaGreatDoor
section
open Go Go.RowKit Go.ChangeMaps
structure One(b:Nat)(w w':World):Prop where
 os:w'.os=w.os
 tape:w'.tape=w.tape
 output:w'.output=w.output
 size:w'.heap.size=w.heap.size
 block:∀k,k≠b->w'.heap[k]? =w.heap[k]?
theorem One.set(w:World)(b:Nat)(o:Obj):One b w (setBlock w b o):=⟨rfl,rfl,rfl,by simp[setBlock],fun k hk=>by simp[setBlock,Array.getElem?_setIfInBounds,Ne.symm hk]⟩
theorem One.below{b n:Nat}{a w w':World}(h:Below n a w)(k:One b w w')(hb:n<=b):Below n a w':=
 ⟨k.os.trans h.os,k.tape.trans h.tape,k.output.trans h.output,k.size▸h.size,fun i hi=>(k.block i (by omega)).trans (h.block i hi)⟩
theorem Bx.one{w w':World}{b c:Nat}{C:Array Value}(h:Bx w b C)(k:One c w w')(hn:b≠c):Bx w' b C:=h.same (by rw[k.size];exact br _) (k.block b hn)
section
variable {P:Program} {κ:Type} [DecidableEq κ] {enc:κ->Value} {ok:World->κ->Prop}
theorem qbx(w:World){ops:Array Oper}{rest:List Oper}{o:Oper}{a:Act}{Q:Exit->Act->World->Prop}(hg:o.guard=none)(m x v:Operand)(t:TypeId)(hop:o.op=Op.insert t m x v\/o.op=Op.mapUpdate t m x v){k e:TypeId}(K:KL P k enc ok)(ht:P.underlying t=some (.map k e))(b:Nat)(L:List (κ×Value))(hm:a.eval m=.map (some b))(hM:MS enc w b L)(key:κ)(val:Value)(hx:a.eval x=enc key)(hv:a.eval v=val)(h1:ok w key)(h2:∀p∈L,ok w p.1)(hK:∀w',MS enc w' b (putL key val L)->One b w w'->wpList P ops Q rest (a.put o.dst undef) w'):
 wpList P ops Q (o::rest) a w:=by
 refine wpList_plain hg fun K' hK'=>?_
 obtain⟨ob,hrun,r1⟩:=hM.put K ht key val h1 h2
 unfold Oper.wp
 rcases hop with hop|hop<;>
 .simp[execOp,hop,hm,hx,hv,hrun,Result.andThen]
  exact hK' _ _ (hK _ r1 (One.set w b ob))
end
abbrev kVar:BA:=⟨#[97,32,118,97,114,105,97,98,108,101]⟩
abbrev kUp:BA:=⟨#[117,112,32,110,97,109,101]⟩
abbrev kOpn:BA:=⟨#[40]⟩
theorem Ma.new{w:World}:MS Value.string (w.alloc (.map #[] 0)) w.heap.size []:=MS.new _ w
section
variable {w:World}
theorem smallRules_C(p:Addr):Calls Tryz.prog 185 #[.pointer (some p)] w (fun e w'=>e=.returned (.map (some w.heap.size))/\MS Value.string w' w.heap.size [(kVar,.func (.func 278) #[.pointer (some p)] #[]),(kUp,.func (.func 279) #[.pointer (some p)] #[]),(kOpn,.func (.func 280) #[.pointer (some p)] #[])]/\Below w.heap.size w w'):=by
 have H:=ai (Ma.new (w:=w))
 have HB:=ai ((Below.refl w.heap.size w).alloc (br _) (.map #[] 0))
 have hmf:∀(fn:Fn)(first cap:Array Value)(w:World),(Instr.makeFunc fn first cap).run Tryz.prog w=.ok (.func fn first cap) w:=fun _ _ _ _=>rfl
 have hmm:= @run_makeMap Tryz.prog
 go_enter Tryz.func185,Tryz.ntmps185
 go_wp2_with((refine qbx _ rfl _ _ _ _ (Or.inl rfl) (KL.str Tryz.underlying234) Tryz.underlying242 _ _ rfl (uh H) _ _ rfl rfl trivial (fun _ _=>trivial) ?_;clear H;intro w' H' O';have H:=ai H';have HB:=ai (One.below (uh HB) O' (by exact br _));clear H' O'))
 go_ret
 exact⟨rfl,uh H,uh HB⟩
end
end
end Go.Proofs.YtoceemjbcgmojaaGreatDoor

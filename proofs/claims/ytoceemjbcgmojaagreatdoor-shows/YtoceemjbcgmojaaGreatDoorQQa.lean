import Derived.Test.YtoceemjbcgmojaaGreatDoorQTf
import Derived.Test.YtoceemjbcgmojaaGreatDoorQPk
set_option linter.all false
set_option maxRecDepth 100000
set_option maxHeartbeats 200000
namespace Go.Proofs.YtoceemjbcgmojaaGreatDoor
section
open Go Go.RowKit Go.ChangeMaps Un
def tl(s:BA):BA:=s.extract 1 s.size
def Quo(s:BA):Prop:=∃r,s.toList=39::r
theorem tl_list{s:BA}{r:List UInt8}(h:s.toList=39::r):(tl s).toList=r:=by
 unfold tl
 rw[ByteArray.toList_eq]at h⊢
 rw[ByteArray.data_extract]
 simp
 rw[h]
 have:s.size=(39::r).length:=by rw[<-h];simp
 rw[this]
 simp
def Two(cb mb:Nat)(b:Nat):Prop:=b=cb\/b=mb
section
variable {w:World} {kb fb cb mb:Nat} {ns:List BA}
end
end
section
open Go Go.RowKit Go.ChangeMaps Un
theorem upN_ne{c:BA}(h:UpN c)(x:UInt8)(r:List UInt8)(hx:Pu.upB x.toNat=false):c.toList≠x::r:=by
 obtain⟨y,q,h1,h2⟩:=h
 intro e
 rw[h1]at e
 injection e with e1 _
 subst e1
 rw[hx]at h2
 cases h2
theorem PT.iface'{w:World}{P:Nat->Prop}{a:Nd}{v:Value}(h:PT w P a v):∃t x,v=.iface t (.agg x):=by
 cases h<;>exact⟨_,_,rfl⟩
section
variable {w:World} {kb fb cb mb:Nat} {ns:List BA} {Q:Nat->Prop}
end
end
section
open Go Go.RowKit Go.ChangeMaps Un
theorem taVV(a0 a1 a2:Value)(w:World):(Instr.typeAssert (.iface 265 (.agg #[a0,a1,a2])) 151 265 true).run Tryz.prog w=.ok (.tuple #[.agg #[a0,a1,a2],.bool true]) w:=by kernel_rfl
theorem taVA(a0 a1 a2:Value)(w:World):(Instr.typeAssert (.iface 265 (.agg #[a0,a1,a2])) 151 267 true).run Tryz.prog w=.ok (.tuple #[.agg #[.int .i64 0,.int .i64 0,.nilIface,.nilIface],.bool false]) w:=by kernel_rfl
theorem taVN(a0 a1 a2:Value)(w:World):(Instr.typeAssert (.iface 265 (.agg #[a0,a1,a2])) 151 272 true).run Tryz.prog w=.ok (.tuple #[.agg #[.int .i64 0,.int .i64 0,.int .i64 0,.int .i64 0,.string ⟨#[]⟩,.slice none 0 0],.bool false]) w:=by kernel_rfl
theorem taAV(a0 a1 a2 a3:Value)(w:World):(Instr.typeAssert (.iface 267 (.agg #[a0,a1,a2,a3])) 151 265 true).run Tryz.prog w=.ok (.tuple #[.agg #[.int .i64 0,.int .i64 0,.string ⟨#[]⟩],.bool false]) w:=by kernel_rfl
theorem taAA(a0 a1 a2 a3:Value)(w:World):(Instr.typeAssert (.iface 267 (.agg #[a0,a1,a2,a3])) 151 267 true).run Tryz.prog w=.ok (.tuple #[.agg #[a0,a1,a2,a3],.bool true]) w:=by kernel_rfl
theorem taAP(a0 a1 a2 a3:Value)(w:World):(Instr.typeAssert (.iface 267 (.agg #[a0,a1,a2,a3])) 151 269 true).run Tryz.prog w=.ok (.tuple #[.agg #[.int .i64 0,.int .i64 0,.nilIface,.nilIface],.bool false]) w:=by kernel_rfl
theorem taAN(a0 a1 a2 a3:Value)(w:World):(Instr.typeAssert (.iface 267 (.agg #[a0,a1,a2,a3])) 151 272 true).run Tryz.prog w=.ok (.tuple #[.agg #[.int .i64 0,.int .i64 0,.int .i64 0,.int .i64 0,.string ⟨#[]⟩,.slice none 0 0],.bool false]) w:=by kernel_rfl
theorem taPV(a0 a1 a2 a3:Value)(w:World):(Instr.typeAssert (.iface 269 (.agg #[a0,a1,a2,a3])) 151 265 true).run Tryz.prog w=.ok (.tuple #[.agg #[.int .i64 0,.int .i64 0,.string ⟨#[]⟩],.bool false]) w:=by kernel_rfl
theorem taPA(a0 a1 a2 a3:Value)(w:World):(Instr.typeAssert (.iface 269 (.agg #[a0,a1,a2,a3])) 151 267 true).run Tryz.prog w=.ok (.tuple #[.agg #[.int .i64 0,.int .i64 0,.nilIface,.nilIface],.bool false]) w:=by kernel_rfl
theorem taPP(a0 a1 a2 a3:Value)(w:World):(Instr.typeAssert (.iface 269 (.agg #[a0,a1,a2,a3])) 151 269 true).run Tryz.prog w=.ok (.tuple #[.agg #[a0,a1,a2,a3],.bool true]) w:=by kernel_rfl
theorem taPN(a0 a1 a2 a3:Value)(w:World):(Instr.typeAssert (.iface 269 (.agg #[a0,a1,a2,a3])) 151 272 true).run Tryz.prog w=.ok (.tuple #[.agg #[.int .i64 0,.int .i64 0,.int .i64 0,.int .i64 0,.string ⟨#[]⟩,.slice none 0 0],.bool false]) w:=by kernel_rfl
theorem taNV(a0 a1 a2 a3 a4 a5:Value)(w:World):(Instr.typeAssert (.iface 272 (.agg #[a0,a1,a2,a3,a4,a5])) 151 265 true).run Tryz.prog w=.ok (.tuple #[.agg #[.int .i64 0,.int .i64 0,.string ⟨#[]⟩],.bool false]) w:=by kernel_rfl
theorem taNA(a0 a1 a2 a3 a4 a5:Value)(w:World):(Instr.typeAssert (.iface 272 (.agg #[a0,a1,a2,a3,a4,a5])) 151 267 true).run Tryz.prog w=.ok (.tuple #[.agg #[.int .i64 0,.int .i64 0,.nilIface,.nilIface],.bool false]) w:=by kernel_rfl
theorem taNN(a0 a1 a2 a3 a4 a5:Value)(w:World):(Instr.typeAssert (.iface 272 (.agg #[a0,a1,a2,a3,a4,a5])) 151 272 true).run Tryz.prog w=.ok (.tuple #[.agg #[a0,a1,a2,a3,a4,a5],.bool true]) w:=by kernel_rfl
section
variable {w:World} {kb fb cb mb:Nat} {ns:List BA} {Q:Nat->Prop}
end
end
end Go.Proofs.YtoceemjbcgmojaaGreatDoor

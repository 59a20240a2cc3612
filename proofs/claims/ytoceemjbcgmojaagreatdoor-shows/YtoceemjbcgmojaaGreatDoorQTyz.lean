import Derived.SevenTiedAt
import Derived.Test.YtoceemjbcgmojaaGreatDoorCards
set_option linter.all false
set_option maxRecDepth 100000
set_option maxHeartbeats 200000
namespace Go.Proofs.YtoceemjbcgmojaaGreatDoor
section
open Go
theorem noOwnUnsafe:Tryz.pinned.checked.prog.headLifts.contains "ownunsafe" =false:=by kernel_rfl
def tieL:List (String×DataW Unit):=[("assay/reader.words",Rows.laid_assay_reader_words),("assay/reader.signs",Rows.laid_assay_reader_signs),("strconv.ErrSyntax",Rows.laid_strconv_ErrSyntax),("strconv.ErrRange",Rows.laid_strconv_ErrRange),("internal/strconv.uint64pow10",Rows.laid_internal_strconv_uint64pow10),("math/bits.deBruijn32tab",Rows.laid_math_bits_deBruijn32tab),("math/bits.deBruijn64tab",Rows.laid_math_bits_deBruijn64tab)]
def tieK:List LaidKind:=[.data,.data,.sentinel,.sentinel,.data,.data,.data]
theorem tie1:Tryz.prog.worded (varsWordLater true)=true:=by kernel_rfl
theorem tie2:Tryz.prog.worded (varsWordLater !true)=false:=by kernel_rfl
theorem tie3:Tryz.prog.worded rootWordLater=true:=by kernel_rfl
theorem tie4:tieL.map (fun x=>Tryz.prog.kindOfLater x.1)=tieK.map some:=by kernel_rfl
theorem tie5:(Tryz.prog.funcNamed "gosem.cut.vars").isSome=true:=by kernel_rfl
theorem tie6:varsNamedLaterB Tryz.prog (varsId Tryz.prog) tieL=true:=by kernel_rfl
theorem tie7(os:Os)(tape:Tape):varsDone Tryz.prog 400 (varsId Tryz.prog) os tape=true:=by kernel_rfl
theorem tie8(os:Os)(tape:Tape):(DataW.laidRun Tryz.prog (varsWorld Tryz.prog 400 (varsId Tryz.prog) os tape).memory 8 (tieL.map (·.1))).map (·.1)=some tieL:=by kernel_rfl
theorem tie9(os:Os)(tape:Tape):(DataW.laidRun Tryz.prog (varsWorld Tryz.prog 400 (varsId Tryz.prog) os tape).memory 8 (tieL.map (·.1))).map (fun x=>decide x.2.Nodup&&laidRowsB Tryz.prog (varsWorld Tryz.prog 400 (varsId Tryz.prog) os tape).memory x.2)=some true:=by kernel_rfl
theorem tie:Tryz.prog.laidByTextLater tieL tieK true:=
 Program.laidByTextLater_by_run 400 8 tie1 tie2 tie3 tie4 tie5 tie6 tie7 tie8 tie9
theorem nogo:Tryz.pinned.checked.prog.funcs.any Func.goes=false:=by kernel_rfl
theorem goes_no{P:Program}(h:P.funcs.any Func.goes=false)(f:FuncId):P.goes f=false:=by
 have q:∀g:Nat,(P.funcs[g]?).any Func.goes=false:=by
  intro g
  cases e:P.funcs[g]? with
  |none=>rfl|some x=>
   obtain⟨hl,rfl⟩:=Array.getElem?_eq_some_iff.1 e
   cases hx:Func.goes P.funcs[g]with
   |false=>simp[hx]|true=>exact absurd (Array.any_eq_true.2 ⟨g,hl,hx⟩) (by simp[h])
 simp[Program.goes,h,q]
theorem goesBy_no{P:Program}(h:P.funcs.any Func.goes=false)(c:OpenClaim):c.goesBy P=false:=by
 unfold OpenClaim.goesBy Program.goesAt Program.goesFrom
 have e:P.goes=fun _=>false:=funext (goes_no h)
 rw[e]
 cases P.funcNamed c.func<;>split<;>simp
end
section
open Go
theorem shows_row_tie:Rows.showsRow.laidByTextAt .later Tryz.pinned tieK true:=
 OpenClaim.laidByTextAt_later rfl rfl tie noOwnUnsafe
theorem shows_wfb:Rows.showsRow.wfByText (OpenSpec.ofChange Rows.showsSpec)=true:=by kernel_rfl
theorem shows_goes:false=Rows.showsRow.goesBy Tryz.pinned.checked.prog:=(goesBy_no nogo _).symm
end
end Go.Proofs.YtoceemjbcgmojaaGreatDoor

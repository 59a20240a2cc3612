import Derived.Deep.Slices
import Derived.OpenShut
import Derived.ProofKit
import Derived.Test.YtoceemjbcgmojaaGreatDoorProg
set_option linter.all false
set_option maxRecDepth 100000
set_option maxHeartbeats 200000
namespace Go.Proofs.YtoceemjbcgmojaaGreatDoor
section
open Go Go.ChangeShapes Go.WideShapes Go.RowKit Go.Deep
section
variable {H:Type} {enc:TypeId×Value->H} {P:Program} {w:World} {base:Nat} {spare:Nat->Bool} {held:Bool}
theorem ba_of_list{s t:ByteArray}(h:s.data.toList=t.data.toList):s=t:=by
 cases s;cases t
 simp at h
 simp[h]
theorem strs_cells{t e:TypeId}{n fuel:Nat}{cs:List Value}{p:List MemPlace}(L:List ByteArray)(ht:P.underlying t=some (.array n e))(he:P.underlying e=some .string)(hc:P.cellsOf e=1)(h:DataW.trod enc P w base spare held fuel t cs=some (.agg (L.map fun s=>.lit (.string s.data.toList)),p)):∀j,j<n->cs[j]? =some (.string (L.getD j ⟨#[]⟩)):=by
 intro j hj
 obtain⟨xs,m,_,hx,hl,hn,hel⟩:=DataW.trod_array ht h
 simp only[Prod.mk.injEq,DataW.agg.injEq]at hx
 have hg:=hel j hj
 rw[hc,Nat.mul_one,List.getElem?_eq_getElem (by omega)]at hg
 obtain⟨s,h1,h2,_⟩:=DataW.trod_string he hg
 have h3:(L.map fun s=>(DataW.lit (.string s.data.toList):DataW H))[j]? =some (.lit (.string s.data.toList)):=by
  rw[hx.1,List.getElem?_map,List.getElem?_eq_getElem (by omega),h2];rfl
 rw[List.getElem?_map]at h3
 cases hL:L[j]? with
 |none=>rw[hL]at h3;simp at h3|some u=>
  rw[hL]at h3
  simp at h3
  have hu:u=s:=ba_of_list (by simpa using h3)
  have h4:cs[j]? =some (.string s):=by
   have:=congrArg (fun l=>l[0]?) h1
   simpa[List.getElem?_take,List.getElem?_drop]using this
  rw[h4,List.getD_eq_getElem?_getD,hL,hu]
  rfl
theorem nums_cells{t e:TypeId}{k:IntKind}{n fuel:Nat}{cs:List Value}{p:List MemPlace}(L:List Int)(ht:P.underlying t=some (.array n e))(he:P.underlying e=some (.int k))(hc:P.cellsOf e=1)(h:DataW.trod enc P w base spare held fuel t cs=some (.agg (L.map fun s=>.lit (.int k s)),p)):∀j,j<n->cs[j]? =some (.int k (L.getD j 0)):=by
 intro j hj
 obtain⟨xs,m,_,hx,hl,hn,hel⟩:=DataW.trod_array ht h
 simp only[Prod.mk.injEq,DataW.agg.injEq]at hx
 have hg:=hel j hj
 rw[hc,Nat.mul_one,List.getElem?_eq_getElem (by omega)]at hg
 obtain⟨s,h1,h2,_⟩:=DataW.trod_int he hg
 have h3:(L.map fun s=>(DataW.lit (.int k s):DataW H))[j]? =some (.lit (.int k s)):=by
  rw[hx.1,List.getElem?_map,List.getElem?_eq_getElem (by omega),h2];rfl
 rw[List.getElem?_map]at h3
 cases hL:L[j]? with
 |none=>rw[hL]at h3;simp at h3|some u=>
  rw[hL]at h3
  simp at h3
  have h4:cs[j]? =some (.int k s):=by
   have:=congrArg (fun l=>l[0]?) h1
   simpa[List.getElem?_take,List.getElem?_drop]using this
  rw[h4,List.getD_eq_getElem?_getD,hL,h3]
  rfl
end
theorem intCells:Tryz.prog.cellsOf 3=1:=by kernel_rfl
theorem strCells:Tryz.prog.cellsOf 9=1:=by kernel_rfl
end
end Go.Proofs.YtoceemjbcgmojaaGreatDoor

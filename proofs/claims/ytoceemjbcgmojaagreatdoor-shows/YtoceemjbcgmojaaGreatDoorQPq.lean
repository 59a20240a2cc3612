import Derived.Test.YtoceemjbcgmojaaGreatDoorQTm
import Derived.Test.YtoceemjbcgmojaaGreatDoorQPp
set_option linter.all false
set_option maxRecDepth 100000
set_option maxHeartbeats 200000
namespace Go.Proofs.YtoceemjbcgmojaaGreatDoor
section
open Go Go.RowKit Go.ChangeMaps
theorem nextTok_7{s:BA}{p:Nat}(h:(qar s p).kind=7):qar s p=Pu.endTok s:=by
 unfold qar at h⊢
 split at h
 .exfalso
  revert h
  unfold Pu.tokAt
  repeat' split
  all_goals simp[Pu.mkT]
 .rename_i hn
  rw[if_neg hn]
theorem end_next{s:BA}{k:Nat}(hk:k<(Pu.toks s 0).length)(h:(tk (Pu.toks s 0) k).kind=7):(qar s (tk (Pu.toks s 0) k).to).kind≠6:=by
 rw[tk_next s k hk]at h⊢
 rw[nextTok_7 h]
 show(qar s s.size).kind≠6
 unfold qar
 rw[if_neg (by rw[Pu.endTo_end (br _)];omega)]
 simp[Pu.endTok]
abbrev kEnd':BA:=⟨#[116,104,101,32,101,110,100]⟩
theorem Ke.low{rb B:Nat}{a b c:World}(k:Ke rb b c)(h:Below B a b)(hB:B<=b.heap.size)(hr:B<=rb):Below B a c:=
 ⟨k.os.trans h.os,k.tape.trans h.tape,k.output.trans h.output,Nat.le_trans h.size k.size,fun i hi=>(k.block i (Nat.lt_of_lt_of_le hi hB) (by omega)).trans (h.block i hi)⟩
section
variable {w:World}
theorem toksF_len(s:BA):∀f i,(Pu.toksF s f i).length<=f+1
 |0,i=>by simp[Pu.toksF]|f+1,i=>by
  unfold Pu.toksF
  split
  .split
   .have:=toksF_len s f (i+1);omega
   .have:=toksF_len s f (Pu.tokAt s i).to;simp;omega
  .simp
theorem toks_len(s:BA)(i:Nat):(Pu.toks s i).length<=s.size-i+1:=toksF_len s _ _
end
end
end Go.Proofs.YtoceemjbcgmojaaGreatDoor

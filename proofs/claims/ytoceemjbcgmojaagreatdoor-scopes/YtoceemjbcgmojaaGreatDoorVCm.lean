import Derived.Test.YtoceemjbcgmojaaGreatDoorVD0
import Derived.Test.YtoceemjbcgmojaaGreatDoorVCl
set_option linter.all false
set_option maxRecDepth 100000
set_option maxHeartbeats 4000000
namespace Go.Proofs.YtoceemjbcgmojaaGreatDoor
section
open Go Go.RowKit Un
section
variable {w:World}
theorem Scope_D (s:BA):Calls Tryz.prog 18 #[.string s] w fun e w'=>e=.returned (flV (scopeA s))∧Below w.heap.size w w':=by
 have hb0:Below w.heap.size w (w.alloc (.cells #[.int .i64 0,.int .i64 0,.int .i64 0] 34)):=bw _
 have B0:=Bx.new w #[.int .i64 0,.int .i64 0,.int .i64 0] 34
 have HC:=ai (prog_D s (w:=w.alloc (.cells #[.int .i64 0,.int .i64 0,.int .i64 0] 34)))
 obtain ⟨fv,HF⟩:∃v,Hid (v=flV (scopeA s)):=⟨_,ai rfl⟩
 rw [←uh HF]
 go_enter Tryz.func18,Tryz.ntmps18
 go_wp2_with fail
 refine (uh HC).mono ?_
 rintro e w1 ⟨vp,vl,vc,f,rfl,hb1,hp⟩
 have HB1:=hb0.trans (hb1.mono hb0.size)
 have hb2:Below w1.heap.size w1 (w1.alloc (.cells #[.int .i64 (f.kind:Int),.int .i64 (f.frm:Int),.int .i64 (f.to:Int)] 34)):=bw _
 have HB2:=ai (HB1.trans (hb2.mono HB1.size))
 have B2:=ai ((B0.below hb1).below hb2)
 have F2:=ai (Bx.new w1 #[.int .i64 (f.kind:Int),.int .i64 (f.frm:Int),.int .i64 (f.to:Int)] 34)
 obtain ⟨c2,f2,z2⟩:=uh B2
 obtain ⟨c3,f3,z3⟩:=uh F2
 unfold flV
 cases hr:qc1 s with
 |error f'=>
  rw [hr] at hp
  obtain ⟨hf,hk⟩:=hp
  have HF':fv=flV f:=by rw [uh HF,hf];unfold scopeA;rw [hr]
  subst HF'
  clear HF
  have hk':((f.kind:Int)==0)=false:=by simp;omega
  have B5:=ai ((uh B2).set3' rfl (.int .i64 (f.kind:Int)) (.int .i64 (f.frm:Int)) (.int .i64 (f.to:Int)))
  clear hr HC hb0 hb1 hb2 HB1 B0 hf
  go_wp2_with fail
  obtain ⟨c5,f5,z5⟩:=uh B5
  refine bodyPost_ret (v:=flV f) (by simp [results,Tryz.results18,go_sem,flV,c5]) rfl ?_
  exact ⟨rfl,(((uh HB2).setCell (p:=⟨w.heap.size,0,none⟩) (br _) _).setCell (p:=⟨w.heap.size,1,none⟩) (br _) _).setCell (p:=⟨w.heap.size,2,none⟩) (br _) _⟩
 |ok l=>
  rw [hr] at hp
  obtain ⟨rfl,rfl,P,hd⟩:=hp
  obtain ⟨hS,hl⟩:=readP_sm hr
  have HC2:=ai (world_C (hd.bel hb2) hl hS vc)
  have HF':=ai (show fv=flV (ckDs up1 l se0).f by rw [uh HF];unfold scopeA;rw [hr])
  generalize (ckDs up1 l se0).f=Z at HC2 HF'
  have e0:((noFl.kind:Nat):Int)=0:=rfl
  have e1:((noFl.frm:Nat):Int)=0:=rfl
  have e2:((noFl.to:Nat):Int)=0:=rfl
  rw [e0,e1,e2] at HB2 B2 F2 c2 f2 z2 c3 f3 z3 HC2
  clear hr HC hb0 hb1 HB1 B0 hd HF hS
  go_wp2_with fail
  refine (uh HC2).mono ?_
  rintro e w3 ⟨wb,C,rfl,hb3,hB3,q4,q5,q6,qs⟩
  have HB3:=ai ((uh HB2).trans (hb3.mono (uh HB2).size))
  have B3:=ai ((uh B2).below hb3)
  obtain ⟨c4,f4,z4⟩:=hB3
  have d4:=(c4 4).trans q4
  have d5:=(c4 5).trans q5
  have d6:=(c4 6).trans q6
  have B5:=ai ((uh B3).set3' rfl (.int .i64 (Z.kind:Int)) (.int .i64 (Z.frm:Int)) (.int .i64 (Z.to:Int)))
  clear c2 f2 z2 c3 f3 z3 HC2 hb3 c4 q4 q5 q6 hb2 e0 e1 e2
  obtain ⟨c3,f3,z3⟩:=uh B3
  go_wp2_with fail
  obtain ⟨c5,f5,z5⟩:=uh B5
  refine bodyPost_ret (v:=flV Z) (by simp [results,Tryz.results18,go_sem,flV,c5]) rfl ?_
  exact ⟨by rw [uh HF'],(((uh HB3).setCell (p:=⟨w.heap.size,0,none⟩) (br _) _).setCell (p:=⟨w.heap.size,1,none⟩) (br _) _).setCell (p:=⟨w.heap.size,2,none⟩) (br _) _⟩
end
end
end Go.Proofs.YtoceemjbcgmojaaGreatDoor

import Derived.Test.YtoceemjbcgmojaaGreatDoorQSa
set_option linter.all false
set_option maxRecDepth 100000
set_option maxHeartbeats 4000000
namespace Go.Proofs.YtoceemjbcgmojaaGreatDoor
section
open Go Go.RowKit
section
variable {rb g cap:Nat} {T:List Pu.Tok} {σ:St} {w:World}
theorem head_plain{n:Nat}{small:M Nd}(h:SS w rb g cap T σ)(sort:Nat)(hf:∀k,σ=.ok k->T.length<=k+n)(HS:NodeC rb g cap T 203 #[.pointer (some ⟨rb,0,none⟩),.int .i64 (sort:Int)] small n)(hu:ofS T σ 2=false):
 Calls Tryz.prog 118 #[.pointer (some ⟨rb,0,none⟩),.int .i64 (sort:Int)] w fun e w'=>∃x:NV,e=.returned x.v/\Ke rb w w'/\SS w' rb g cap T (nx σ small)/\∀k a k',σ=.ok k->small k=.ok (a,k')->NR w' (fun b=>w.heap.size<=b) a x:=by
 have HS':=ai HS
 have hf':=ai hf
 clear HS hf
 have hr:=h.hr
 have hg:=h.hg
 have H1:=ai h
 have K2:=ai (Ke.refl rb w)
 clear h
 go_enter Tryz.func118,Tryz.ntmps118
 go_wp2_with fail
 have H3:=ai ((uh H1).alloc (.cells qat 62))
 have K4:=ai ((uh K2).alloc (.cells qat 62))
 have B5:=ai (Bx.at w qat 62 (w.heap.size) (by simp[World.setCell]))
 clear H1 K2
 refine(of_S (uh H3) 2).mono ?_
 rintro e w1⟨rfl,hb⟩
 have H6:=ai ((uh H3).below hb)
 have K7:=ai ((uh K4).below hb)
 have z8:=hb.size
 try simp[World.setCell]at z8
 have B9:=ai ((uh B5).below hb)
 clear H3 K4 B5 hb
 obtain⟨c10,f11,y12⟩:=uh B9
 go_wp2_with fail
 clear c10 f11 y12
 refine(uh HS' _ _ (uh H6) (uh hf')).mono ?_
 rintro e w2⟨x,rfl,hb,hS,hN⟩
 have H16:=ai hS
 have K17:=ai ((uh K7).trans hb)
 have z18:=hb.size
 try simp[World.setCell]at z18
 have B19:=ai ((uh B9).ke hb (by omega))
 clear H6 K7 B9 hb hS
 obtain⟨c20,f21,y22⟩:=uh B19
 have hN1:=ai (fun k a k' (h1:σ=.ok k) (hq:small k=.ok (a,k'))=>(hN k a k' h1 hq).rng w1.heap.size (fun b hb=>by simpa using hb))
 clear hN
 unfold NV.v
 go_wp2_with fail
 refine wp_loop_rounds 1 ?_
 rw[rounds_succ]
 go_wp2_with fail
 have H23:=ai (((uh H16).st7 (b:=w.heap.size) (by omega) (by omega) x).alloc (.cells (nvA x) 62))
 have K24:=ai (((uh K17).st7 (b:=w.heap.size) (by omega) x).alloc (.cells (nvA x) 62))
 have B25:=ai (((uh B19).st7 rfl x).alloc (.cells (nvA x) 62))
 have B26:=ai (Bx.at (((((((w2.setCell ⟨w.heap.size,0,none⟩ (.int .i64 x.k)).setCell ⟨w.heap.size,1,none⟩ (.string x.s)).setCell ⟨w.heap.size,2,none⟩ (.int .i64 x.n)).setCell ⟨w.heap.size,3,none⟩ (.slice x.la x.ll x.lc)).setCell ⟨w.heap.size,4,none⟩ (.int .i64 x.f)).setCell ⟨w.heap.size,5,none⟩ (.int .i64 x.t)).setCell ⟨w.heap.size,6,none⟩ (.int .i64 x.a)) #[.int .i64 x.k,.string x.s,.int .i64 x.n,.slice x.la x.ll x.lc,.int .i64 x.f,.int .i64 x.t,.int .i64 x.a] 62 (w2.heap.size) (by simp[World.setCell]))
 have R27:=ai (fun k a k' h1 hq=>(NR.bel (NRst7 (uh hN1 k a k' h1 hq) (b2:=w.heap.size) (fun b hb _=>by omega) x) (bw (.cells (nvA x) 62))))
 clear H16 K17 B19 hN1 c20 f21 y22
 obtain⟨cF,fF,zF⟩:=uh B25
 refine bodyPost_ret (v:=NV.v x) (by simp[results,Tryz.results118,go_sem,cF,NV.v];try rfl) rfl ⟨x,rfl,uh K24,uh H23,fun k a k' h1 hq=>?_⟩
 exact(uh R27 k a k' h1 hq).wide _ (fun b hb=>by omega)
end
end
end Go.Proofs.YtoceemjbcgmojaaGreatDoor

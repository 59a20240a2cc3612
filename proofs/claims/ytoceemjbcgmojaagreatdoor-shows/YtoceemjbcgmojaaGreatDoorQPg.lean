import Derived.Deep.RegionWith
import Derived.Test.YtoceemjbcgmojaaGreatDoorQPf
set_option linter.all false
set_option maxRecDepth 100000
set_option maxHeartbeats 200000
namespace Go.Proofs.YtoceemjbcgmojaaGreatDoor
section
open Go Go.RowKit Go.ChangeMaps
structure MV where
 (a b c d f g h:Value)
abbrev rdC(s:BA)(t:Pu.Tok)(k:Nat)(m:MV)(sb:Nat):Array Value:=
 #[.string s,.int .i64 (t.frm:Int),.int .i64 (t.to:Int),.string (qaj t),.string t.text,.int .i64 (k:Int),m.a,m.b,m.c,m.d,.map (some sb),m.f,m.g,m.h]
abbrev smL(rb:Nat):List (BA×Value):=[(kVar,.func (.func 278) #[.pointer (some ⟨rb,0,none⟩)] #[]),(kUp,.func (.func 279) #[.pointer (some ⟨rb,0,none⟩)] #[]),(kOpn,.func (.func 280) #[.pointer (some ⟨rb,0,none⟩)] #[])]
structure RD(w:World)(rb sb:Nat)(m:MV)(s:BA)(t:Pu.Tok)(k:Nat):Prop where
 bx:Bx w rb (rdC s t k m sb)
 sm:MS Value.string w sb (smL rb)
 ne:sb≠rb
 la:Laid w
 h2:2<=rb
theorem Laid.ke{rb:Nat}{w w':World}(h:Laid w)(hk:Ke rb w w')(h2:2<=rb):Laid w':=by
 have c:∀b o,b<2->w'.cell? ⟨b,o,none⟩=w.cell? ⟨b,o,none⟩:=fun b o hb=>World.cell?_of_block (a:=⟨b,o,none⟩) (hk.block b (by have:=h.hz;omega) (by omega))
 exact⟨fun j hj=>(c 1 j (by omega)).trans (h.words j hj),fun j hj=>(c 0 j (by omega)).trans (h.signs j hj),Nat.le_trans h.hz hk.size⟩
theorem RD.bel{w w':World}{rb sb:Nat}{m:MV}{s:BA}{t:Pu.Tok}{k:Nat}(h:RD w rb sb m s t k)(hb:Below w.heap.size w w'):RD w' rb sb m s t k:=
 ⟨h.bx.below hb,h.sm.below hb,h.ne,h.la.bel hb,h.h2⟩
theorem RD.ke{w w':World}{rb sb:Nat}{m:MV}{s:BA}{t:Pu.Tok}{k:Nat}(h:RD w rb sb m s t k)(hk:Ke rb w w'){t':Pu.Tok}{k':Nat}(hb:Bx w' rb (rdC s t' k' m sb)):RD w' rb sb m s t' k':=
 ⟨hb,h.sm.same (hk.block sb h.sm.lt h.ne),h.ne,h.la.ke hk h.h2,h.h2⟩
theorem MS.setC{κ:Type}[DecidableEq κ]{enc:κ->Value}{w:World}{b c:Nat}{L:List (κ×Value)}(h:MS enc w b L)(hn:b≠c)(j:Nat)(v:Value):MS enc (w.setCell ⟨c,j,none⟩ v) b L:=h.same (Below.heap_setCell _ _ _ _ hn)
abbrev zRd(s:BA):Array Value:=#[.string s,.int .i64 0,.int .i64 0,.string ⟨#[]⟩,.string ⟨#[]⟩,.int .i64 0,.map none,.map none,.map none,.map none,.map none,.map none,.map none,.map none]
abbrev guV(f:Fl):Value:=.iface 231 (.agg #[.int .i64 (f.kind:Int),.int .i64 (f.frm:Int),.int .i64 (f.to:Int)])
abbrev qd3(f:Fl):Ending:=.panicked [{v:=guV f,recovered:=false}]
theorem guBad(t:Pu.Tok)(h:t.kind=6):flOf t=⟨2,t.frm,t.to⟩:=by unfold flOf;rw[if_pos h]
theorem Bx.set4at{w:World}{b:Nat}{v1' v2' v3' v4':Value}{x0 x5 x6 x7 x8 x9 x10 x11 x12 x13:Value}(h:Bx w b #[x0,v1',v2',v3',v4',x5,x6,x7,x8,x9,x10,x11,x12,x13])(v0 v1 v2 v3:Value):
 Bx ((((w.setCell ⟨b,1,none⟩ v0).setCell ⟨b,2,none⟩ v1).setCell ⟨b,3,none⟩ v2).setCell ⟨b,4,none⟩ v3) b #[x0,v0,v1,v2,v3,x5,x6,x7,x8,x9,x10,x11,x12,x13]:=
 (((h.setS' 1 v0 #[x0,v0,v2',v3',v4',x5,x6,x7,x8,x9,x10,x11,x12,x13] rfl (by simp)).setS' 2 v1 #[x0,v0,v1,v3',v4',x5,x6,x7,x8,x9,x10,x11,x12,x13] rfl (by simp)).setS' 3 v2 #[x0,v0,v1,v2,v4',x5,x6,x7,x8,x9,x10,x11,x12,x13] rfl (by simp)).setS' 4 v3 _ rfl (by simp)
section
variable {w:World}
theorem smallRules_C'(p:Addr):Calls Tryz.prog 185 #[.pointer (some p)] w fun e w'=>∃b,e=.returned (.map (some b))/\w.heap.size<=b/\MS Value.string w' b [(kVar,.func (.func 278) #[.pointer (some p)] #[]),(kUp,.func (.func 279) #[.pointer (some p)] #[]),(kOpn,.func (.func 280) #[.pointer (some p)] #[])]/\Below w.heap.size w w':=
 (smallRules_C p).mono fun e w' q=>⟨_,q.1,br _,q.2⟩
end
end
end Go.Proofs.YtoceemjbcgmojaaGreatDoor

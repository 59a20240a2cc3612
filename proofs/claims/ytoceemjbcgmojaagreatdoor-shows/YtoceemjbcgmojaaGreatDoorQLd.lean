import Derived.Test.YtoceemjbcgmojaaGreatDoorQLd0
import Derived.Test.YtoceemjbcgmojaaGreatDoorQWh
set_option linter.all false
set_option maxRecDepth 100000
set_option maxHeartbeats 200000
namespace Go.Proofs.YtoceemjbcgmojaaGreatDoor
section
open Go Go.ChangeShapes Go.WideShapes Go.RowKit Go.Deep
theorem opUnder:∃f0 f1 f2 f3:Field,Tryz.prog.underlying 30=some (.struct #[f0,f1,f2,f3])/\f0.type=3/\f1.type=9/\f2.type=9/\f3.type=3/\f0.offset=0/\f1.offset=1/\f2.offset=2/\f3.offset=3:=⟨_,_,_,_,Tryz.underlying30,rfl,rfl,rfl,rfl,rfl,rfl,rfl,rfl⟩
theorem open_script{H:Type}{enc:TypeId×Value->H}{w:World}{base fuel:Nat}{p:Option Addr}{len cap:Nat}{x:DataW H×List MemPlace}(h:DataW.trod enc Tryz.prog w base (fun _=>true) true fuel 22 [.slice p len cap]=some x):(len:Int)<=9223372036854775807/\∃K N A B,Scr w p len K N A B:=by
 obtain⟨f0,f1,f2,f3,hop,t0,t1,t2,t3,o0,o1,o2,o3⟩:=opUnder
 rcases open_slice opsUnder h with⟨e,_⟩|⟨a,len',cap',m,n,D,Pl,e,hb,hl,hm,hmm,rfl,hx⟩
 .simp at e
  obtain⟨rfl,rfl,rfl⟩:=e
  exact⟨by simp,fun _=>0,fun _=>0,fun _=>⟨#[]⟩,fun _=>⟨#[]⟩,fun i hi=>by omega⟩
 .simp at e
  obtain⟨rfl,rfl,rfl⟩:=e
  refine⟨by simp only[maxLen]at hm;omega,?_⟩
  have each:∀i,i<len->∃q:(Int×Int)×(BA×BA),∃g o,some a=some ⟨g,o,none⟩/\g<w.heap.size/\w.cell? ⟨g,o+i*4,none⟩=some (.int .i64 q.1.1)/\w.cell? ⟨g,o+i*4+1,none⟩=some (.string q.2.1)/\w.cell? ⟨g,o+i*4+2,none⟩=some (.string q.2.2)/\w.cell? ⟨g,o+i*4+3,none⟩=some (.int .i64 q.1.2):=by
   intro i hi
   obtain⟨cs',h1,h2⟩:=hx i (by simp at hmm;omega)
   rw[opCells]at h1
   obtain⟨_,hlen,hcell⟩:=World.cells?_some h1
   obtain⟨xs,k,_,_,_,hxl,hf⟩:=DataW.trod_struct hop h2
   match cs',hlen with
   |[v0,v1,v2,v3],_=>
    have g0:=hf 0 f0 rfl
    have g1:=hf 1 f1 rfl
    have g2:=hf 2 f2 rfl
    have g3:=hf 3 f3 rfl
    simp only[t0,t1,t2,t3,o0,o1,o2,o3,intCells,strCells]at g0 g1 g2 g3
    have hxl':xs.length=4:=by simpa using hxl
    rw[List.getElem?_eq_getElem (by omega)]at g0 g1 g2 g3
    obtain⟨k0,e0,_,_⟩:=DataW.trod_int Tryz.underlying3 g0
    obtain⟨s1,e1,_,_⟩:=DataW.trod_string Tryz.underlying9 g1
    obtain⟨s2,e2,_,_⟩:=DataW.trod_string Tryz.underlying9 g2
    obtain⟨k3,e3,_,_⟩:=DataW.trod_int Tryz.underlying3 g3
    simp at e0 e1 e2 e3
    subst e0 e1 e2 e3
    have c0:=hcell 0 (by omega)
    have c1:=hcell 1 (by omega)
    have c2:=hcell 2 (by omega)
    have c3:=hcell 3 (by omega)
    rw[add_add]at c0 c1 c2 c3
    obtain⟨g,o,sp⟩:=a
    have hsp:sp=none:=by
     obtain⟨cs0,z1,_⟩:=hx 0 (by simp at hmm;omega)
     rw[opCells]at z1
     obtain⟨_,hlen0,hcell0⟩:=World.cells?_some z1
     have c00:=hcell0 0 (by omega)
     rw[add_add]at c00
     rw[List.getElem?_eq_getElem (by omega)]at c00
     simpa[Addr.add]using World.cell?_spot c00
    subst hsp
    rw[add_plain]at c0 c1 c2 c3
    exact⟨((k0,k3),(s1,s2)),g,o,rfl,World.block_lt_of_cell? _ _ (by simpa using c0),by simpa using c0,by simpa[Nat.add_assoc]using c1,by simpa[Nat.add_assoc]using c2,by simpa[Nat.add_assoc]using c3⟩
  obtain⟨q,hq⟩:=choose_lt each
  exact⟨fun i=>(q i).1.1,fun i=>(q i).1.2,fun i=>(q i).2.1,fun i=>(q i).2.2,hq⟩
end
end Go.Proofs.YtoceemjbcgmojaaGreatDoor

import Derived.BigRegion
import Derived.Test.YtoceemjbcgmojaaGreatDoorVOj
set_option linter.all false
set_option maxRecDepth 100000
set_option maxHeartbeats 8000000
namespace Go.Proofs.YtoceemjbcgmojaaGreatDoor
section
open Go Go.RowKit
theorem Bx.setO3 {w:World} {b b2:Nat} {C:Array Value} (h:Bx w b C) (hn:b≠b2) (v0 v1 v2:Value):Bx (((w.setCell ⟨b2,0,none⟩ v0).setCell ⟨b2,1,none⟩ v1).setCell ⟨b2,2,none⟩ v2) b C:=
 ((h.setO hn 0 v0).setO hn 1 v1).setO hn 2 v2
end
section
open Go Go.RowKit Un
theorem Fr.lowZ {S:Nat→Prop} {n:Nat} {a b c:World} (h:Below n a b) (hn:n≤b.heap.size) (k:Fr S b c) (hS:∀x,S x→n≤x):Below n a c:=
 ⟨k.os.trans h.os,k.tape.trans h.tape,k.output.trans h.output,Nat.le_trans h.size k.size,fun i hi=>(k.block i (by omega) (fun q=>by have:=hS i q;omega)).trans (h.block i hi)⟩
theorem readP_bd {s:BA} {f:Fl} (hf:qc1 s=.error f):f.kind≠0∧f.frm≤f.to∧f.to≤s.size:=by
 by_cases hs:400<s.size
 ·simp [qc1,hs] at hf
  subst hf
  simp
 ·have:=readP_got hs
  rw [hf] at this
  exact this
def NamedP (s:BA) (w:World) (e:Ending) (w':World):Prop:=
 ∃u f,e=.returned (.tuple #[.agg #[u],flV f])∧Below w.heap.size w w'∧match qc1 s with
  |.error f'=>f=f'∧u=.slice none 0 0
  |.ok l=>f=(ckDs up2 l se0).f∧RowV QD 1 w' (fun b=>w.heap.size≤b) l u
section
variable {w:World}
theorem readNamed_C (h:Laid w) (s:BA):Calls Tryz.prog 37 #[.string s] w (NamedP s w):=by
 obtain ⟨W0,hW0⟩:∃W0,W0=(w.alloc (.cells #[.slice none 0 0] 49)).alloc (.cells #[.int .i64 0,.int .i64 0,.int .i64 0] 34):=⟨_,rfl⟩
 have hb0:Below w.heap.size w W0:=by rw [hW0];exact (bw _).alloc (by simp) _
 have A0:Bx W0 w.heap.size #[.slice none 0 0]:=by rw [hW0];exact (Bx.new w _ _).alloc _
 have B0:Bx W0 (w.heap.size+1) #[.int .i64 0,.int .i64 0,.int .i64 0]:=by rw [hW0];have:=Bx.new (w.alloc (.cells #[.slice none 0 0] 49)) #[.int .i64 0,.int .i64 0,.int .i64 0] 34;simpa using this
 have HC:=ai (Program_X (h.bel hb0) s)
 have HW:=ai hW0
 clear h hW0
 go_enter Tryz.func37,Tryz.ntmps37
 go_wp2_with fail
 rw [←uh HW]
 refine (uh HC).mono ?_
 rintro e w1 ⟨u,f,rfl,hb1,hp⟩
 obtain ⟨va,vc,n,hu⟩:∃va vc n,u=.slice va n vc:=by
  cases hr:qc1 s with
  |error f'=>rw [hr] at hp;exact ⟨_,_,_,hp.2⟩
  |ok l=>rw [hr] at hp;obtain ⟨va,vc,cs,e,_⟩:=hp.2;exact ⟨_,_,_,e⟩
 subst hu
 have HB1:=hb0.trans (hb1.mono hb0.size)
 obtain ⟨W1,hW1⟩:∃W1,W1=(w1.alloc (.cells #[.slice va n vc] 49)).alloc (.cells #[.int .i64 (f.kind:Int),.int .i64 (f.frm:Int),.int .i64 (f.to:Int)] 34):=⟨_,rfl⟩
 have hb2:Below w1.heap.size w1 W1:=by rw [hW1];exact (bw _).alloc (by simp) _
 have HB2:=ai (HB1.trans (hb2.mono HB1.size))
 have A2:=ai ((A0.below hb1).below hb2)
 have B2:=ai ((B0.below hb1).below hb2)
 have P2:Hid (Bx W1 w1.heap.size #[.slice va n vc]):=ai (by rw [hW1];exact (Bx.new w1 _ _).alloc _)
 have F2:Hid (Bx W1 (w1.heap.size+1) #[.int .i64 (f.kind:Int),.int .i64 (f.frm:Int),.int .i64 (f.to:Int)]):=ai (by rw [hW1];have:=Bx.new (w1.alloc (.cells #[.slice va n vc] 49)) #[.int .i64 (f.kind:Int),.int .i64 (f.frm:Int),.int .i64 (f.to:Int)] 34;simpa using this)
 have HW1:=ai hW1
 have hz1:=HB1.size
 have hz0:=B0.z
 have hz2:=hb1.size
 unfold flV
 cases hr:qc1 s with
 |error f'=>
  rw [hr] at hp
  obtain ⟨hf,hu⟩:=hp
  subst hf
  have hk:=(readP_bd hr).1
  have hk':((f.kind:Int)==0)=false:=by simp;omega
  have HR:=ai hr
  clear hr HC hb0 hb1 hb2 HB1 A0 B0 hW1 HW hk
  go_wp2_with fail
  rw [←uh HW1]
  obtain ⟨c1,f1,z1⟩:=uh A2
  obtain ⟨c2,f2,z2⟩:=uh B2
  obtain ⟨c3,f3,z3⟩:=uh P2
  obtain ⟨c4,f4,z4⟩:=uh F2
  go_region
  go_wp2_with fail
  obtain ⟨c5,f5,z5⟩:=(((uh B2).setO (b2:=w.heap.size) (by omega) 0 (.slice none 0 0)).set3' rfl (.int .i64 (f.kind:Int)) (.int .i64 (f.frm:Int)) (.int .i64 (f.to:Int))).drew'
  obtain ⟨c6,f6,z6⟩:=(((uh A2).setS 0 (.slice none 0 0) #[.slice none 0 0] (by simp) (by simp)).setO3 (b2:=w.heap.size+1) (by omega) (.int .i64 (f.kind:Int)) (.int .i64 (f.frm:Int)) (.int .i64 (f.to:Int))).drew'
  refine bodyPost_ret (v:=.tuple #[.agg #[.slice none 0 0],flV f]) (by simp [results,Tryz.results37,go_sem,flV,c5,c6]) rfl ?_
  refine ⟨.slice none 0 0,f,rfl,(((((uh HB2).setCell (p:=⟨w.heap.size,0,none⟩) (br _) _).setCell (p:=⟨w.heap.size+1,0,none⟩) (Nat.le_succ _) _).setCell (p:=⟨w.heap.size+1,1,none⟩) (Nat.le_succ _) _).setCell (p:=⟨w.heap.size+1,2,none⟩) (Nat.le_succ _) _).drew,?_⟩
  rw [uh HR]
  exact ⟨rfl,rfl⟩
 |ok l=>
  rw [hr] at hp
  obtain ⟨rfl,hrow⟩:=hp
  obtain ⟨hS,hl⟩:=readP_so hr
  have hrow2:RowV QD 1 W1 (fun b=>W0.heap.size≤b∧b<w1.heap.size) l (.slice va n vc):=hrow.move qb5 hb2.size (fun b _ z=>hb2.block b z) (fun b p z=>⟨p,z⟩)
  have HR2:=ai hrow2
  have HC2:Hid (∀W,Below W1.heap.size W1 W→Calls Tryz.prog 83 #[.agg #[.slice va n vc]] W fun e w'=>e=.returned (flV (ckDs up2 l se0).f)∧Below W.heap.size W w'):=ai fun W k=>Fault_P (hrow2.move qb5 k.size (fun b _ z=>k.block b z) (fun b p z=>Nat.lt_of_lt_of_le z k.size)) hS hl
  have HR:=ai hr
  have hzw:=hb2.size
  generalize hZ:(ckDs up2 l se0).f=Z at HC2
  simp only [flV] at HC2
  have HZ:=ai hZ
  have e0:((noFl.kind:Nat):Int)=0:=rfl
  have e1:((noFl.frm:Nat):Int)=0:=rfl
  have e2:((noFl.to:Nat):Int)=0:=rfl
  rw [e0,e1,e2] at F2 HW1
  clear hr HC hb0 hb1 HB1 A0 B0 hrow hrow2 hS hb2 hW1 HW hZ
  go_wp2_with fail
  rw [←uh HW1]
  obtain ⟨c3,f3,z3⟩:=uh P2
  go_region_with (go_at_call 83;refine (uh HC2 _ (Below.refl _ _).drew).mono ?_;rintro e w3 ⟨rfl,hb3⟩;have K3:=(Below.refl W1.heap.size W1).drew.trans hb3;have A3:=(uh A2).below K3;have B3:=(uh B2).below K3;have P3:=(uh P2).below K3;have HK3:=ai K3;have HA3:=ai A3;have HB3:=ai B3;obtain ⟨a1,a2,a3⟩:=A3;obtain ⟨b1,b2,b3⟩:=B3;obtain ⟨p1,p2,p3⟩:=P3;clear hb3 K3)
  all_goals (
   go_wp2_with fail
   have hb3:=uh HK3
   obtain ⟨c5,f5,z5⟩:=((uh HB3).setO (b2:=w.heap.size) (by omega) 0 (.slice va n vc)).set3' rfl (.int .i64 (Z.kind:Int)) (.int .i64 (Z.frm:Int)) (.int .i64 (Z.to:Int))
   obtain ⟨c6,f6,z6⟩:=((uh HA3).setS 0 (.slice va n vc) #[.slice va n vc] (by simp) (by simp)).setO3 (b2:=w.heap.size+1) (by omega) (.int .i64 (Z.kind:Int)) (.int .i64 (Z.frm:Int)) (.int .i64 (Z.to:Int))
   refine bodyPost_ret (v:=.tuple #[.agg #[.slice va n vc],flV Z]) (by simp [results,Tryz.results37,go_sem,flV,c5,c6]) rfl ?_
   have kk:Fr (fun b=>b=w.heap.size∨b=w.heap.size+1) w3 ((((w3.setCell ⟨w.heap.size,0,none⟩ (.slice va n vc)).setCell ⟨w.heap.size+1,0,none⟩ (.int .i64 (Z.kind:Int))).setCell ⟨w.heap.size+1,1,none⟩ (.int .i64 (Z.frm:Int))).setCell ⟨w.heap.size+1,2,none⟩ (.int .i64 (Z.to:Int))):=((((Fr.refl _ _).set (Or.inl (Or.inl rfl)) 0 _).set (Or.inl (Or.inr rfl)) 0 _).set (Or.inl (Or.inr rfl)) 1 _).set (Or.inl (Or.inr rfl)) 2 _
   have k3:=(uh HB2).trans (hb3.mono (uh HB2).size)
   have z3':=hb3.size
   refine ⟨.slice va n vc,Z,rfl,Fr.lowZ k3 k3.size kk (fun x q=>by rcases q with rfl|rfl<;>omega),?_⟩
   rw [uh HR]
   exact ⟨(uh HZ).symm,(uh HR2).move qb5 (by have:=kk.size;omega) (fun b p z=>(kk.block b (by omega) (fun q=>by rcases q with rfl|rfl<;>omega)).trans (hb3.block b z)) (fun b p z=>by omega)⟩)
end
end
section
open Go Go.RowKit Un
section
variable {w:World}
theorem Scope_P (h:Laid w) (s:BA):Calls Tryz.prog 17 #[.string s] w fun e w'=>e=.returned (flV (scopeA s))∧Below w.heap.size w w':=by
 have hb0:Below w.heap.size w (w.alloc (.cells #[.int .i64 0,.int .i64 0,.int .i64 0] 34)):=bw _
 have B0:=Bx.new w #[.int .i64 0,.int .i64 0,.int .i64 0] 34
 have HC:=ai (readNamed_C (h.bel hb0) s)
 obtain ⟨Z,HZ⟩:∃v,Hid (v=scopeA s):=⟨_,ai rfl⟩
 rw [←uh HZ]
 clear h
 go_enter Tryz.func17,Tryz.ntmps17
 go_wp2_with fail
 refine (uh HC).mono ?_
 rintro e w1 ⟨u,f,rfl,hb1,hp⟩
 have hf:f=Z:=by
  rw [uh HZ]
  unfold scopeA
  cases hr:qc1 s with
  |error f'=>rw [hr] at hp;exact hp.1
  |ok l=>rw [hr] at hp;show f=(ckDs up1 l se0).f;rw [scope_same hr];exact hp.1
 obtain ⟨va,vc,n,hu⟩:∃va vc n,u=.slice va n vc:=by
  cases hr:qc1 s with
  |error f'=>rw [hr] at hp;exact ⟨_,_,_,hp.2⟩
  |ok l=>rw [hr] at hp;obtain ⟨va,vc,cs,e,_⟩:=hp.2;exact ⟨_,_,_,e⟩
 clear hp HZ HC
 subst hu hf
 have HB1:=hb0.trans (hb1.mono hb0.size)
 have hb2:Below w1.heap.size w1 ((w1.alloc (.cells #[.slice va n vc] 49)).alloc (.cells #[.int .i64 (f.kind:Int),.int .i64 (f.frm:Int),.int .i64 (f.to:Int)] 34)):=(bw _).alloc (by simp) _
 have HB2:=ai (HB1.trans (hb2.mono HB1.size))
 have B2:=ai ((B0.below hb1).below hb2)
 have F2:Hid (Bx ((w1.alloc (.cells #[.slice va n vc] 49)).alloc (.cells #[.int .i64 (f.kind:Int),.int .i64 (f.frm:Int),.int .i64 (f.to:Int)] 34)) (w1.heap.size+1) #[.int .i64 (f.kind:Int),.int .i64 (f.frm:Int),.int .i64 (f.to:Int)]):=ai (by have:=Bx.new (w1.alloc (.cells #[.slice va n vc] 49)) #[.int .i64 (f.kind:Int),.int .i64 (f.frm:Int),.int .i64 (f.to:Int)] 34;simpa using this)
 have B5:=ai ((uh B2).set3' rfl (.int .i64 (f.kind:Int)) (.int .i64 (f.frm:Int)) (.int .i64 (f.to:Int)))
 obtain ⟨c2,f2,z2⟩:=uh B2
 obtain ⟨c3,f3,z3⟩:=uh F2
 unfold flV
 clear hb0 hb1 hb2 HB1 B0
 go_wp2_with fail
 obtain ⟨c5,f5,z5⟩:=uh B5
 refine bodyPost_ret (v:=flV f) (by simp [results,Tryz.results17,go_sem,flV,c5]) rfl ?_
 exact ⟨rfl,(((uh HB2).setCell (p:=⟨w.heap.size,0,none⟩) (br _) _).setCell (p:=⟨w.heap.size,1,none⟩) (br _) _).setCell (p:=⟨w.heap.size,2,none⟩) (br _) _⟩
end
end
section
open Go Go.RowKit Un
section
variable {w:World}
theorem plays_scope {a b:BA} {n k i j:Int} {bv:Value}
 (hP:∀W,Below w.heap.size w W→Calls Tryz.prog 17 #[.string a] W (fun e w'=>e=.returned (ftV k i j)∧Below W.heap.size W w'))
 (hR:∀W,Calls Tryz.prog 18 #[.string a] W (fun e w'=>e=.returned (ftV k i j)∧Below W.heap.size W w')):
 Calls Tryz.prog 9 #[bv,.agg #[.int .i64 4,.string a,.string b,.int .i64 n]] w fun e w'=>e=.returned (.bool true)∧Below w.heap.size w w':=by
 have HP:=ai hP
 have HR:=ai hR
 clear hP hR
 have hb0:Below w.heap.size w (w.alloc (.cells #[.int .i64 4,.string a,.string b,.int .i64 n] 30)):=bw _
 go_enter Tryz.func9,Tryz.ntmps9
 have B0:=Ox.new w #[.int .i64 4,.string a,.string b,.int .i64 n] 30 _ rfl
 go_wp2_with fail
 refine (uh HP _ hb0).mono ?_
 rintro e w1 ⟨rfl,hb1⟩
 have HB1:=hb0.trans (hb1.mono hb0.size)
 have B1:=ai (B0.below hb1)
 have hb2:Below w1.heap.size w1 (w1.alloc (.cells #[.int .i64 k,.int .i64 i,.int .i64 j] 34)):=bw _
 have HB2:=HB1.trans (hb2.mono HB1.size)
 have B2:=ai ((uh B1).below hb2)
 have F2:=ai (Ox.new w1 #[.int .i64 k,.int .i64 i,.int .i64 j] 34 _ rfl)
 obtain ⟨c1,z1⟩:=uh B1
 obtain ⟨c2,z2⟩:=uh B2
 obtain ⟨c3,z3⟩:=uh F2
 unfold ftV
 go_wp2_with fail
 go_region_with (first
  |(go_at_call 18;refine (uh HR _).mono ?_;rintro e w3 ⟨rfl,hb3⟩;have HB3:=ai (HB2.drew.trans (hb3.mono HB2.size));have F3:=ai ((uh F2).below ((Below.refl _ _).drew.trans (hb3.mono (br _))));obtain ⟨c4,z4⟩:=uh F3;unfold ftV;clear hb3)
  |(go_at_call 12;refine (sameFault_C k i j).mono ?_;rintro e w5 ⟨rfl,hb5⟩;have HB5:=ai ((uh HB3).trans (hb5.mono (uh HB3).size));clear hb5))
 all_goals (
  go_wp2_with fail
  go_ret
  exact ⟨rfl,uh HB5⟩)
theorem Scopes_C {p:Option Addr} {len cap:Nat} {K N:Nat→Int} {A B:Nat→BA} (hlen:(len:Int)≤9223372036854775807) (hS:Scr w p len K N A B)
 (hP:∀i W bv,i<len→Below w.heap.size w W→4≤K i→K i≤4→Calls Tryz.prog 9 #[bv,opV (K i) (N i) (A i) (B i)] W fun e w'=>e=.returned (.bool true)∧Below W.heap.size W w'):
 Calls Tryz.prog 4 #[.slice p len cap] w fun e w'=>e=.returned (.bool true)∧Below w.heap.size w w':=by
 have HC:=ai (upTo_C (cap:=cap) hlen hS hP)
 clear hS hP
 go_enter Tryz.func4,Tryz.ntmps4
 go_wp2_with fail
 refine (uh HC).mono ?_
 rintro e w2 ⟨rfl,hb2⟩
 go_wp2_with fail
 go_ret
 exact ⟨rfl,hb2⟩
theorem playsO_C (hL:Laid w) (k n:Int) (a b:BA) (bv:Value) (h2:4≤k) (h3:k≤4):Calls Tryz.prog 9 #[bv,opV k n a b] w fun e w'=>e=.returned (.bool true)∧Below w.heap.size w w':=by
 have hk:k=4:=by omega
 subst hk
 exact plays_scope (fun W hb=>(Scope_P (hL.bel hb) a).mono fun e w' q=>q) (fun W=>(Scope_D a).mono fun e w' q=>q)
theorem Scopes_law (hL:Laid w) {p:Option Addr} {len cap:Nat} {K N:Nat→Int} {A B:Nat→BA} (hlen:(len:Int)≤9223372036854775807) (hS:Scr w p len K N A B):
 Calls Tryz.prog 4 #[.slice p len cap] w fun e w'=>e=.returned (.bool true)∧Below w.heap.size w w':=
 Scopes_C hlen hS fun i W bv _ hb h2 h3=>playsO_C (hL.bel hb) _ _ _ _ bv h2 h3
end
end
end Go.Proofs.YtoceemjbcgmojaaGreatDoor

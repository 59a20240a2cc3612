import Derived.Test.YtoceemjbcgmojaaGreatDoorVTf
import Derived.Test.YtoceemjbcgmojaaGreatDoorVCc
set_option linter.all false
set_option maxRecDepth 100000
set_option maxHeartbeats 8000000
namespace Go.Proofs.YtoceemjbcgmojaaGreatDoor
section
open Go Go.RowKit Un
theorem intInfoC:(Tryz.prog.info? 3).map (fun i=>(i.zero,i.size,i.bytes))=some (some (.int .i64 0),1,8):=by kernel_rfl
theorem intsUnderC:Tryz.prog.underlying 89=some (.slice 3):=by kernel_rfl
theorem mksInfoC:(Tryz.prog.info? 307).map (fun i=>(i.zero,i.size,i.bytes))=some (some (.agg #[.string ⟨#[]⟩,.int .i64 0,.string ⟨#[]⟩,.int .i64 0,.slice none 0 0,.int .i64 0,.int .i64 0,.int .i64 0,.int .i64 0,.int .i64 0]),10,112):=by kernel_rfl
theorem mksUnderC:Tryz.prog.underlying 98=some (.slice 307):=by kernel_rfl
structure WDg (w:World) (wb:Nat) (lv tv cv mv:Value) (ns:List BA) (cs:List Nat) (mks:List MK) (f:Fl):Prop where
 bx:Bx w wb #[lv,tv,cv,mv,.int .i64 (f.kind:Int),.int .i64 (f.frm:Int),.int .i64 (f.to:Int)]
 tr:w.ownsRow (wb+1) 9 1 tv ns.length (ns.map Value.string)
 co:w.ownsRow (wb+1) 3 1 cv cs.length (cs.map fun (c:Nat)=>Value.int .i64 (c:Int))
 mo:w.ownsRow (wb+1) 307 10 mv mks.length (mkCells mks)
 tc:∀q,tv.ownBlock=some q→cv.ownBlock≠some q
 tm:∀q,tv.ownBlock=some q→mv.ownBlock≠some q
 cm:∀q,cv.ownBlock=some q→mv.ownBlock≠some q
 nt:ns.length≤1000
 nc:cs.length≤1000
 nm:mks.length≤1000
def SB (wb:Nat) (tv cv mv:Value) (b:Nat):Prop:=b=wb∨tv.ownBlock=some b∨cv.ownBlock=some b∨mv.ownBlock=some b
section
variable {w w' W w3:World} {wb:Nat} {lv tv cv mv v3:Value} {tys:List (BA×Nat)} {ns:List BA} {cs:List Nat} {mks:List MK} {f f':Fl}
theorem WD.g (h:WD w wb lv tv cv mv tys mks f):WDg w wb lv tv cv mv (tys.map (·.1)) (tys.map (·.2)) mks f:=
 ⟨h.bx,by rw [List.length_map,List.map_map];exact h.tr,by rw [List.length_map,List.map_map];exact h.co,h.mo,h.tc,h.tm,h.cm,by rw [List.length_map];exact h.nt,by rw [List.length_map];exact h.nt,h.nm⟩
theorem WDg.wd (h:WDg w wb lv tv cv mv (tys.map (·.1)) (tys.map (·.2)) mks f):WD w wb lv tv cv mv tys mks f:=
 ⟨h.bx,by have:=h.tr;rw [List.length_map,List.map_map] at this;exact this,by have:=h.co;rw [List.length_map,List.map_map] at this;exact this,h.mo,h.tc,h.tm,h.cm,by have:=h.nt;rw [List.length_map] at this;exact this,h.nm⟩
theorem WDg.bel (h:WDg w wb lv tv cv mv ns cs mks f) (k:Below w.heap.size w w'):WDg w' wb lv tv cv mv ns cs mks f:=
 ⟨h.bx.below k,qa8 h.tr k,qa8 h.co k,qa8 h.mo k,h.tc,h.tm,h.cm,h.nt,h.nc,h.nm⟩
theorem WDg.sb (h:WDg w wb lv tv cv mv ns cs mks f):∀b,SB wb tv cv mv b→wb≤b∧b<w.heap.size:=by
 rintro b (q|q|q|q)
 ·rw [q];exact ⟨br _,h.bx.z⟩
 ·have:=qai h.tr b q;omega
 ·have:=qai h.co b q;omega
 ·have:=qai h.mo b q;omega
theorem WDg.z (h:WDg w wb lv tv cv mv ns cs mks f):wb<w.heap.size:=h.bx.z
theorem WDg.growT {s:BA} (h:WDg W wb lv tv cv mv ns cs mks f) (hl:ns.length<1000) (hg:W.grownBy w3 tv.ownBlock) (ho:w3.ownsRow (wb+1) 9 1 v3 (ns.length+1) ((ns.map Value.string)++[.string s])) (ha:v3.ownBlock=tv.ownBlock∨v3.ownBlock=some W.heap.size):
 WDg (w3.setCell ⟨wb,1,none⟩ v3) wb lv v3 cv mv (ns++[s]) (cs) (mks) f∧Fr (fun b=>b=wb∨tv.ownBlock=some b) W (w3.setCell ⟨wb,1,none⟩ v3):=by
 have hq:∀q,tv.ownBlock=some q→wb+1≤q∧q<W.heap.size:=qai h.tr
 refine ⟨⟨(Bx.grown hg h.bx (fun j hj=>by have:=hq j hj;omega)).setS 1 v3 #[lv,v3,cv,mv,.int .i64 (f.kind:Int),.int .i64 (f.frm:Int),.int .i64 (f.to:Int)] rfl (by simp),qba (own_num ho (by simp) (by simp)) (Nat.lt_succ_self _) _ _,qba (qb3 h.co (fun q hx=>hg.block q (qai h.co q hx).2 (fun e=>h.tc q (e.symm) hx))) (Nat.lt_succ_self _) _ _,qba (qb3 h.mo (fun q hx=>hg.block q (qai h.mo q hx).2 (fun e=>h.tm q (e.symm) hx))) (Nat.lt_succ_self _) _ _,?_,?_,?_,?_,?_,?_⟩,?_⟩
 ·intro q hv hj
  rcases ha with e|e
  ·rw [e] at hv;exact h.tc q hv hj
  ·rw [e] at hv;cases hv;have:=(qai h.co _ hj).2;omega
 ·intro q hv hj
  rcases ha with e|e
  ·rw [e] at hv;exact h.tm q hv hj
  ·rw [e] at hv;cases hv;have:=(qai h.mo _ hj).2;omega
 ·exact h.cm
 ·simp;omega
 ·exact h.nc
 ·exact h.nm
 ·have F:Fr (fun b=>b=wb∨tv.ownBlock=some b) W w3:=⟨hg.os,hg.tape,hg.output,hg.size,fun b hb hn=>hg.block b hb (fun e=>hn (Or.inr e.symm))⟩
  exact F.set (Or.inl (Or.inl rfl)) _ _
theorem WDg.growC {c:Nat} (h:WDg W wb lv tv cv mv ns cs mks f) (hl:cs.length<1000) (hg:W.grownBy w3 cv.ownBlock) (ho:w3.ownsRow (wb+1) 3 1 v3 (cs.length+1) ((cs.map fun (c:Nat)=>Value.int .i64 (c:Int))++[.int .i64 (c:Int)])) (ha:v3.ownBlock=cv.ownBlock∨v3.ownBlock=some W.heap.size):
 WDg (w3.setCell ⟨wb,2,none⟩ v3) wb lv tv v3 mv (ns) (cs++[c]) (mks) f∧Fr (fun b=>b=wb∨cv.ownBlock=some b) W (w3.setCell ⟨wb,2,none⟩ v3):=by
 have hq:∀q,cv.ownBlock=some q→wb+1≤q∧q<W.heap.size:=qai h.co
 refine ⟨⟨(Bx.grown hg h.bx (fun j hj=>by have:=hq j hj;omega)).setS 2 v3 #[lv,tv,v3,mv,.int .i64 (f.kind:Int),.int .i64 (f.frm:Int),.int .i64 (f.to:Int)] rfl (by simp),qba (qb3 h.tr (fun q hx=>hg.block q (qai h.tr q hx).2 (fun e=>h.tc q hx e.symm))) (Nat.lt_succ_self _) _ _,qba (own_num ho (by simp) (by simp)) (Nat.lt_succ_self _) _ _,qba (qb3 h.mo (fun q hx=>hg.block q (qai h.mo q hx).2 (fun e=>h.cm q (e.symm) hx))) (Nat.lt_succ_self _) _ _,?_,?_,?_,?_,?_,?_⟩,?_⟩
 ·intro q hj hv
  rcases ha with e|e
  ·rw [e] at hv;exact h.tc q hj hv
  ·rw [e] at hv;cases hv;have:=(qai h.tr _ hj).2;omega
 ·exact h.tm
 ·intro q hv hj
  rcases ha with e|e
  ·rw [e] at hv;exact h.cm q hv hj
  ·rw [e] at hv;cases hv;have:=(qai h.mo _ hj).2;omega
 ·exact h.nt
 ·simp;omega
 ·exact h.nm
 ·have F:Fr (fun b=>b=wb∨cv.ownBlock=some b) W w3:=⟨hg.os,hg.tape,hg.output,hg.size,fun b hb hn=>hg.block b hb (fun e=>hn (Or.inr e.symm))⟩
  exact F.set (Or.inl (Or.inl rfl)) _ _
theorem WDg.growM {m:MK} (h:WDg W wb lv tv cv mv ns cs mks f) (hl:mks.length<1000) (hg:W.grownBy w3 mv.ownBlock) (ho:w3.ownsRow (wb+1) 307 10 v3 (mks.length+1) ((mkCells mks)++m.l)) (ha:v3.ownBlock=mv.ownBlock∨v3.ownBlock=some W.heap.size):
 WDg (w3.setCell ⟨wb,3,none⟩ v3) wb lv tv cv v3 (ns) (cs) (mks++[m]) f∧Fr (fun b=>b=wb∨mv.ownBlock=some b) W (w3.setCell ⟨wb,3,none⟩ v3):=by
 have hq:∀q,mv.ownBlock=some q→wb+1≤q∧q<W.heap.size:=qai h.mo
 refine ⟨⟨(Bx.grown hg h.bx (fun j hj=>by have:=hq j hj;omega)).setS 3 v3 #[lv,tv,cv,v3,.int .i64 (f.kind:Int),.int .i64 (f.frm:Int),.int .i64 (f.to:Int)] rfl (by simp),qba (qb3 h.tr (fun q hx=>hg.block q (qai h.tr q hx).2 (fun e=>h.tm q hx e.symm))) (Nat.lt_succ_self _) _ _,qba (qb3 h.co (fun q hx=>hg.block q (qai h.co q hx).2 (fun e=>h.cm q hx e.symm))) (Nat.lt_succ_self _) _ _,qba (own_num ho (by simp) (by simp [mkCells])) (Nat.lt_succ_self _) _ _,?_,?_,?_,?_,?_,?_⟩,?_⟩
 ·exact h.tc
 ·intro q hj hv
  rcases ha with e|e
  ·rw [e] at hv;exact h.tm q hj hv
  ·rw [e] at hv;cases hv;have:=(qai h.tr _ hj).2;omega
 ·intro q hj hv
  rcases ha with e|e
  ·rw [e] at hv;exact h.cm q hj hv
  ·rw [e] at hv;cases hv;have:=(qai h.co _ hj).2;omega
 ·exact h.nt
 ·exact h.nc
 ·simp;omega
 ·have F:Fr (fun b=>b=wb∨mv.ownBlock=some b) W w3:=⟨hg.os,hg.tape,hg.output,hg.size,fun b hb hn=>hg.block b hb (fun e=>hn (Or.inr e.symm))⟩
  exact F.set (Or.inl (Or.inl rfl)) _ _
end
theorem ckV_app:∀(a b:List Pu.Tok) (p:List BA) (z:Fl),ckV p (a++b) z=ckV (p++a.map (·.text)) b (ckV p a z)
 |[],b,p,z=>by simp [ckV]
 |v::r,b,p,z=>by
  simp only [List.cons_append,ckV,List.map_cons]
  rw [ckV_app r b,List.append_assoc]
  rfl
theorem ckV_take (vs:List Pu.Tok) (z:Fl) (i:Nat) (h:i<vs.length):ckV [] (vs.take (i+1)) z=qas (inL vs[i].text ((vs.map (·.text)).take i)) 4 vs[i].frm vs[i].to (ckV [] (vs.take i) z):=by
 rw [List.take_succ_eq_append_getElem h,ckV_app]
 simp only [ckV,List.nil_append,List.map_take]
theorem tellIf_in {own:List BA} {s:BA} {j a b:Nat} {z:Fl} (h:j<own.length):qas (inL s (own.take (j+1))) 4 a b z=if own[j]=s then tell 4 a b (qas (inL s (own.take j)) 4 a b z) else qas (inL s (own.take j)) 4 a b z:=by
 rw [inL_take h]
 by_cases e:own[j]=s
 ·simp only [e,decide_true,Bool.or_true,if_true]
  unfold qas
  simp only [if_true]
  split
  ·exact (tell_twice 4 a b z (by decide)).symm
  ·rfl
 ·simp only [e,decide_false,Bool.or_false,if_false]
end
section
open Go Go.RowKit Un
def ARR (wb xb:Nat) (x:NV) (lv tv cv mv:Value) (tys:List (BA×Nat)) (mks:List MK) (w0:World) (v:Value) (l:List BA) (z:Fl) (A:List (Nd×Nd)) (gk:Nat) (c:Value) (wr:World):Prop:=∃j i:Nat,Hid (gk=A.length-j)∧j≤A.length∧Hid (i=1+2*j)∧c=.int .i64 (i:Int)∧NL wr wb v l∧WX wb xb x lv tv cv mv tys mks w0 (ckAs (tyD tys) (mkD mks) l (A.take j) z) wr
def INR (wb:Nat) (w1:World) (l p:List BA) (gk:Nat) (u c:Value) (wr:World):Prop:=∃j:Nat,Hid (gk=p.length-j)∧j≤p.length∧c=.int .i64 (j:Int)∧NL wr wb u (l++p.take j)∧Below w1.heap.size w1 wr
section
variable {s:BA} {n f t a:Nat}
theorem NL.app1 {w:World} {wb:Nat} {v:Value} {l p:List BA} {j:Nat} (hj:j<p.length) (h:NL w wb v (l++p.take j++[p[j]])):NL w wb v (l++p.take (j+1)):=by
 rw [List.take_succ_eq_append_getElem hj,←List.append_assoc]
 exact h
theorem looks_13 {u:Nd} {A:List (Nd×Nd)} (Hu:LEC u) (HA:∀p∈A,LEC p.2):LEC (.mk 13 s n (u::armN A) f t a):=by
 intro w wb B lv tv cv mv tys mks z x v l h hB hx hN hl hs
 have hwb:=h.z
 have hlen:(u::armN A).length=1+2*A.length:=by simp [armN_len'];omega
 have hL:=hs.len.1
 have HS:=ai hs.part
 have HX:=ai hx
 have HHA:=ai HA
 obtain ⟨la,lc,rfl,hp⟩:=hx.pts
 obtain ⟨g,_,rfl,⟨hg,-⟩,-,-⟩:=hp 0 (by simp)
 obtain ⟨N,HN0⟩:∃N,Hid (N=(u::armN A).length):=⟨_,ai rfl⟩
 have hNA:Hid (N=1+2*A.length):=ai (by rw [uh HN0,hlen])
 rw [←uh HN0] at HX⊢hL
 have hxw:w.heap.size≠wb:=by omega
 have hbA:Below w.heap.size w (w.alloc (.cells (nvA ⟨13,s,n,some ⟨g,0,none⟩,N,lc,f,t,a⟩) 62)):=bw _
 have X0:Hid (WX wb w.heap.size ⟨13,s,n,some ⟨g,0,none⟩,N,lc,f,t,a⟩ lv tv cv mv tys mks w z (w.alloc (.cells (nvA ⟨13,s,n,some ⟨g,0,none⟩,N,lc,f,t,a⟩) 62))):=ai ⟨h.bel hbA,Ke.of hbA,Bx.new _ _ _⟩
 have N0:=ai (hN.bel hbA)
 obtain ⟨Z,HZ⟩:∃Z,Hid (Z=ckAs (tyD tys) (mkD mks) l A (ckE (tyD tys) (mkD mks) u l z)):=⟨_,ai rfl⟩
 rw [ckE_13,ckEA_as,←uh HZ]
 simp only [nn,nnL] at hl
 clear h hx hN hs hp hbA HA hlen
 obtain ⟨ya,Rya,Pya,hgya⟩:=((uh HX).keB (uh X0).k hB).at' 0 (by simp)
 have HC:=ai (Hu _ wb B lv tv cv mv tys mks z ya v l (uh X0).d hB Pya (uh N0) (by omega) (uh HS u (by simp)))
 unfold NV.v at HC
 obtain ⟨q0,q1,q2,q3,q4,q5,q6⟩:=qey Rya
 simp only [Nat.zero_mul,Nat.zero_add,Nat.one_mul,Nat.reduceMul,Nat.reduceAdd] at q0 q1 q2 q3 q4 q5 q6
 clear Rya Pya hgya
 have hN1:(0:Int)<(N:Int):=by have:=uh hNA;omega
 obtain ⟨c0,f0,y0⟩:=(uh X0).b
 unfold NV.v
 go_enter Tryz.func85,Tryz.ntmps85
 go_wp2_with fail
 refine (uh HC).mono ?_
 rintro e wa ⟨rfl,ka,da⟩
 have XA:=ai ((uh X0).ke hxw ka da)
 have NA:=ai ((uh N0).ke ka)
 clear ka da HC q0 q1 q2 q3 q4 q5 q6 c0 f0 y0 X0 N0
 generalize ckE (tyD tys) (mkD mks) u l z=z1 at XA HZ
 go_wp2_with fail
 go_loopg [9] A.length (fun gk c wr=>ARR wb w.heap.size ⟨13,s,n,some ⟨g,0,none⟩,N,lc,f,t,a⟩ lv tv cv mv tys mks w v l z1 A gk c wr)
 case atStart=>exact ⟨0,1,ai rfl,Nat.zero_le _,ai rfl,rfl,uh NA,uh XA⟩
 case round=>
  clear XA NA
  obtain ⟨j,i,hgk,hj,HI,rfl,hN,hX⟩:=hrel
  have XR:=ai hX
  have NR':=ai hN
  clear hX hN
  obtain ⟨c1,f1,y1⟩:=(uh XR).b
  by_cases hlt:j<A.length
  ·have hd:(i:Int)+1<(N:Int):=by have:=uh HI;have:=uh hNA;omega
   have hd2:(i:Int)<(N:Int):=by omega
   have hlen:(u::armN A).length=1+2*A.length:=by simp [armN_len'];omega
   obtain ⟨yp,Ryp,Pyp,hgp⟩:=((uh HX).keB (uh XR).k hB).at' i (by have:=uh HI;rw [hlen];omega)
   have e1:(u::armN A)[i]'(by have:=uh HI;rw [hlen];omega)=A[j].1:=by
    have:=(armN_at A j hlt).1
    have e:(u::armN A)[i]? =some A[j].1:=by rw [show i=2*j+1 by have:=uh HI;omega];simpa using this
    rw [List.getElem?_eq_getElem (by have:=uh HI;rw [hlen];omega)] at e
    exact Option.some.inj e
   rw [e1] at Pyp
   have hin:=armN_in A j hlt
   have hnn:=armN_nn A j hlt
   have HC:=ai (looksPattern_C A[j].1 wr wb B lv tv cv mv tys mks _ yp (.slice none 0 0) [] (uh XR).d hB Pyp (NL.nil _ _) (by simp;omega) (uh HS _ (List.mem_cons_of_mem _ hin.1)))
   unfold NV.v at HC
   obtain ⟨q0,q1,q2,q3,q4,q5,q6⟩:=qey Ryp
   have HLN:=ai hlen
   have HIN:=ai hin
   have HT:=ai (ckAs_take (tyD tys) (mkD mks) l A z1 j hlt)
   clear Ryp Pyp hgp e1 hlen hin
   generalize ckAs (tyD tys) (mkD mks) l (A.take j) z1=zj at HC HT XR
   have HLP:=ckP_len (mkD mks) A[j].1 ([],zj)
   unfold ckArm at HT
   generalize ckP (mkD mks) A[j].1 ([],zj)=pz at HC HT HLP
   obtain ⟨p,zp⟩:=pz
   simp only [lqn] at HLP
   go_wp2_with fail
   refine (uh HC).mono ?_
   rintro e w2 ⟨v2,rfl,k2,n2,d2⟩
   have X2:=ai ((uh XR).ke hxw k2 d2)
   have N2:=ai ((uh NR').ke k2)
   have P2:=ai n2
   obtain ⟨pa,pc,rfl,hcp⟩:=n2.sl
   have HCP:=ai hcp
   clear k2 d2 n2 hcp HC q0 q1 q2 q3 q4 q5 q6 c1 f1 y1 XR NR'
   go_wp2_with fail
   go_loopg [11,12] p.length (fun gk u c wr=>INR wb w2 l p gk u c wr)
   case atStart=>exact ⟨0,ai rfl,Nat.zero_le _,rfl,by simpa using uh N2,Below.refl _ _⟩
   case round=>
    obtain ⟨m,hgm,hm,rfl,hN,hbm⟩:=hrel
    have NM:=ai hN
    have HBM:=ai hbm
    clear hN hbm
    by_cases hlm:m<p.length
    ·have hd':(m:Int)<(p.length:Int):=by omega
     obtain ⟨gp,rfl,hgp,hcm⟩:=uh HCP m hlm
     have hcm':=(World.cell?_of_block (a:=⟨gp,m,none⟩) ((uh HBM).block gp hgp)).trans hcm
     have HC:=ai (and_C (uh NM) (Nat.lt_of_lt_of_le (uh X2).d.z (uh HBM).size) (by simp;omega) p[m])
     clear hcm
     go_wp2_with fail
     refine (uh HC).mono ?_
     rintro e w3 ⟨v3,rfl,b3,n3⟩
     have N3:=ai n3
     have HB3:=ai ((uh HBM).trans (b3.mono (uh HBM).size))
     clear b3 n3 HC
     go_wp2_with fail
     go_roundg (p.length-(m+1))
     case measure=>rw [uh hgm];omega
     case rel=>exact ⟨m+1,ai rfl,by omega,by go_num,(uh N3).app1 hlm,uh HB3⟩
    ·have hd':decide ((m:Int)<(p.length:Int))=false:=by simp;omega
     have he:p.take m=p:=List.take_of_length_le (by omega)
     rw [he] at NM
     have X3:=ai ((uh X2).bel (uh HBM))
     have M3:=ai ((uh N2).bel (uh HBM))
     obtain ⟨ye,Rye,Pye,hge⟩:=((uh HX).keB (uh X3).k hB).at' (i+1) (by have:=uh HI;rw [uh HLN];omega)
     have e2:(u::armN A)[i+1]'(by have:=uh HI;rw [uh HLN];omega)=A[j].2:=by
      have:=(armN_at A j hlt).2
      have e:(u::armN A)[i+1]? =some A[j].2:=by rw [show i+1=(2*j+1)+1 by have:=uh HI;omega];simpa using this
      rw [List.getElem?_eq_getElem (by have:=uh HI;rw [uh HLN];omega)] at e
      exact Option.some.inj e
     rw [e2] at Pye
     have HC:=ai (uh HHA A[j] (List.getElem_mem hlt) _ wb B lv tv cv mv tys mks zp ye _ (l++p) (uh X3).d hB Pye (uh NM) (by simp;omega) (uh HS _ (List.mem_cons_of_mem _ (uh HIN).2)))
     unfold NV.v at HC
     obtain ⟨q0,q1,q2,q3,q4,q5,q6⟩:=qey Rye
     obtain ⟨c1,f1,y1⟩:=(uh X3).b
     clear Rye Pye hge e2
     go_wp2_with fail
     refine (uh HC).mono ?_
     rintro e w4 ⟨rfl,k4,d4⟩
     have X4:=ai ((uh X3).ke hxw k4 d4)
     have N4:=ai ((uh M3).ke k4)
     clear k4 d4 HC
     go_wp2_with fail
     go_roundg (A.length-(j+1))
     case measure=>rw [uh hgk];omega
     case rel=>exact ⟨j+1,i+2,ai rfl,by omega,ai (by have:=uh HI;omega),by go_num,uh N4,by rw [uh HT];exact uh X4⟩
  ·have hi3:(i:Int)≤3000:=by have:=uh HI;have:=uh hNA;omega
   have hd:decide ((i:Int)+1<(N:Int))=false:=by have:=uh HI;have:=uh hNA;simp;omega
   have he:A.take j=A:=List.take_of_length_le (by omega)
   rw [he,←uh HZ] at XR
   go_wp2_with fail
   go_end0
   exact ⟨rfl,(uh XR).k,(uh XR).d⟩
end
end
end Go.Proofs.YtoceemjbcgmojaaGreatDoor

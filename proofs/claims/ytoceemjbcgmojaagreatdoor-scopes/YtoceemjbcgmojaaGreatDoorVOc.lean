import Derived.Maps.RangeRun
import Derived.Test.YtoceemjbcgmojaaGreatDoorVCc
set_option linter.all false
set_option maxRecDepth 100000
set_option maxHeartbeats 8000000
namespace Go.Proofs.YtoceemjbcgmojaaGreatDoor
section
open Go Go.RowKit Go.ChangeMaps Go.MapKept
def MB (w:World) (b:Nat) (L:List (BA×Value)):Prop:=∃es clock,w.heap[b]? =some (.map es clock)∧es.toList.map (fun e=>(e.key,e.val))=L.map (fun p=>(Value.string p.1,p.2))∧(es.toList.map (·.born)).Nodup∧∀e∈es.toList,e.born<clock
section
variable {w w':World} {b:Nat} {L:List (BA×Value)}
theorem MB.ms (h:MB w b L):MS Value.string w b L:=by obtain ⟨es,c,h1,h2,_⟩:=h;exact ⟨es,c,h1,h2⟩
theorem MB.lt (h:MB w b L):b<w.heap.size:=h.ms.lt
theorem MB.same (h:MB w b L) (hb:w'.heap[b]? =w.heap[b]?):MB w' b L:=by obtain ⟨es,c,h1,h2⟩:=h;exact ⟨es,c,hb.trans h1,h2⟩
theorem MB.new (w:World):MB (w.alloc (.map #[] 0)) w.heap.size []:=⟨#[],0,(MapKept.heap_alloc w _).1,rfl,by simp,by simp⟩
theorem born_modify (l:List MapEntry) (j:Nat) (f:MapEntry→MapEntry) (hf:∀e,(f e).born=e.born):(l.modify j f).map (·.born)=l.map (·.born):=by
 induction l generalizing j with
 |nil=>cases j<;>simp
 |cons e r ih=>cases j<;>simp [hf,ih]
theorem MB.put (h:MB w b L) (x:BA) (v:Value):∃o,(Instr.mapUpdate 302 (.map (some b)) (.string x) v).run Tryz.prog w=.ok () (setBlock w b o)∧MB (setBlock w b o) b (putL x v L):=by
 obtain ⟨es,clock,hb,hes,hn,hk⟩:=h
 have K:=KL.str (P:=Tryz.prog) Tryz.underlying9
 have hf:=K.fin x L es.toList w trivial (fun _ _=>trivial) hes
 unfold Instr.mapUpdate
 simp only [Sem.run_bind,run_underlying Tryz.underlying302,Result.andThen,MapKept.run_getObj_map hb,K.chk,hf]
 cases hfx:fnd x L 0 with
 |none=>
  refine ⟨.map (es.push {key:=.string x,val:=v,born:=clock}) (clock+1),by rw [hfx] at hf;simp [hf,Result.andThen];exact MapKept.run_setObj_map _ hb,_,_,(heap_setBlock_same hb _),?_,?_,?_⟩
  ·rw [putL_new x v L (fnd_none x L 0 hfx)]
   simp [hes]
  ·simp only [Array.toList_push,List.map_append,List.map_cons,List.map_nil]
   rw [List.nodup_append]
   refine ⟨hn,by simp,?_⟩
   intro a ha c hc
   obtain ⟨e,he,rfl⟩:=List.mem_map.1 ha
   simp only [List.mem_singleton] at hc
   have:=hk e he
   omega
  ·intro e he
   simp only [Array.toList_push,List.mem_append,List.mem_singleton] at he
   rcases he with he|rfl
   ·have:=hk e he;omega
   ·simp
 |some p=>
  obtain ⟨j,u⟩:=p
  obtain ⟨_,e0,h2,h3,h4⟩:=fnd_at (enc:=Value.string) x v L es.toList 0 j u hes hfx
  have h2':es[j]? =some e0:=by simpa using h2
  refine ⟨.map (es.modify j fun e=>{e with key:=.string x,val:=v}) clock,?_,_,_,(heap_setBlock_same hb _),by simpa using h4,?_,?_⟩
  ·rw [hfx] at hf
   simp [hf,Result.andThen,h2',h3,Instr.keyThatStays,K.bit]
   exact MapKept.run_setObj_map _ hb
  ·rw [Array.toList_modify,born_modify es.toList j (fun e=>{e with key:=.string x,val:=v}) (fun _=>rfl)];exact hn
  ·intro e he
   have:e.born∈(es.modify j fun e=>{e with key:=.string x,val:=v}).toList.map (·.born):=List.mem_map_of_mem he
   rw [Array.toList_modify,born_modify es.toList j (fun e=>{e with key:=.string x,val:=v}) (fun _=>rfl)] at this
   obtain ⟨e',h1,h2⟩:=List.mem_map.1 this
   rw [←h2];exact hk e' h1
theorem wpList_putB {ops:Array Oper} {rest:List Oper} {o:Oper} {a:Act} {Q:Exit→Act→World→Prop}
 (hg:o.guard=none) (m x v:Operand) (hop:o.op=Op.insert 302 m x v∨o.op=Op.mapUpdate 302 m x v)
 (hm:a.eval m=.map (some b)) (hM:MB w b L) (key:BA) (val:Value) (hx:a.eval x=.string key) (hv:a.eval v=val)
 (hK:∀w',MB w' b (putL key val L)→One b w w'→wpList Tryz.prog ops Q rest (a.put o.dst undef) w'):
 wpList Tryz.prog ops Q (o::rest) a w:=by
 refine wpList_plain hg fun K' hK'=>?_
 obtain ⟨ob,hrun,r1⟩:=hM.put key val
 unfold Oper.wp
 rcases hop with hop|hop<;>
 ·simp [execOp,hop,hm,hx,hv,hrun,Result.andThen]
  exact hK' _ _ (hK _ r1 (One.set w b ob))
end
def GM (w:World) (b:Nat) (p:List BA):Prop:=∃L,MB w b L∧(L.map (·.1)).Nodup∧∀x,got x L=if inL x p then some (.int .i64 1) else none
theorem putL_nodup {L:List (BA×Value)} {s:BA} {v:Value} (h:(L.map (·.1)).Nodup):((putL s v L).map (·.1)).Nodup:=by
 have hm:∀(L:List (BA×Value)) x,x∈(putL s v L).map (·.1)→x=s∨x∈L.map (·.1):=by
  intro L x
  induction L with
  |nil=>simp [putL]
  |cons p r ih=>
   unfold putL
   split
   ·simp only [List.map_cons,List.mem_cons];rintro (q|q)
    ·exact Or.inl q
    ·exact Or.inr (Or.inr q)
   ·simp only [List.map_cons,List.mem_cons];rintro (q|q)
    ·exact Or.inr (Or.inl q)
    ·exact (ih q).imp id Or.inr
 induction L with
 |nil=>simp [putL]
 |cons p r ih=>
  simp only [List.map_cons,List.nodup_cons] at h
  unfold putL
  split
  ·rename_i e
   simp only [List.map_cons,List.nodup_cons]
   exact ⟨e▸h.1,h.2⟩
  ·rename_i e
   simp only [List.map_cons,List.nodup_cons]
   refine ⟨fun q=>?_,ih h.2⟩
   rcases hm r _ q with q|q
   ·exact e q
   ·exact h.1 q
section
variable {w w':World} {b:Nat} {p:List BA}
theorem GM.lt (h:GM w b p):b<w.heap.size:=by obtain ⟨L,h1,_⟩:=h;exact h1.lt
theorem GM.same (h:GM w b p) (hb:w'.heap[b]? =w.heap[b]?):GM w' b p:=by obtain ⟨L,h1,h2⟩:=h;exact ⟨L,h1.same hb,h2⟩
theorem GM.mv (h:GM w b p):MV' w (.map (some b)) (fun x=>if inL x p then some 1 else none):=by
 obtain ⟨L,h1,_,h2⟩:=h
 refine Or.inr ⟨b,rfl,L,h1.ms,fun x=>?_⟩
 rw [h2 x]
 show _=Option.map _ (if inL x p=true then some 1 else none)
 cases inL x p<;>rfl
theorem GM.putL {L:List (BA×Value)} (h2:(L.map (·.1)).Nodup) (h:∀x,got x L=if inL x p then some (.int .i64 1) else none) {s:BA} (hM:MB w' b (Go.Proofs.YtoceemjbcgmojaaGreatDoor.putL s (.int .i64 1) L)):GM w' b (p++[s]):=by
 refine ⟨_,hM,putL_nodup h2,fun x=>?_⟩
 rw [got_putL,h x]
 have e:inL x (p++[s])=(inL x p||decide (s=x)):=by unfold inL;rw [List.any_append];simp only [List.any_cons,List.any_nil,Bool.or_false]
 rw [e]
 by_cases q:s=x
 ·simp [q]
 ·simp [q]
theorem GM.new (w:World):GM (w.alloc (.map #[] 0)) w.heap.size []:=⟨[],MB.new w,by simp,fun x=>by simp [got,inL]⟩
end
end
section
open Go Go.RowKit Go.ChangeMaps
structure CP (cb tb mb lb gb:Nat) (ty mk:BA→Option Nat) (lo:BA→Nat) (w0:World) (q:List BA×Fl) (wr:World):Prop where
 d:CK wr cb tb mb lb ty mk lo q.2
 k:Fr (fun b=>b=cb∨b=gb) w0 wr
 g:GM wr gb q.1
 n:gb≠cb∧gb≠tb∧gb≠mb∧gb≠lb
section
variable {cb tb mb lb gb B:Nat} {ty mk:BA→Option Nat} {lo:BA→Nat} {w0 w wr w':World} {p:List BA} {f f':Fl} {q q':List BA×Fl}
theorem CP.bel (h:CP cb tb mb lb gb ty mk lo w0 q wr) (hb:Below wr.heap.size wr w'):CP cb tb mb lb gb ty mk lo w0 q w':=⟨h.d.bel hb,h.k.trans (Fr.of hb),h.g.same (hb.block gb h.g.lt),h.n⟩
theorem CP.ke (h:CP cb tb mb lb gb ty mk lo w0 (p,f) wr) (hk:Ke cb wr w') (d:CK w' cb tb mb lb ty mk lo f'):CP cb tb mb lb gb ty mk lo w0 (p,f') w':=⟨d,h.k.trans ⟨hk.os,hk.tape,hk.output,hk.size,fun b hb hn=>hk.block b hb (fun e=>hn (Or.inl e))⟩,h.g.same (hk.block gb h.g.lt h.n.1),h.n⟩
theorem CP.fr (h:CP cb tb mb lb gb ty mk lo w0 q wr) (k:Fr (fun b=>b=cb∨b=gb) wr w') (d:CK w' cb tb mb lb ty mk lo q'.2) (g:GM w' gb q'.1):CP cb tb mb lb gb ty mk lo w0 q' w':=⟨d,h.k.trans k,g,h.n⟩
theorem CK.one (h:CK w cb tb mb lb ty mk lo f) (o:One gb w w') (n:gb≠cb∧gb≠tb∧gb≠mb∧gb≠lb):CK w' cb tb mb lb ty mk lo f:=
 ⟨h.bx.one o n.1.symm,h.t.same (o.block tb n.2.1.symm),h.m.same (o.block mb n.2.2.1.symm),h.l.same (o.block lb n.2.2.2.symm),h.ct,h.cm,h.cl,h.tm,h.tl,h.ml⟩
theorem CP.one (h:CP cb tb mb lb gb ty mk lo w0 (p,f) wr) (o:One gb wr w') {p':List BA} (g:GM w' gb p'):CP cb tb mb lb gb ty mk lo w0 (p',f) w':=
 ⟨h.d.one o h.n,h.k.trans ⟨o.os,o.tape,o.output,by rw [o.size];exact br _,fun b _ hn=>o.block b (fun e=>hn (Or.inr e))⟩,g,h.n⟩
theorem PP.frB {nd:Nd} {v:Value} {S:Nat→Prop} (h:PP w (·<B) nd v) (k:Fr S w w') (hB:∀b,b<B→¬S b):PP w' (·<B) nd v:=h.move k.size (fun b p z=>k.block b z (hB b p)) (fun _ p _=>p)
def PPC (nd:Nd):Prop:=∀(w:World) (cb tb mb lb gb B:Nat) (ty mk:BA→Option Nat) (lo:BA→Nat) (f:Fl) (v:Value) (p:List BA),CK w cb tb mb lb ty mk lo f→B≤cb→B≤gb→PP w (·<B) nd v→GM w gb p→(gb≠cb∧gb≠tb∧gb≠mb∧gb≠lb)→Sm nd→
 Calls Tryz.prog 380 #[cp cb,v,.map (some gb)] w fun e w'=>e=.returned (.tuple #[])∧Fr (fun b=>b=cb∨b=gb) w w'∧CK w' cb tb mb lb ty mk lo (ckP mk nd (p,f)).2∧GM w' gb (ckP mk nd (p,f)).1
theorem ckP_1 {s:BA} {n fr t a:Nat} {L:List Nd}:ckP mk (.mk 1 s n L fr t a) (p,f)=(p++[s],qas (inL s p) 5 fr t f):=by unfold ckP;rfl
theorem ckP_2 {s:BA} {n fr t a:Nat} {L:List Nd}:ckP mk (.mk 2 s n L fr t a) (p,f)=ckPL mk L (p,qas (mk s !=some L.length) 5 a (a+s.size) f):=by
 conv=>lhs;unfold ckP
 rfl
theorem ckP_0 {k:Nat} {s:BA} {n fr t a:Nat} {L:List Nd} (hk:k≠1∧k≠2):ckP mk (.mk k s n L fr t a) (p,f)=ckPL mk L (p,f):=by
 conv=>lhs;unfold ckP
 simp [hk,qas]
def PPR (cb tb mb lb gb:Nat) (ty mk:BA→Option Nat) (lo:BA→Nat) (w0:World) (q:List BA×Fl) (L:List Nd) (xb:Nat) (C:Array Value) (gk:Nat) (c:Value) (wr:World):Prop:=∃j:Nat,Hid (gk=L.length-j)∧j≤L.length∧c=.int .i64 (j:Int)∧CP cb tb mb lb gb ty mk lo w0 (ckPL mk (L.take j) q) wr∧Bx wr xb C
theorem pattern_P:∀nd,PPC nd:=by
 refine Nd.ind ?_
 intro k s n L fr t a IH w cb tb mb lb gb B ty mk lo f v p h hB hBg hx hg hn hs
 have HIH:=ai IH
 have HS:=ai hs.part
 obtain ⟨hL,hf4,ha4,hs4⟩:=hs.len
 have X0:Hid (CP cb tb mb lb gb ty mk lo w (p,f) w):=ai ⟨h,Fr.refl _ _,hg,hn⟩
 have hcz:=h.z
 have hgz:=hg.lt
 have hSB:∀b,b<B→¬(b=cb∨b=gb):=fun b hb q=>by omega
 have hnS:¬(w.heap.size=cb∨w.heap.size=gb):=fun q=>by omega
 clear h IH hs hg hn
 cases hx with
 |any _ _ _ _ _=>
  have t0:=toPattern_Any_Low
  have t1:=toPattern_Any_Made
  have t2:=qej
  rw [ckP_0 (by decide),show ckPL mk [] (p,f)=(p,f) by unfold ckPL;rfl]
  go_enter Tryz.func380,Tryz.ntmps380
  go_wp2_with fail
  go_end0
  exact ⟨rfl,(uh X0).k,(uh X0).d,(uh X0).g⟩
 |num _ _ _ _ _=>
  have t0:=toPattern_Number_Low
  have t1:=toPattern_Number_Made
  have t2:=qdv
  rw [ckP_0 (by decide),show ckPL mk [] (p,f)=(p,f) by unfold ckPL;rfl]
  go_enter Tryz.func380,Tryz.ntmps380
  go_wp2_with fail
  go_end0
  exact ⟨rfl,(uh X0).k,(uh X0).d,(uh X0).g⟩
 |word _ _ _ _ _ _=>
  have t0:=toPattern_Bool_Low
  have t1:=toPattern_Bool_Made
  have t2:=qd7
  rw [ckP_0 (by decide),show ckPL mk [] (p,f)=(p,f) by unfold ckPL;rfl]
  go_enter Tryz.func380,Tryz.ntmps380
  go_wp2_with fail
  go_end0
  exact ⟨rfl,(uh X0).k,(uh X0).d,(uh X0).g⟩
 |unit _ _ _ _ _=>
  have t0:=toPattern_Unit_Low
  have t1:=toPattern_Unit_Made
  have t2:=qd9
  rw [ckP_0 (by decide),show ckPL mk [] (p,f)=(p,f) by unfold ckPL;rfl]
  go_enter Tryz.func380,Tryz.ntmps380
  go_wp2_with fail
  go_end0
  exact ⟨rfl,(uh X0).k,(uh X0).d,(uh X0).g⟩
 |low _ _ _ _ _ hl=>
  have t0:=toPattern_Low_Low
  have hbA:Below w.heap.size w (w.alloc (.cells #[.int .i64 (fr:Int),.int .i64 (t:Int),.string s] 466)):=bw _
  have X1:=ai ((uh X0).bel hbA)
  have B1:=ai (Bx.new w #[.int .i64 (fr:Int),.int .i64 (t:Int),.string s] 466)
  have HC:=ai (has_P (uh X1).g.mv s)
  rw [ckP_1]
  obtain ⟨c1,f1,y1⟩:=uh B1
  clear hbA
  go_enter Tryz.func380,Tryz.ntmps380
  go_wp2_with fail
  refine (uh HC).mono ?_
  rintro e w1 ⟨rfl,rfl⟩
  cases hin:inL s p with
  |true=>
   have HC2:=ai (tell_P (uh X1).d 5 fr t)
   simp only [if_true,Option.isSome_some]
   go_wp2_with fail
   refine (uh HC2).mono ?_
   rintro e w2 ⟨rfl,k2,d2⟩
   have X2:=ai ((uh X1).ke k2 d2)
   have B2:=ai ((uh B1).ke' k2 (fun e=>hnS (Or.inl e)))
   obtain ⟨L2,hM2,hN2,hG2⟩:=(uh X2).g
   have HM2:=ai hM2
   have HG2:=ai (And.intro hN2 hG2)
   clear k2 d2 HC2 HC c1 f1 y1 hM2 hN2 hG2
   obtain ⟨c1,f1,y1⟩:=uh B2
   go_wp2_with (refine wpList_putB rfl _ _ _ (Or.inr rfl) rfl (uh HM2) s (.int .i64 1) rfl rfl ?_;intro w3 H' O';have X3:=ai ((uh X2).one O' (GM.putL (uh HG2).1 (uh HG2).2 H'));clear H' O')
   go_end0
   exact ⟨rfl,(uh X3).k,by rw [hin];exact (uh X3).d,(uh X3).g⟩
  |false=>
   simp only [Bool.false_eq_true,if_false,Option.isSome_none]
   obtain ⟨L2,hM2,hN2,hG2⟩:=(uh X1).g
   have HM2:=ai hM2
   have HG2:=ai (And.intro hN2 hG2)
   clear hM2 hN2 hG2 HC
   go_wp2_with (refine wpList_putB rfl _ _ _ (Or.inr rfl) rfl (uh HM2) s (.int .i64 1) rfl rfl ?_;intro w3 H' O';have X3:=ai ((uh X1).one O' (GM.putL (uh HG2).1 (uh HG2).2 H'));clear H' O')
   go_end0
   exact ⟨rfl,(uh X3).k,(uh X3).d,(uh X3).g⟩
 |pr _ _ x y _ _ _ vx vy hx hy=>
  have t0:=qek
  have t1:=qd8
  have t2:=qdb
  obtain ⟨u1,x1,rfl⟩:=hx.iface
  obtain ⟨u2,x2,rfl⟩:=hy.iface
  have hbA:Below w.heap.size w (w.alloc (.cells #[.int .i64 (fr:Int),.int .i64 (t:Int),.iface u1 (.agg x1),.iface u2 (.agg x2)] 433)):=bw _
  have X1:=ai ((uh X0).bel hbA)
  have B1:=ai (Bx.new w #[.int .i64 (fr:Int),.int .i64 (t:Int),.iface u1 (.agg x1),.iface u2 (.agg x2)] 433)
  have HA:=ai hx
  have HB:=ai hy
  rw [ckP_0 (by decide),show ckPL mk [x,y] (p,f)=ckP mk y (ckP mk x (p,f)) by unfold ckPL;unfold ckPL;unfold ckPL;rfl]
  have HC:=ai (uh HIH x (by simp) _ cb tb mb lb gb B ty mk lo f _ p (uh X1).d hB hBg ((uh HA).frB (uh X1).k hSB) (uh X1).g (uh X1).n (uh HS x (by simp)))
  obtain ⟨c1,f1,y1⟩:=uh B1
  clear hbA hx hy
  generalize ckP mk x (p,f)=q1 at HC⊢
  obtain ⟨p1,z1⟩:=q1
  go_enter Tryz.func380,Tryz.ntmps380
  go_wp2_with fail
  refine (uh HC).mono ?_
  rintro e w2 ⟨rfl,k2,d2,g2⟩
  have X2:=ai ((uh X1).fr (q':=(p1,z1)) k2 d2 g2)
  have B2:=ai ((uh B1).fr k2 hnS)
  obtain ⟨c2,f2,y2⟩:=uh B2
  have HC2:=ai (uh HIH y (by simp) _ cb tb mb lb gb B ty mk lo z1 _ p1 (uh X2).d hB hBg ((uh HB).frB (uh X2).k hSB) (uh X2).g (uh X2).n (uh HS y (by simp)))
  clear k2 d2 g2 HC c1 f1 y1
  go_wp2_with fail
  refine (uh HC2).mono ?_
  rintro e w3 ⟨rfl,k3,d3,g3⟩
  have X3:=ai ((uh X2).fr (q':=ckP mk y (p1,z1)) k3 d3 g3)
  clear k3 d3 g3 HC2
  go_wp2_with fail
  go_end0
  exact ⟨rfl,(uh X3).k,(uh X3).d,(uh X3).g⟩
 |up _ _ _ _ _ _ y sa sc vs hu hy hrow hr=>
  have HY:=ai hy
  have t0:=toPattern_Made_Low
  have t1:=toPattern_Made_Made
  have hbA:Below w.heap.size w (w.alloc (.cells #[.int .i64 (fr:Int),.int .i64 (t:Int),.int .i64 (a:Int),.int .i64 (y:Int),.string s,.slice sa L.length sc] 410)):=bw _
  have X1:=ai ((uh X0).bel hbA)
  have B1:=ai (Bx.new w #[.int .i64 (fr:Int),.int .i64 (t:Int),.int .i64 (a:Int),.int .i64 (y:Int),.string s,.slice sa L.length sc] 410)
  have HR:=ai hr
  have HW:Hid (L=[]∨∃g,sa=some ⟨g,0,none⟩∧g<B∧g<w.heap.size∧∀i,i<L.length→w.cell? ⟨g,i,none⟩=some (vs i)):=ai hrow
  rw [ckP_2]
  obtain ⟨Z,HZ⟩:∃Z,Hid (Z=ckPL mk L (p,qas (mk s !=some L.length) 5 a (a+s.size) f)):=⟨_,ai rfl⟩
  rw [←uh HZ]
  obtain ⟨c1,f1,y1⟩:=uh B1
  obtain ⟨c2,f2,y2⟩:=(uh X1).d.bx
  clear hbA hrow hr hy
  go_enter Tryz.func380,Tryz.ntmps380
  go_wp2_with fail
  go_cut [40] from 29 (fun v wc=>v=.bool (mk s !=some L.length)∧CP cb tb mb lb gb ty mk lo w (p,f) wc∧Bx wc w.heap.size #[.int .i64 (fr:Int),.int .i64 (t:Int),.int .i64 (a:Int),.int .i64 (y:Int),.string s,.slice sa L.length sc])
  case first=>
   have hnot:∀(x:Bool) (w:World),(Op.unary .not (.bool x)).run Tryz.prog w=.ok (.bool (!x)) w:=fun _ _=>rfl
   go_region_with (go_at_call 379;refine (takes_P (v:=.map (some mb)) (Or.inr ⟨mb,rfl,((uh X1).bel (Below.refl _ _).drew).d.m⟩) s L.length).mono ?_;rintro e w2 ⟨rfl,rfl⟩)
   all_goals (
    go_wp2_with fail
    go_meet
    case rel=>exact ⟨rfl,(uh X1).bel (Below.refl _ _).drew,(uh B1).drew'⟩)
  case rest=>
   obtain ⟨rfl,hX,hB2⟩:=hcut
   have X2:=ai hX
   have B2:=ai hB2
   clear hX hB2 X1 B1 c1 f1 y1 c2 f2 y2
   obtain ⟨c1,f1,y1⟩:=uh B2
   go_upto_if 40 with (fail)
   go_cut [] from 15 (fun wc=>CP cb tb mb lb gb ty mk lo w (p,qas (mk s !=some L.length) 5 a (a+s.size) f) wc∧Bx wc w.heap.size #[.int .i64 (fr:Int),.int .i64 (t:Int),.int .i64 (a:Int),.int .i64 (y:Int),.string s,.slice sa L.length sc])
   case first=>
    cases hb:(mk s !=some L.length) with
    |true=>
     have HC:=ai (tell_P (uh X2).d 5 a (a+s.size))
     rw [←uh HY] at HC
     have HTT:=ai (show qas true 5 a (a+s.size) f=tell 5 a y f by rw [uh HY];rfl)
     go_wp2_with fail
     refine (uh HC).mono ?_
     rintro e w2 ⟨rfl,k2,d2⟩
     have X3:=ai ((uh X2).ke k2 d2)
     have B3:=ai ((uh B2).ke' k2 (fun e=>hnS (Or.inl e)))
     clear k2 d2 HC
     go_wp2_with fail
     go_meet
     case rel=>rw [hb,uh HTT];exact ⟨uh X3,uh B3⟩
    |false=>
     go_wp2_with fail
     go_meet
     case rel=>rw [hb];exact ⟨uh X2,uh B2⟩
   case rest=>
    obtain ⟨hX,hB3⟩:=hcut
    have X3:=ai hX
    have B3:=ai hB3
    clear hX hB3 X2 B2 c1 f1 y1
    generalize qas (mk s !=some L.length) 5 a (a+s.size) f=z2 at X3 HZ
    obtain ⟨c1,f1,y1⟩:=uh B3
    go_wp2_with fail
    clear c1 f1 y1
    go_loopg [49] L.length (fun gk c wr=>PPR cb tb mb lb gb ty mk lo w (p,z2) L w.heap.size #[.int .i64 (fr:Int),.int .i64 (t:Int),.int .i64 (a:Int),.int .i64 (y:Int),.string s,.slice sa L.length sc] gk c wr)
    case atStart=>exact ⟨0,ai rfl,Nat.zero_le _,rfl,uh X3,uh B3⟩
    case round=>
     clear X3 B3
     obtain ⟨j,hgk,hj,rfl,hX,hB4⟩:=hrel
     have XR:=ai hX
     have BR:=ai hB4
     clear hX hB4
     obtain ⟨c1,f1,y1⟩:=uh BR
     by_cases hlt:j<L.length
     ·have hd:(j:Int)<(L.length:Int):=by omega
      obtain ⟨g,rfl,hgB,hgz',hc⟩:∃g,sa=some ⟨g,0,none⟩∧g<B∧g<w.heap.size∧∀i,i<L.length→w.cell? ⟨g,i,none⟩=some (vs i):=by
       rcases uh HW with e|e
       ·exact absurd hlt (by simp [e])
       ·exact e
      have hcj:=(World.cell?_of_block (a:=⟨g,j,none⟩) ((uh XR).k.block g hgz' (hSB g hgB))).trans (hc j hlt)
      have HT:=ai (ckPL_take mk L (p,z2) j hlt)
      generalize ckPL mk (L.take j) (p,z2)=qj at XR HT
      obtain ⟨pj,zj⟩:=qj
      have HC:=ai (uh HIH L[j] (List.getElem_mem hlt) _ cb tb mb lb gb B ty mk lo zj (vs j) pj (uh XR).d hB hBg ((uh HR j hlt).frB (uh XR).k hSB) (uh XR).g (uh XR).n (uh HS _ (List.getElem_mem hlt)))
      rw [←uh HT] at HC
      clear hc
      go_wp2_with fail
      refine (uh HC).mono ?_
      rintro e w2 ⟨rfl,k2,d2,g2⟩
      have X4:=ai ((uh XR).fr (q':=ckPL mk (L.take (j+1)) (p,z2)) k2 d2 g2)
      have B4:=ai ((uh BR).fr k2 hnS)
      clear k2 d2 g2 HC
      go_wp2_with fail
      go_roundg (L.length-(j+1))
      case measure=>rw [uh hgk];omega
      case rel=>exact ⟨j+1,ai rfl,by omega,by go_num,uh X4,uh B4⟩
     ·have hd:decide ((j:Int)<(L.length:Int))=false:=by simp;omega
      have he:L.take j=L:=List.take_of_length_le (by omega)
      rw [he,←uh HZ] at XR
      go_wp2_with fail
      go_end0
      exact ⟨rfl,(uh XR).k,(uh XR).d,(uh XR).g⟩
end
end
end Go.Proofs.YtoceemjbcgmojaaGreatDoor

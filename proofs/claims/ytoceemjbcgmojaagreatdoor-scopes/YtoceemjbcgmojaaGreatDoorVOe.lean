import Derived.Deep.CutRange
import Derived.Maps.RangeWalk
import Derived.Test.YtoceemjbcgmojaaGreatDoorVCc
import Derived.Test.YtoceemjbcgmojaaGreatDoorVOc
set_option linter.all false
set_option maxRecDepth 100000
set_option maxHeartbeats 16000000
namespace Go.Proofs.YtoceemjbcgmojaaGreatDoor
section
open Go Go.RowKit Go.ChangeMaps Go.MapKept
def IT (w:World) (r gb:Nat) (p done:List BA) (cnt:Nat):Prop:=∃(es:Array MapEntry) (clock since:Nat) (seen:Array Nat) (c0:Nat) (L:List (BA×Value)),w.heap[gb]? =some (.map es clock)∧es.toList.map (fun e=>(e.key,e.val))=L.map (fun p=>(Value.string p.1,p.2))∧(es.toList.map (·.born)).Nodup∧(∀e∈es.toList,e.born<since)∧since≤c0∧since≤clock∧w.heap[r]? =some (.mapIter (some gb) since seen c0)∧(L.map (·.1)).Nodup∧(∀x,got x L=if inL x p then some (.int .i64 1) else none)∧(leftOf es seen).size=cnt∧∀e∈es.toList,∀x,e.key=.string x→(seen.contains e.born=true↔x∈done)
theorem got_mem {x:BA}:∀{L:List (BA×Value)},(got x L).isSome=true↔x∈L.map (·.1)
 |[]=>by simp [got]
 |p::l=>by
  unfold got
  split
  ·rename_i e;simp [e]
  ·rename_i e
   rw [got_mem (L:=l)]
   simp only [List.map_cons,List.mem_cons]
   exact ⟨Or.inr,fun q=>q.elim (fun q=>absurd q.symm e) id⟩
theorem keys_of {es:List MapEntry} {L:List (BA×Value)} (h:es.map (fun e=>(e.key,e.val))=L.map (fun p=>(Value.string p.1,p.2))):es.map (·.key)=(L.map (·.1)).map Value.string:=by
 have:=congrArg (List.map Prod.fst) h
 simpa [List.map_map,Function.comp_def] using this
theorem IT.same {w w':World} {r gb:Nat} {p done:List BA} {cnt:Nat} (h:IT w r gb p done cnt) (h1:w'.heap[gb]? =w.heap[gb]?) (h2:w'.heap[r]? =w.heap[r]?):IT w' r gb p done cnt:=by
 obtain ⟨es,clock,since,seen,c0,L,a1,a2,a3,a4,a5,a6,a7,a8⟩:=h
 exact ⟨es,clock,since,seen,c0,L,h1.trans a1,a2,a3,a4,a5,a6,h2.trans a7,a8⟩
theorem IT.lt {w:World} {r gb:Nat} {p done:List BA} {cnt:Nat} (h:IT w r gb p done cnt):gb<w.heap.size∧r<w.heap.size∧gb≠r:=by
 obtain ⟨es,clock,since,seen,c0,L,a1,a2,a3,a4,a5,a6,a7,a8⟩:=h
 refine ⟨(Array.getElem?_eq_some_iff.1 a1).1,(Array.getElem?_eq_some_iff.1 a7).1,fun e=>?_⟩
 rw [e,a7] at a1
 cases a1
theorem GM.range {w:World} {gb:Nat} {p:List BA} (h:GM w gb p):∃o cnt,(Instr.range 302 (.map (some gb))).run Tryz.prog w=.ok (.pointer (some ⟨w.heap.size,0,none⟩)) (w.alloc o)∧IT (w.alloc o) w.heap.size gb p [] cnt:=by
 obtain ⟨L,⟨es,clock,a1,a2,a3,a4⟩,a5,a6⟩:=h
 have hlt:gb<w.heap.size:=(Array.getElem?_eq_some_iff.1 a1).1
 refine ⟨_,_,run_range_map w 302 _ _ gb es clock Tryz.underlying302 a1,es,clock,clock,#[],clock,L,((MapKept.heap_alloc w _).2 _ hlt).trans a1,a2,a3,a4,br _,br _,heap_alloc_new w _,a5,a6,rfl,fun e he x hx=>by simp⟩
theorem IT.next {w:World} {r gb:Nat} {p done:List BA} {cnt:Nat} (h:IT w r gb p done cnt):((∀x,inL x p=true→x∈done)∧(∀x,x∈done→inL x p=true→True)∧(Instr.next (.pointer (some ⟨r,0,none⟩)) false 0).run Tryz.prog w=.ok (.tuple #[.bool false]) w)∨
 ∃x v w1 cnt',x∉done∧inL x p=true∧(Instr.next (.pointer (some ⟨r,0,none⟩)) false 0).run Tryz.prog w=.ok (.tuple #[.bool true,.string x,v]) w1∧IT w1 r gb p (x::done) cnt'∧cnt'<cnt∧Fr (fun b=>b=r) w w1∧w1.heap.size=w.heap.size∧(Instr.entry (.pointer (some ⟨r,0,none⟩))).run Tryz.prog w1=.ok (.tuple #[.string x,v]) w1:=by
 obtain ⟨hg1,hr1,hne⟩:=h.lt
 obtain ⟨es,clock,since,seen,c0,L,a1,a2,a3,a4,a5,a6,a7,a8,a9,a10,a11⟩:=h
 have hkeys:=keys_of a2
 rcases run_next_at (P:=Tryz.prog) w 0 r gb since c0 seen es clock a7 a1 a4 a5 with ⟨h0,hrun⟩|⟨e,he,w1,hw1,hrun⟩
 ·left
  refine ⟨fun x hx=>?_,fun _ _ _=>trivial,hrun⟩
  have hin:x∈L.map (·.1):=got_mem.1 (by rw [a9 x,hx];rfl)
  have:Value.string x∈es.toList.map (·.key):=by rw [hkeys];exact List.mem_map_of_mem hin
  obtain ⟨e,he,hk⟩:=List.mem_map.1 this
  exact (a11 e he x hk).1 (all_seen es seen h0 e he)
 ·right
  obtain ⟨he1,he2⟩:=mem_left he
  obtain ⟨x,hx⟩:∃x,e.key=.string x:=by
   have:e.key∈es.toList.map (·.key):=List.mem_map_of_mem he1
   rw [hkeys] at this
   obtain ⟨x,_,q⟩:=List.mem_map.1 this
   exact ⟨x,q.symm⟩
  have hxL:x∈L.map (·.1):=by
   have:e.key∈es.toList.map (·.key):=List.mem_map_of_mem he1
   rw [hkeys,hx] at this
   obtain ⟨y,hy,q⟩:=List.mem_map.1 this
   cases q;exact hy
  have hnd:x∉done:=fun q=>by
   have:=(a11 e he1 x hx).2 q
   rw [he2] at this;cases this
  have hp:inL x p=true:=by
   have:=got_mem.2 hxL
   rw [a9 x] at this
   cases hq:inL x p with
   |true=>rfl
   |false=>rw [hq] at this;simp at this
  have hw1h:w1.heap=w.heap:=by rcases hw1 with rfl|rfl<;>rfl
  have b1:∀k,k≠r→(setBlock w1 r (.mapIter (some gb) since (seen.push e.born) clock)).heap[k]? =w.heap[k]? :=fun k hk=>by
   have:(setBlock w1 r (.mapIter (some gb) since (seen.push e.born) clock)).heap[k]? =w1.heap[k]? :=by simp [setBlock,Array.getElem?_setIfInBounds,Ne.symm hk]
   rw [this,hw1h]
  have b2:(setBlock w1 r (.mapIter (some gb) since (seen.push e.born) clock)).heap[r]? =some (.mapIter (some gb) since (seen.push e.born) clock):=by
   have hr2:r<w1.heap.size:=by rw [hw1h];exact hr1
   simp [setBlock,Array.getElem?_setIfInBounds,hr2]
  have hsz:(setBlock w1 r (.mapIter (some gb) since (seen.push e.born) clock)).heap.size=w.heap.size:=by simp [setBlock,hw1h]
  have hnk:(es.toList.map (·.key)).Nodup:=by
   rw [hkeys,List.Nodup,List.pairwise_map]
   exact a8.imp fun hab q=>hab (by cases q;rfl)
  refine ⟨x,e.val,_,_,hnd,hp,by rw [hrun,hx],⟨es,clock,since,seen.push e.born,clock,L,(b1 gb hne).trans a1,a2,a3,a4,a6,a6,b2,a8,a9,rfl,fun e' he' y hy=>?_⟩,by rw [←a10];exact left_shrinks es seen e he,⟨by rcases hw1 with rfl|rfl<;>rfl,by rcases hw1 with rfl|rfl<;>rfl,by rcases hw1 with rfl|rfl<;>rfl,by rw [hsz];exact br _,fun k _ hk=>b1 k hk⟩,hsz,?_⟩
  ·rw [contains_push]
   simp only [Bool.or_eq_true,beq_iff_eq,List.mem_cons]
   constructor
   ·rintro (q|q)
    ·exact Or.inr ((a11 e' he' y hy).1 q)
    ·have:e'=e:=born_inj a3 he' he1 q
     rw [this,hx] at hy
     cases hy;exact Or.inl rfl
   ·rintro (q|q)
    ·right
     have:e'=e:=by
      have hk:e'.key=e.key:=by rw [hy,hx,q]
      exact entry_eq_of_key (by rw [List.Nodup,List.pairwise_map] at hnk;exact hnk) he' he1 hk
     rw [this]
    ·exact Or.inl ((a11 e' he' y hy).2 q)
  ·have:=run_entry_at (P:=Tryz.prog) (setBlock w1 r (.mapIter (some gb) since (seen.push e.born) clock)) r gb since seen es clock e b2 ((b1 gb hne).trans a1) he1 a3
   rw [hx] at this
   exact this
end
section
open Go Go.RowKit Go.ChangeMaps Go.MapKept
def LoR (lo:BA→Nat) (l:List BA):Prop:=∀x,lo x≠0↔x∈l
structure CE (cb tb mb lb:Nat) (ty mk:BA→Option Nat) (lo:BA→Nat) (w0:World) (f:Fl) (wr:World):Prop where
 d:CK wr cb tb mb lb ty mk lo f
 k:Fr (fun b=>b=cb∨b=lb) w0 wr
section
variable {cb tb mb lb gb B:Nat} {ty mk:BA→Option Nat} {lo lo':BA→Nat} {w0 w wr w':World} {p l:List BA} {f f':Fl}
theorem CE.bel (h:CE cb tb mb lb ty mk lo w0 f wr) (hb:Below wr.heap.size wr w'):CE cb tb mb lb ty mk lo w0 f w':=⟨h.d.bel hb,h.k.trans (Fr.of hb)⟩
theorem CE.ke (h:CE cb tb mb lb ty mk lo w0 f wr) (hk:Ke cb wr w') (d:CK w' cb tb mb lb ty mk lo f'):CE cb tb mb lb ty mk lo w0 f' w':=⟨d,h.k.trans ⟨hk.os,hk.tape,hk.output,hk.size,fun b hb hn=>hk.block b hb (fun e=>hn (Or.inl e))⟩⟩
theorem CE.fr (h:CE cb tb mb lb ty mk lo w0 f wr) (k:Fr (fun b=>b=cb∨b=lb) wr w') (d:CK w' cb tb mb lb ty mk lo' f'):CE cb tb mb lb ty mk lo' w0 f' w':=⟨d,h.k.trans k⟩
theorem CE.put (h:CE cb tb mb lb ty mk lo w0 f wr) {L:List (BA×Value)} (o:One lb wr w') (hM:MS Value.string w' lb L) (hL:∀x,got x L=some (.int .i64 (lo' x:Int))∨(got x L=none∧lo' x=0)):CE cb tb mb lb ty mk lo' w0 f w':=
 ⟨⟨h.d.bx.one o h.d.cl,h.d.t.same (o.block tb h.d.tl),h.d.m.same (o.block mb h.d.ml),⟨L,hM,hL⟩,h.d.ct,h.d.cm,h.d.cl,h.d.tm,h.d.tl,h.d.ml⟩,h.k.trans ⟨o.os,o.tape,o.output,by rw [o.size];exact br _,fun b _ hn=>o.block b (fun e=>hn (Or.inr e))⟩⟩
theorem CK.frN (h:CK w cb tb mb lb ty mk lo f) {r:Nat} (k:Fr (fun b=>b=r) w w') (n:r≠cb∧r≠tb∧r≠mb∧r≠lb):CK w' cb tb mb lb ty mk lo f:=
 ⟨h.bx.fr k n.1.symm,h.t.same (k.block tb h.t.lt n.2.1.symm),h.m.same (k.block mb h.m.lt n.2.2.1.symm),h.l.same (k.block lb h.l.lt n.2.2.2.symm),h.ct,h.cm,h.cl,h.tm,h.tl,h.ml⟩
theorem CE.frN (h:CE cb tb mb lb ty mk lo w0 f wr) {r:Nat} (k:Fr (fun b=>b=r) wr w') (n:r≠cb∧r≠tb∧r≠mb∧r≠lb) (hr:w0.heap.size≤r):CE cb tb mb lb ty mk lo w0 f w':=
 ⟨h.d.frN k n,h.k.trans' k (fun b q=>Or.inr (by have q:b=r:=q;omega))⟩
theorem CK.lts (h:CK w cb tb mb lb ty mk lo f):cb<w.heap.size∧tb<w.heap.size∧mb<w.heap.size∧lb<w.heap.size:=⟨h.z,h.t.lt,h.m.lt,h.l.lt⟩
theorem PE.frB {nd:Nd} {v:Value} {S:Nat→Prop} (h:PE w (·<B) nd v) (k:Fr S w w') (hB:∀b,b<B→¬S b):PE w' (·<B) nd v:=h.move k.size (fun b p z=>k.block b z (hB b p)) (fun _ p _=>p)
theorem PT.frB {nd:Nd} {v:Value} {S:Nat→Prop} (h:PT w (·<B) nd v) (k:Fr S w w') (hB:∀b,b<B→¬S b):PT w' (·<B) nd v:=h.move k.size (fun b p z=>k.block b z (hB b p)) (fun _ p _=>p)
def PXC (nd:Nd):Prop:=∀(w:World) (cb tb mb lb B:Nat) (ty mk:BA→Option Nat) (lo:BA→Nat) (f:Fl) (v:Value) (l:List BA),CK w cb tb mb lb ty mk lo f→B≤cb→B≤lb→PE w (·<B) nd v→LoR lo l→(∀x,lo x+nn nd≤5000)→Sm nd→
 Calls Tryz.prog 316 #[cp cb,v] w fun e w'=>e=.returned (.tuple #[])∧Fr (fun b=>b=cb∨b=lb) w w'∧CK w' cb tb mb lb ty mk lo (ckE ty mk nd l f)
def loU (lo:BA→Nat) (done:List BA):BA→Nat:=fun x=>lo x+if inL x done then 1 else 0
def loD (lo:BA→Nat) (done:List BA):BA→Nat:=fun x=>lo x-if inL x done then 1 else 0
theorem loU_cons {x:BA} {done:List BA} (h:x∉done):(fun y=>if y=x then loU lo done x+1 else loU lo done y)=loU lo (x::done):=by
 funext y
 have hx:inL x done=false:=inL_not.2 h
 have e:inL y (x::done)=(decide (x=y)||inL y done):=by unfold inL;simp only [List.any_cons]
 unfold loU
 rw [e]
 by_cases q:y=x
 ·subst q;simp [hx]
 ·simp only [q,if_false,show decide (x=y)=false from by simp;exact fun e=>q e.symm,Bool.false_or]
theorem loD_cons {x:BA} {done:List BA} (h:x∉done):(fun y=>if y=x then loD lo done x-1 else loD lo done y)=loD lo (x::done):=by
 funext y
 have hx:inL x done=false:=inL_not.2 h
 have e:inL y (x::done)=(decide (x=y)||inL y done):=by unfold inL;simp only [List.any_cons]
 unfold loD
 rw [e]
 by_cases q:y=x
 ·subst q;simp [hx]
 ·simp only [q,if_false,show decide (x=y)=false from by simp;exact fun e=>q e.symm,Bool.false_or]
theorem inL_same {p done:List BA} (h1:∀x,inL x p=true→x∈done) (h2:∀x∈done,inL x p=true) (x:BA):inL x done=inL x p:=by
 cases h:inL x p with
 |true=>exact inL_iff.2 (h1 x h)
 |false=>exact inL_not.2 fun q=>by rw [h2 x q] at h;cases h
theorem LoR.app (h:LoR lo l) (p:List BA):LoR (fun x=>lo x+if inL x p then 1 else 0) (l++p):=fun x=>by
 show lo x+(if inL x p=true then 1 else 0)≠0↔_
 rw [List.mem_append,←h x]
 cases hq:inL x p with
 |true=>simp [inL_iff.1 hq]
 |false=>simp [inL_not.1 hq]
def UPR (cb tb mb lb:Nat) (ty mk:BA→Option Nat) (lo:BA→Nat) (w0:World) (f:Fl) (r gb:Nat) (p:List BA) (gk:Nat) (wr:World):Prop:=∃done,IT wr r gb p done gk∧(∀x∈done,inL x p=true)∧CE cb tb mb lb ty mk (loU lo done) w0 f wr
def DNR (cb tb mb lb:Nat) (ty mk:BA→Option Nat) (lo:BA→Nat) (w0:World) (f:Fl) (r gb:Nat) (p:List BA) (gk:Nat) (wr:World):Prop:=∃done,IT wr r gb p done gk∧(∀x∈done,inL x p=true)∧CE cb tb mb lb ty mk (loD lo done) w0 f wr
theorem IT.gm {r cnt:Nat} {done:List BA} (h:IT w r gb p done cnt) (hg:GM w0 gb p) (hs:w.heap[gb]? =w0.heap[gb]?):GM w gb p:=hg.same hs
theorem within_P {nd:Nd} {v:Value} (HE:PXC nd) (h:CK w cb tb mb lb ty mk lo f) (hB:B≤cb) (hBl:B≤lb) (hx:PE w (·<B) nd v) (hg:GM w gb p) (hn:gb≠cb∧gb≠tb∧gb≠mb∧gb≠lb) (hl:LoR lo l) (hlo:∀x,lo x+1+nn nd≤5000) (hs:Sm nd):
 Calls Tryz.prog 314 #[cp cb,.map (some gb),v] w fun e w'=>e=.returned (.tuple #[])∧Fr (fun b=>b=cb∨b=lb) w w'∧CK w' cb tb mb lb ty mk lo (ckE ty mk nd (l++p) f):=by
 obtain ⟨o,cnt,hrg,hit⟩:=hg.range
 have HG:=ai hg
 have HX:=ai hx
 have hbA:Below w.heap.size w (w.alloc o):=bw _
 have X0:Hid (CE cb tb mb lb ty mk lo w f (w.alloc o)):=ai ⟨h.bel hbA,Fr.of hbA⟩
 obtain ⟨z1,z2,z3,z4⟩:=h.lts
 have HI:=ai hit
 have hgz:=hg.lt
 have hSB:∀b,b<B→¬(b=cb∨b=lb):=fun b hb q=>by omega
 have HLO:=ai hlo
 have HLR:=ai hl
 obtain ⟨t1,x1,rfl⟩:=hx.iface
 obtain ⟨f2,HZ⟩:∃Z,Hid (Z=ckE ty mk nd (l++p) f):=⟨_,ai rfl⟩
 rw [←uh HZ]
 clear h hx hg hit hbA hlo hl
 go_enter Tryz.func314,Tryz.ntmps314
 go_wp2_with fail
 go_loopg [] cnt (fun gk wr=>UPR cb tb mb lb ty mk lo w f w.heap.size gb p gk wr)
 case atStart=>exact ⟨[],uh HI,by simp,by have:=uh X0;exact this⟩
 case round=>
  clear X0 HI hrg
  obtain ⟨done,hit,hdn,hX⟩:=hrel
  have XR:=ai hX
  have HI:=ai hit
  have HD:=ai hdn
  have hsw:=hX.k.size
  have hiz:=hit.lt
  clear hX hit hdn
  rcases (uh HI).next with ⟨ha,-,hnx⟩|⟨x,u,w1,cnt',hxd,hxp,hnx,hit1,hlt,hfr,hsz,hen⟩
  ·have eL:loU lo done=fun x=>lo x+if inL x p then 1 else 0:=by funext y;unfold loU;rw [inL_same ha (uh HD) y]
   rw [eL] at XR
   obtain ⟨lo2,hlo2⟩:∃lo2,Hid (lo2=fun x=>lo x+if inL x p then 1 else 0):=⟨_,ai rfl⟩
   rw [←uh hlo2] at XR
   have HC:=ai (HE wr cb tb mb lb B ty mk lo2 f _ (l++p) (uh XR).d hB hBl ((uh HX).frB (uh XR).k hSB) (by rw [uh hlo2];exact (uh HLR).app p) (fun x=>by rw [uh hlo2];have:=uh HLO x;show lo x+(if inL x p=true then 1 else 0)+nn nd≤5000;split<;>omega) hs)
   rw [←uh HZ] at HC
   have GR:=ai ((uh HG).same ((uh XR).k.block gb hgz (fun q=>by rcases q with q|q;exact hn.1 q;exact hn.2.2.2 q)))
   clear eL ha
   go_wp2_with fail
   refine (uh HC).mono ?_
   rintro e w2 ⟨rfl,k2,d2⟩
   have X2:=ai ((uh XR).fr k2 d2)
   have G2:=(uh GR).same (k2.block gb hiz.1 (fun q=>by rcases q with q|q;exact hn.1 q;exact hn.2.2.2 q))
   obtain ⟨o2,cnt2,hrg2,hit2⟩:=G2.range
   have HI2:=ai hit2
   have X3:Hid (CE cb tb mb lb ty mk lo2 w f2 (w2.alloc o2)):=ai ((uh X2).bel (bw _))
   have z2w:=(uh X2).k.size
   clear k2 d2 HC G2 hit2 hnx XR HI HD
   go_wp2_with fail
   go_loopg [] cnt2 (fun gk wr=>DNR cb tb mb lb ty mk lo2 w f2 w2.heap.size gb p gk wr)
   case atStart=>exact ⟨[],uh HI2,by simp,by have:=uh X3;exact this⟩
   case round=>
    clear X3 HI2 hrg2
    obtain ⟨done,hit,hdn,hX⟩:=hrel
    have XR:=ai hX
    have HI:=ai hit
    have HD:=ai hdn
    have hsw:=hX.k.size
    have hiz:=hit.lt
    clear hX hit hdn
    rcases (uh HI).next with ⟨ha,-,hnx⟩|⟨x,u,w1,cnt',hxd,hxp,hnx,hit1,hlt,hfr,hsz,hen⟩
    ·have eL:loD lo2 done=lo:=by
      funext y;unfold loD;rw [inL_same ha (uh HD) y,uh hlo2]
      show lo y+(if inL y p=true then 1 else 0)-(if inL y p=true then 1 else 0)=lo y
      omega
     rw [eL] at XR
     clear eL ha
     go_wp2_with fail
     go_end0
     exact ⟨rfl,(uh XR).k,(uh XR).d⟩
    ·have hrn:w2.heap.size≠cb∧w2.heap.size≠tb∧w2.heap.size≠mb∧w2.heap.size≠lb:=⟨by omega,by omega,by omega,by omega⟩
     have X4:=ai ((uh XR).frN hfr hrn (by omega))
     obtain ⟨N,hN⟩:∃N,Hid (N=loD lo2 done x):=⟨_,ai rfl⟩
     have hl:=(uh X4).d.l.look x
     rw [←uh hN] at hl
     obtain ⟨L,hM,hL⟩:=(uh X4).d.l
     have HM:=ai hM
     have HL:=ai hL
     have hN5:1≤N∧N≤6000:=by
      have h1:=uh HLO x
      have h2:inL x done=false:=inL_not.2 hxd
      have h3:N=lo x+1:=by rw [uh hN,uh hlo2];unfold loD;rw [h2];simp [hxp]
      omega
     have hN6:(1:Int)≤(N:Int):=by omega
     have hN7:(N:Int)≤6000:=by omega
     obtain ⟨c1,f1,y1⟩:=(uh X4).d.bx
     have HI1:=ai hit1
     have HFR:=ai hfr
     have HXD:=ai hxd
     have HXP:=ai hxp
     have hlt':=hlt
     clear hM hL hit1 hfr hxd hxp HI XR
     go_wp2_with (refine qbj _ rfl _ _ _ _ (Or.inr rfl) (KL.str Tryz.underlying9) Tryz.underlying302 _ _ rfl (uh HM) x (.int .i64 ((N:Int)-1)) rfl rfl trivial (fun _ _=>trivial) ?_;intro w3 H' O';have M3:=ai H';have O3:=ai O';clear H' O')
     have hv:(Value.int .i64 ((N:Int)-1))=.int .i64 ((N-1:Nat):Int):=by rw [Int.natCast_sub hN5.1];rfl
     rw [hv] at M3
     have X5:=ai ((uh X4).put (uh O3) (uh M3) (LM.put (uh HL) x (N-1)))
     rw [uh hN,loD_cons (uh HXD)] at X5
     have I5:=ai ((uh HI1).same ((uh O3).block gb hn.2.2.2) ((uh O3).block _ hrn.2.2.2))
     go_roundg cnt'
     case measure=>exact hlt'
     case rel=>exact ⟨x::done,uh I5,by intro y hy;rcases List.mem_cons.1 hy with rfl|q;exact uh HXP;exact uh HD y q,uh X5⟩
  ·have hrn:w.heap.size≠cb∧w.heap.size≠tb∧w.heap.size≠mb∧w.heap.size≠lb:=⟨by omega,by omega,by omega,by omega⟩
   have X4:=ai ((uh XR).frN hfr hrn (br _))
   obtain ⟨N,hN⟩:∃N,Hid (N=loU lo done x):=⟨_,ai rfl⟩
   have hl:=(uh X4).d.l.look x
   rw [←uh hN] at hl
   obtain ⟨L,hM,hL⟩:=(uh X4).d.l
   have HM:=ai hM
   have HL:=ai hL
   have hN7:(N:Int)≤6000:=by
    have h1:=uh HLO x
    have h2:N=lo x+(if inL x done then 1 else 0):=uh hN
    have h3:(if inL x done=true then 1 else 0)≤1:=by split<;>omega
    omega
   obtain ⟨c1,f1,y1⟩:=(uh X4).d.bx
   have HI1:=ai hit1
   have HFR:=ai hfr
   have HXD:=ai hxd
   have HXP:=ai hxp
   have hlt':=hlt
   clear hM hL hit1 hfr hxd hxp HI XR
   go_wp2_with (refine qbj _ rfl _ _ _ _ (Or.inr rfl) (KL.str Tryz.underlying9) Tryz.underlying302 _ _ rfl (uh HM) x (.int .i64 ((N:Int)+1)) rfl rfl trivial (fun _ _=>trivial) ?_;intro w3 H' O';have M3:=ai H';have O3:=ai O';clear H' O')
   have hv:(Value.int .i64 ((N:Int)+1))=.int .i64 ((N+1:Nat):Int):=rfl
   rw [hv] at M3
   have X5:=ai ((uh X4).put (uh O3) (uh M3) (LM.put (uh HL) x (N+1)))
   rw [uh hN,loU_cons (uh HXD)] at X5
   have I5:=ai ((uh HI1).same ((uh O3).block gb hn.2.2.2) ((uh O3).block _ hrn.2.2.2))
   go_roundg cnt'
   case measure=>exact hlt'
   case rel=>exact ⟨x::done,uh I5,by intro y hy;rcases List.mem_cons.1 hy with rfl|q;exact uh HXP;exact uh HD y q,uh X5⟩
end
end
section
open Go Go.RowKit Go.ChangeMaps Go.MapKept
section
variable {cb tb mb lb gb B:Nat} {ty mk:BA→Option Nat} {lo:BA→Nat} {w0 w wr w':World} {p l:List BA} {f f':Fl}
theorem one_P (x y:Int) (s:BA):Calls Tryz.prog 315 #[.agg #[.int .i64 x,.int .i64 y,.string s]] w fun e w'=>∃gb,e=.returned (.map (some gb))∧w.heap.size≤gb∧Below w.heap.size w w'∧GM w' gb [s]:=by
 have hmm:= @run_makeMap Tryz.prog
 have hb1:Below w.heap.size w ((w.alloc (.cells #[.int .i64 x,.int .i64 y,.string s] 214)).alloc (.map #[] 0)):=(bw _).alloc (by simp) _
 have M0:Hid (MB ((w.alloc (.cells #[.int .i64 x,.int .i64 y,.string s] 214)).alloc (.map #[] 0)) (w.heap.size+1) []):=ai (by have:=MB.new (w.alloc (.cells #[.int .i64 x,.int .i64 y,.string s] 214));simpa using this)
 have HB:=ai hb1
 have B1:=ai ((Bx.new w #[.int .i64 x,.int .i64 y,.string s] 214).alloc (.map #[] 0))
 obtain ⟨c1,f1,y1⟩:=uh B1
 clear hb1
 go_enter Tryz.func315,Tryz.ntmps315
 go_wp2_with (refine wpList_putB rfl _ _ _ (Or.inl rfl) rfl (uh M0) s (.int .i64 1) rfl rfl ?_;intro w3 H' O';have M3:=ai H';have O3:=ai O';clear H' O')
 go_ret
 exact ⟨_,rfl,Nat.le_succ _,One.below (uh HB) (uh O3) (Nat.le_succ _),GM.putL (p:=[]) (by simp) (fun x=>by simp [got,inL]) (uh M3)⟩
def EXR (cb tb mb lb:Nat) (ty mk:BA→Option Nat) (lo:BA→Nat) (w0:World) (f:Fl) (l:List BA) (L:List Nd) (gk:Nat) (c:Value) (wr:World):Prop:=∃j:Nat,Hid (gk=L.length-j)∧j≤L.length∧c=.int .i64 (j:Int)∧CE cb tb mb lb ty mk lo w0 (ckEL ty mk (L.take j) l f) wr
theorem exprs_P {L:List Nd} {g sc:Nat} {vs:Nat→Value} (IH:∀x∈L,PXC x) (h:CK w cb tb mb lb ty mk lo f) (hB:B≤cb) (hBl:B≤lb) (hg:g<w.heap.size) (hgn:g≠cb∧g≠lb) (hc:∀i,i<L.length→w.cell? ⟨g,i,none⟩=some (vs i)) (hr:∀i (h:i<L.length),PE w (·<B) L[i] (vs i)) (hl:LoR lo l) (hlo:∀x,lo x+nnL L≤5000) (hS:∀x∈L,Sm x) (hL:L.length≤1000):
 Calls Tryz.prog 363 #[cp cb,.slice (some ⟨g,0,none⟩) L.length sc] w fun e w'=>e=.returned (.tuple #[])∧Fr (fun b=>b=cb∨b=lb) w w'∧CK w' cb tb mb lb ty mk lo (ckEL ty mk L l f):=by
 have HIH:=ai IH
 have HR:=ai hr
 have HC0:=ai hc
 have HS:=ai hS
 have HLO:=ai hlo
 have HLR:=ai hl
 have hSB:∀b,b<B→¬(b=cb∨b=lb):=fun b hb q=>by omega
 have X0:Hid (CE cb tb mb lb ty mk lo w f w):=ai ⟨h,Fr.refl _ _⟩
 clear h hr hc hS IH hlo hl
 obtain ⟨Z,HZ⟩:∃Z,Hid (Z=ckEL ty mk L l f):=⟨_,ai rfl⟩
 rw [←uh HZ]
 go_enter Tryz.func363,Tryz.ntmps363
 go_wp2_with fail
 go_loopg [8] L.length (fun gk c wr=>EXR cb tb mb lb ty mk lo w f l L gk c wr)
 case atStart=>exact ⟨0,ai rfl,Nat.zero_le _,rfl,by rw [List.take_zero];unfold ckEL;exact uh X0⟩
 case round=>
  clear X0
  obtain ⟨j,hgk,hj,rfl,hX⟩:=hrel
  have XR:=ai hX
  clear hX
  by_cases hlt:j<L.length
  ·have hd:(j:Int)<(L.length:Int):=by omega
   have hcj:=(World.cell?_of_block (a:=⟨g,j,none⟩) ((uh XR).k.block g hg (fun q=>by rcases q with q|q;exact hgn.1 q;exact hgn.2 q))).trans (uh HC0 j hlt)
   have HC:=ai (uh HIH L[j] (List.getElem_mem hlt) _ cb tb mb lb B ty mk lo _ (vs j) l (uh XR).d hB hBl ((uh HR j hlt).frB (uh XR).k hSB) (uh HLR) (fun x=>by have:=uh HLO x;have:=nnL_mem (List.getElem_mem hlt);omega) (uh HS _ (List.getElem_mem hlt)))
   rw [←ckEL_take _ _ _ _ _ _ hlt] at HC
   go_wp2_with fail
   refine (uh HC).mono ?_
   rintro e w2 ⟨rfl,k2,d2⟩
   have X2:=ai ((uh XR).fr k2 d2)
   clear k2 d2 HC
   go_wp2_with fail
   go_roundg (L.length-(j+1))
   case measure=>rw [uh hgk];omega
   case rel=>exact ⟨j+1,ai rfl,by omega,by go_num,uh X2⟩
  ·have hd:decide ((j:Int)<(L.length:Int))=false:=by simp;omega
   have he:L.take j=L:=List.take_of_length_le (by omega)
   rw [he,←uh HZ] at XR
   go_wp2_with fail
   go_end0
   exact ⟨rfl,(uh XR).k,(uh XR).d⟩
abbrev bdA (r:Bool) (x y:Int) (s:BA) (v:Value):Array Value:=#[.bool r,.int .i64 x,.int .i64 y,.string s,v]
theorem value_P {nd:Nd} {v:Value} (HE:PXC nd) (h:CK w cb tb mb lb ty mk lo f) (hB:B≤cb) (hBl:B≤lb) (hx:PE w (·<B) nd v) (hl:LoR lo l) (hlo:∀x,lo x+1+nn nd≤5000) (hs:Sm nd) (r:Bool) (x y:Int) (s:BA):
 Calls Tryz.prog 217 #[cp cb,.agg (bdA r x y s v)] w fun e w'=>e=.returned (.tuple #[])∧Fr (fun b=>b=cb∨b=lb) w w'∧CK w' cb tb mb lb ty mk lo (ckE ty mk nd (if r then l++[s] else l) f):=by
 have hbA:Below w.heap.size w (w.alloc (.cells (bdA r x y s v) 218)):=bw _
 have X0:Hid (CE cb tb mb lb ty mk lo w f (w.alloc (.cells (bdA r x y s v) 218))):=ai ⟨h.bel hbA,Fr.of hbA⟩
 have B0:=ai (Bx.new w (bdA r x y s v) 218)
 have HX:=ai (hx.bel hbA)
 have HLO:=ai hlo
 have HLR:=ai hl
 obtain ⟨z1,z2,z3,z4⟩:=h.lts
 obtain ⟨t1,x1,rfl⟩:=hx.iface
 obtain ⟨c0,f0,y0⟩:=uh B0
 clear h hx hbA hl hlo
 cases r with
 |false=>
  have HC:=ai (HE _ cb tb mb lb B ty mk lo f _ l (uh X0).d hB hBl (uh HX) (uh HLR) (fun x=>by have:=uh HLO x;omega) hs)
  go_enter Tryz.func217,Tryz.ntmps217
  go_wp2_with fail
  refine (uh HC).mono ?_
  rintro e w2 ⟨rfl,k2,d2⟩
  have X2:=ai ((uh X0).fr k2 d2)
  clear k2 d2 HC
  go_wp2_with fail
  go_end0
  exact ⟨rfl,(uh X2).k,(uh X2).d⟩
 |true=>
  go_enter Tryz.func217,Tryz.ntmps217
  go_wp2_with fail
  go_region_with (first
   |(go_at_call 315;refine (one_P _ _ _).mono ?_;rintro e w1 ⟨gb,rfl,hgb,b1,g1⟩;have hb:=(Below.refl _ _).drew.trans (b1.mono (br _));have X1:=ai ((uh X0).bel hb);have P1:=ai ((uh HX).bel hb);have G1:=ai g1;have B1:=ai ((uh B0).below hb);have hgb':w.heap.size+1≤gb:=(by simpa using hgb);obtain ⟨c1,f1,y1⟩:=uh B1;clear hb b1 g1 hgb)
   |(go_at_call 314;refine (within_P HE (uh X1).d hB hBl (uh P1) (uh G1) ⟨by omega,by omega,by omega,by omega⟩ (uh HLR) (uh HLO) hs).mono ?_;rintro e w2 ⟨rfl,k2,d2⟩;have X2:=ai ((uh X1).fr k2 d2);clear k2 d2))
  all_goals (
   go_wp2_with fail
   exact bodyPost_ret (v:=.tuple #[]) (by simp [results,Tryz.results217,go_sem]) rfl ⟨rfl,(uh X2).k,(uh X2).d⟩)
end
end
section
open Go Go.RowKit Go.ChangeMaps Go.MapKept
section
variable {cb tb mb lb gb B:Nat} {ty mk:BA→Option Nat} {lo:BA→Nat} {w0 w wr w':World} {p l:List BA} {f f':Fl}
theorem CE.frG (h:CE cb tb mb lb ty mk lo w0 f wr) (k:Fr (fun b=>b=cb∨b=gb) wr w') (hg:w0.heap.size≤gb) (d:CK w' cb tb mb lb ty mk lo f'):CE cb tb mb lb ty mk lo w0 f' w':=
 ⟨d,h.k.trans' k (fun b q=>by
  rcases q with q|q
  ·exact Or.inl (Or.inl q)
  ·exact Or.inr (by omega))⟩
def AMR (cb tb mb lb:Nat) (ty mk:BA→Option Nat) (lo:BA→Nat) (w0:World) (f:Fl) (l:List BA) (A:List (Nd×Nd)) (gk:Nat) (c:Value) (wr:World):Prop:=∃j:Nat,Hid (gk=A.length-j)∧j≤A.length∧c=.int .i64 (j:Int)∧CE cb tb mb lb ty mk lo w0 (ckAs ty mk l (A.take j) f) wr
theorem arms_P {A:List (Nd×Nd)} {g sc:Nat} {vp ve:Nat→Value} (HA:∀q∈A,PXC q.2) (h:CK w cb tb mb lb ty mk lo f) (hB:B≤cb) (hBl:B≤lb) (hgB:g<B) (hg:g<w.heap.size) (hc:∀i,i<A.length→(∃u v,w.cell? ⟨g,i*4,none⟩=some (.int .i64 u)∧w.cell? ⟨g,i*4+1,none⟩=some (.int .i64 v))∧w.cell? ⟨g,i*4+2,none⟩=some (vp i)∧w.cell? ⟨g,i*4+3,none⟩=some (ve i)) (hp:∀i (h:i<A.length),PP w (·<B) A[i].1 (vp i)) (he:∀i (h:i<A.length),PE w (·<B) A[i].2 (ve i)) (hl:LoR lo l) (hlo:∀x,lo x+1+nnL (armN A)≤5000) (hS:∀x∈armN A,Sm x) (hL:A.length≤1000):
 Calls Tryz.prog 364 #[cp cb,.slice (some ⟨g,0,none⟩) A.length sc] w fun e w'=>e=.returned (.tuple #[])∧Fr (fun b=>b=cb∨b=lb) w w'∧CK w' cb tb mb lb ty mk lo (ckEA ty mk (armN A) l f):=by
 have hmm:= @run_makeMap Tryz.prog
 have HHA:=ai HA
 have HC0:=ai hc
 have HP:=ai hp
 have HE:=ai he
 have HS:=ai hS
 have HLO:=ai hlo
 have HLR:=ai hl
 have hSB:∀b,b<B→¬(b=cb∨b=lb):=fun b hb q=>by omega
 obtain ⟨z1,z2,z3,z4⟩:=h.lts
 have X0:Hid (CE cb tb mb lb ty mk lo w f w):=ai ⟨h,Fr.refl _ _⟩
 rw [ckEA_as]
 clear h hc hp he hS HA hlo hl
 obtain ⟨Z,HZ⟩:∃Z,Hid (Z=ckAs ty mk l A f):=⟨_,ai rfl⟩
 rw [←uh HZ]
 go_enter Tryz.func364,Tryz.ntmps364
 go_wp2_with fail
 go_loopg [9] A.length (fun gk c wr=>AMR cb tb mb lb ty mk lo w f l A gk c wr)
 case atStart=>exact ⟨0,ai rfl,Nat.zero_le _,rfl,uh X0⟩
 case round=>
  clear X0
  obtain ⟨j,hgk,hj,rfl,hX⟩:=hrel
  have XR:=ai hX
  have hsw:=hX.k.size
  clear hX
  by_cases hlt:j<A.length
  ·have hd:(j:Int)<(A.length:Int):=by omega
   have cel:∀o,wr.cell? ⟨g,o,none⟩=w.cell? ⟨g,o,none⟩:=fun o=>World.cell?_of_block (a:=⟨g,o,none⟩) ((uh XR).k.block g hg (hSB g hgB))
   obtain ⟨⟨u,v,d0,d1⟩,d2,d3⟩:=uh HC0 j hlt
   rw [←cel] at d0 d1 d2 d3
   obtain ⟨t1,x1,e1⟩:=(uh HP j hlt).iface
   obtain ⟨t2,x2,e2⟩:=(uh HE j hlt).iface
   have P1:=ai (uh HP j hlt)
   have E1:=ai (uh HE j hlt)
   rw [e1] at d2 P1
   rw [e2] at d3 E1
   have HT:=ai (ckAs_take ty mk l A f j hlt)
   have hnn:=armN_nn A j hlt
   have hin:=armN_in A j hlt
   generalize ckAs ty mk l (A.take j) f=zj at XR HT
   unfold ckArm at HT
   have hbA:Below wr.heap.size wr ((wr.alloc (.cells #[.int .i64 u,.int .i64 v,.iface t1 (.agg x1),.iface t2 (.agg x2)] 334)).alloc (.map #[] 0)):=(bw _).alloc (by simp) _
   have X1:=ai ((uh XR).bel hbA)
   have B1:=ai ((Bx.new wr #[.int .i64 u,.int .i64 v,.iface t1 (.agg x1),.iface t2 (.agg x2)] 334).alloc (.map #[] 0))
   have G1:Hid (GM ((wr.alloc (.cells #[.int .i64 u,.int .i64 v,.iface t1 (.agg x1),.iface t2 (.agg x2)] 334)).alloc (.map #[] 0)) (wr.heap.size+1) []):=ai (by have:=GM.new (wr.alloc (.cells #[.int .i64 u,.int .i64 v,.iface t1 (.agg x1),.iface t2 (.agg x2)] 334));simpa using this)
   have HC:=ai (pattern_P A[j].1 _ cb tb mb lb (wr.heap.size+1) B ty mk lo zj _ [] (uh X1).d hB (by omega) ((uh P1).frB (uh X1).k hSB) (uh G1) ⟨by omega,by omega,by omega,by omega⟩ (uh HS _ hin.1))
   have HIN:=ai hin
   have HA2:=ai (uh HHA A[j] (List.getElem_mem hlt))
   generalize ckP mk A[j].1 ([],zj)=pz at HC HT
   obtain ⟨p,zp⟩:=pz
   simp only at HC HT
   obtain ⟨c1,f1,y1⟩:=uh B1
   clear hbA cel e1 e2 hin
   go_wp2_with fail
   refine (uh HC).mono ?_
   rintro e w3 ⟨rfl,k3,d3',g3⟩
   have X3:=ai ((uh X1).frG k3 (by omega) d3')
   have B3:=ai ((uh B1).fr k3 (fun q=>by omega))
   have G3:=ai g3
   have HC2:=ai (within_P (l:=l) (uh HA2) (uh X3).d hB hBl ((uh E1).frB (uh X3).k hSB) (uh G3) ⟨by omega,by omega,by omega,by omega⟩ (uh HLR) (fun x=>by have:=uh HLO x;omega) (uh HS _ (uh HIN).2))
   rw [←uh HT] at HC2
   clear k3 d3' g3 HC c1 f1 y1 d0 d1 d2 d3
   obtain ⟨c1,f1,y1⟩:=uh B3
   go_wp2_with fail
   refine (uh HC2).mono ?_
   rintro e w4 ⟨rfl,k4,d4⟩
   have X4:=ai ((uh X3).fr k4 d4)
   clear k4 d4 HC2
   go_wp2_with fail
   go_roundg (A.length-(j+1))
   case measure=>rw [uh hgk];omega
   case rel=>exact ⟨j+1,ai rfl,by omega,by go_num,uh X4⟩
  ·have hd:decide ((j:Int)<(A.length:Int))=false:=by simp;omega
   have he:A.take j=A:=List.take_of_length_le (by omega)
   rw [he,←uh HZ] at XR
   go_wp2_with fail
   go_end0
   exact ⟨rfl,(uh XR).k,(uh XR).d⟩
end
end
section
open Go Go.RowKit Go.ChangeMaps Go.MapKept
theorem cells2 {w:World} {W:World} {a b:Value} {t:TypeId} {g:Nat} (hg:g=W.heap.size) (hw:w=W.alloc (.cells #[a,b] t)) {x y:Nd}:∀i,i<[x,y].length→w.cell? ⟨g,i,none⟩=some ((fun i:Nat=>if i=0 then a else b) i):=by
 subst hg hw
 intro i hi
 have:i=0∨i=1:=by simp at hi;omega
 rcases this with rfl|rfl<;>simp
theorem cells3 {w:World} {W:World} {a b c:Value} {t:TypeId} {g:Nat} (hg:g=W.heap.size) (hw:w=W.alloc (.cells #[a,b,c] t)) {x y z:Nd}:∀i,i<[x,y,z].length→w.cell? ⟨g,i,none⟩=some ((fun i:Nat=>if i=0 then a else if i=1 then b else c) i):=by
 subst hg hw
 intro i hi
 have:i=0∨i=1∨i=2:=by simp at hi;omega
 rcases this with rfl|rfl|rfl<;>simp
theorem part2 {w:World} {B:Nat} {a b:Value} {x y:Nd} (hx:PE w (·<B) x a) (hy:PE w (·<B) y b):∀i (h:i<[x,y].length),PE w (·<B) [x,y][i] ((fun i:Nat=>if i=0 then a else b) i):=by
 intro i hi
 have:i=0∨i=1:=by simp at hi;omega
 rcases this with rfl|rfl
 ·exact hx
 ·exact hy
theorem part3 {w:World} {B:Nat} {a b c:Value} {x y z:Nd} (hx:PE w (·<B) x a) (hy:PE w (·<B) y b) (hz:PE w (·<B) z c):∀i (h:i<[x,y,z].length),PE w (·<B) [x,y,z][i] ((fun i:Nat=>if i=0 then a else if i=1 then b else c) i):=by
 intro i hi
 have:i=0∨i=1∨i=2:=by simp at hi;omega
 rcases this with rfl|rfl|rfl
 ·exact hx
 ·exact hy
 ·exact hz
theorem expr_P:∀nd,PXC nd:=by
 refine Nd.ind ?_
 intro k s n L fr t a IH w cb tb mb lb B ty mk lo f v l h hB hBl hx hl hlo hs
 have HIH:=ai IH
 have HS:=ai hs.part
 have hL:=hs.len.1
 have X0:Hid (CE cb tb mb lb ty mk lo w f w):=ai ⟨h,Fr.refl _ _⟩
 obtain ⟨z1,z2,z3,z4⟩:=h.lts
 have hSB:∀b,b<B→¬(b=cb∨b=lb):=fun b hb q=>by omega
 have HLO:=ai hlo
 have HLR:=ai hl
 clear h IH hs hlo hl
 cases hx with
 |num _ _ _ _ _=>
  have ta0:=toExpr_Number_Low
  have ta1:=toExpr_Number_Up
  have ta2:=toExpr_Number_Pair
  have ta3:=toExpr_Number_Typed
  have ta4:=toExpr_Number_Fun
  have ta5:=toExpr_Number_Let
  have ta6:=toExpr_Number_If
  have ta7:=toExpr_Number_Match
  have ta8:=toExpr_Number_Binary
  have ta9:=toExpr_Number_Call
  rw [ckE_0 (by decide),show ckEL ty mk [] l f=f by unfold ckEL;rfl]
  go_enter Tryz.func316,Tryz.ntmps316
  go_wp2_with fail
  go_end0
  exact ⟨rfl,(uh X0).k,(uh X0).d⟩
 |word _ _ _ _ _ _=>
  have ta0:=toExpr_Bool_Low
  have ta1:=toExpr_Bool_Up
  have ta2:=toExpr_Bool_Pair
  have ta3:=toExpr_Bool_Typed
  have ta4:=toExpr_Bool_Fun
  have ta5:=toExpr_Bool_Let
  have ta6:=toExpr_Bool_If
  have ta7:=toExpr_Bool_Match
  have ta8:=toExpr_Bool_Binary
  have ta9:=toExpr_Bool_Call
  rw [ckE_0 (by decide),show ckEL ty mk [] l f=f by unfold ckEL;rfl]
  go_enter Tryz.func316,Tryz.ntmps316
  go_wp2_with fail
  go_end0
  exact ⟨rfl,(uh X0).k,(uh X0).d⟩
 |unit _ _ _ _ _=>
  have ta0:=toExpr_Unit_Low
  have ta1:=toExpr_Unit_Up
  have ta2:=toExpr_Unit_Pair
  have ta3:=toExpr_Unit_Typed
  have ta4:=toExpr_Unit_Fun
  have ta5:=toExpr_Unit_Let
  have ta6:=toExpr_Unit_If
  have ta7:=toExpr_Unit_Match
  have ta8:=toExpr_Unit_Binary
  have ta9:=toExpr_Unit_Call
  rw [ckE_0 (by decide),show ckEL ty mk [] l f=f by unfold ckEL;rfl]
  go_enter Tryz.func316,Tryz.ntmps316
  go_wp2_with fail
  go_end0
  exact ⟨rfl,(uh X0).k,(uh X0).d⟩
 |low _ _ _ _ _ hs'=>
  have ta0:=toExpr_Low_Low
  have hbA:Below w.heap.size w (w.alloc (.cells #[.int .i64 (fr:Int),.int .i64 (t:Int),.string s] 466)):=bw _
  have X1:=ai ((uh X0).bel hbA)
  have B1:=ai (Bx.new w #[.int .i64 (fr:Int),.int .i64 (t:Int),.string s] 466)
  rw [show ckE ty mk (.mk 1 s n [] fr t a) l f=qas (!inL s l) 5 fr t f by unfold ckE;rfl]
  obtain ⟨N,hN⟩:∃N,Hid (N=lo s):=⟨_,ai rfl⟩
  have hlk:∀q,(Instr.lookup 302 (.map (some lb)) (.string s) false).run Tryz.prog ((w.alloc (.cells #[.int .i64 (fr:Int),.int .i64 (t:Int),.string s] 466)).drewN q)=.ok (.int .i64 (N:Int)) ((w.alloc (.cells #[.int .i64 (fr:Int),.int .i64 (t:Int),.string s] 466)).drewN q):=fun q=>by
   have:=((uh X1).bel ((Below.refl _ _).drewN q)).d.l.look s
   rw [←uh hN] at this
   exact this
  have HE:Hid (((N:Int)==0)= !inL s l):=ai (by
   cases hq:inL s l with
   |true=>have:=(uh HLR s).2 (inL_iff.1 hq);have h2:=uh hN;simp;omega
   |false=>
    have h1:lo s=0:=by
     apply Classical.byContradiction
     intro e
     exact inL_not.1 hq ((uh HLR s).1 e)
    have h2:=uh hN
    simp;omega)
  obtain ⟨c1,f1,y1⟩:=uh B1
  obtain ⟨c2,f2,y2⟩:=(uh X1).d.bx
  clear hbA
  cases hin:inL s l with
  |true=>
   rw [hin] at HE
   have hE':((N:Int)==0)=false:=uh HE
   go_enter Tryz.func316,Tryz.ntmps316
   go_wp2_with fail
   go_quiet (fail)
   go_wp2_with fail
   go_end0
   exact ⟨rfl,((uh X1).bel ((Below.refl _ _).drewN _)).k,((uh X1).bel ((Below.refl _ _).drewN _)).d⟩
  |false=>
   rw [hin] at HE
   have hE':((N:Int)==0)=true:=uh HE
   have HC:=fun q=>ai (tell_P ((uh X1).bel ((Below.refl _ _).drewN q)).d 5 fr t)
   go_enter Tryz.func316,Tryz.ntmps316
   go_wp2_with fail
   go_quiet (fail)
   go_wp2_with fail
   refine (uh (HC _)).mono ?_
   rintro e w2 ⟨rfl,k2,d2⟩
   have X2:=ai (((uh X1).bel ((Below.refl _ _).drewN _)).ke k2 d2)
   clear k2 d2 HC
   go_wp2_with fail
   go_end0
   exact ⟨rfl,(uh X2).k,(uh X2).d⟩
 |up _ _ _ _ _ hs'=>
  have ta0:=toExpr_Up_Low
  have ta1:=toExpr_Up_Up
  have hbA:Below w.heap.size w (w.alloc (.cells #[.int .i64 (fr:Int),.int .i64 (t:Int),.string s] 513)):=bw _
  have X1:=ai ((uh X0).bel hbA)
  have B1:=ai (Bx.new w #[.int .i64 (fr:Int),.int .i64 (t:Int),.string s] 513)
  rw [show ckE ty mk (.mk 2 s n [] fr t a) l f=qas (mk s).isNone 5 fr t f by unfold ckE;rfl]
  have hnot:∀(x:Bool) (w:World),(Op.unary .not (.bool x)).run Tryz.prog w=.ok (.bool (!x)) w:=fun _ _=>rfl
  obtain ⟨c1,f1,y1⟩:=uh B1
  obtain ⟨c2,f2,y2⟩:=(uh X1).d.bx
  obtain ⟨b,hb⟩:∃b,Hid (b=(mk s).isSome):=⟨_,ai rfl⟩
  have HB:=ai (show (mk s).isNone= !b by rw [uh hb];cases mk s<;>rfl)
  clear hbA
  go_enter Tryz.func316,Tryz.ntmps316
  go_wp2_with fail
  go_region_with (go_at_call 360;refine (has_P (v:=.map (some mb)) (Or.inr ⟨mb,rfl,((uh X1).bel (Below.refl _ _).drew).d.m⟩) s).mono ?_;rintro e w2 ⟨rfl,rfl⟩;rw [←uh hb])
  all_goals (
   cases b with
   |true=>
    go_wp2_with fail
    go_end0
    exact ⟨rfl,((uh X1).bel (Below.refl _ _).drew).k,by rw [uh HB];exact ((uh X1).bel (Below.refl _ _).drew).d⟩
   |false=>
    have HC:=ai (tell_P ((uh X1).bel (Below.refl _ _).drew).d 5 fr t)
    go_wp2_with fail
    refine (uh HC).mono ?_
    rintro e w2 ⟨rfl,k2,d2⟩
    have X2:=ai (((uh X1).bel (Below.refl _ _).drew).ke k2 d2)
    clear k2 d2 HC
    go_wp2_with fail
    go_end0
    exact ⟨rfl,(uh X2).k,by rw [uh HB];exact (uh X2).d⟩)
 |pr _ _ x y _ _ _ vx vy hx hy=>
  have ta0:=toExpr_Pair_Low
  have ta1:=toExpr_Pair_Up
  have ta2:=toExpr_Pair_Pair
  obtain ⟨t1,x1,rfl⟩:=hx.iface
  obtain ⟨t2,x2,rfl⟩:=hy.iface
  have hbA:Below w.heap.size w (w.alloc (.cells #[.int .i64 (fr:Int),.int .i64 (t:Int),.iface t1 (.agg x1),.iface t2 (.agg x2)] 412)):=bw _
  have X1:=ai ((uh X0).bel hbA)
  have B1:=ai (Bx.new w #[.int .i64 (fr:Int),.int .i64 (t:Int),.iface t1 (.agg x1),.iface t2 (.agg x2)] 412)
  have hbB:Below (w.alloc (.cells #[.int .i64 (fr:Int),.int .i64 (t:Int),.iface t1 (.agg x1),.iface t2 (.agg x2)] 412)).heap.size (w.alloc (.cells #[.int .i64 (fr:Int),.int .i64 (t:Int),.iface t1 (.agg x1),.iface t2 (.agg x2)] 412)) ((w.alloc (.cells #[.int .i64 (fr:Int),.int .i64 (t:Int),.iface t1 (.agg x1),.iface t2 (.agg x2)] 412)).alloc (.cells #[.iface t1 (.agg x1),.iface t2 (.agg x2)] 216)):=bw _
  have X2:=ai ((uh X1).bel hbB)
  rw [ckE_0 (by decide)]
  simp only [nn] at HLO
  have HC:=ai (exprs_P (g:=w.heap.size+1) (sc:=2) (l:=l) (L:=[x,y]) (fun q hq=>uh HIH q hq) (uh X2).d hB hBl (by simp) ⟨by omega,by omega⟩ (cells2 (by simp) rfl) (part2 ((hx.bel hbA).bel hbB) ((hy.bel hbA).bel hbB)) (uh HLR) (fun x=>by have:=uh HLO x;omega) (uh HS) hL)
  simp only [lqc,lqn,Nat.zero_add,Nat.reduceAdd] at HC
  obtain ⟨c1,f1,y1⟩:=uh B1
  clear hbA hbB hx hy
  go_enter Tryz.func316,Tryz.ntmps316
  go_wp2_with fail
  refine (uh HC).mono ?_
  rintro e w2 ⟨rfl,k2,d2⟩
  have X3:=ai ((uh X2).fr k2 d2)
  clear k2 d2 HC
  go_wp2_with fail
  go_end0
  exact ⟨rfl,(uh X3).k,(uh X3).d⟩
 |op _ _ x y _ _ _ vx vy ho hx hy=>
  have ta0:=toExpr_Binary_Low
  have ta1:=toExpr_Binary_Up
  have ta2:=toExpr_Binary_Pair
  have ta3:=toExpr_Binary_Typed
  have ta4:=toExpr_Binary_Fun
  have ta5:=toExpr_Binary_Let
  have ta6:=toExpr_Binary_If
  have ta7:=toExpr_Binary_Match
  have ta8:=toExpr_Binary_Binary
  obtain ⟨t1,x1,rfl⟩:=hx.iface
  obtain ⟨t2,x2,rfl⟩:=hy.iface
  have hbA:Below w.heap.size w (w.alloc (.cells #[.int .i64 (fr:Int),.int .i64 (t:Int),.string s,.iface t1 (.agg x1),.iface t2 (.agg x2)] 422)):=bw _
  have X1:=ai ((uh X0).bel hbA)
  have B1:=ai (Bx.new w #[.int .i64 (fr:Int),.int .i64 (t:Int),.string s,.iface t1 (.agg x1),.iface t2 (.agg x2)] 422)
  have hbB:Below (w.alloc (.cells #[.int .i64 (fr:Int),.int .i64 (t:Int),.string s,.iface t1 (.agg x1),.iface t2 (.agg x2)] 422)).heap.size (w.alloc (.cells #[.int .i64 (fr:Int),.int .i64 (t:Int),.string s,.iface t1 (.agg x1),.iface t2 (.agg x2)] 422)) ((w.alloc (.cells #[.int .i64 (fr:Int),.int .i64 (t:Int),.string s,.iface t1 (.agg x1),.iface t2 (.agg x2)] 422)).alloc (.cells #[.iface t1 (.agg x1),.iface t2 (.agg x2)] 216)):=bw _
  have X2:=ai ((uh X1).bel hbB)
  rw [ckE_0 (by decide)]
  simp only [nn] at HLO
  have HC:=ai (exprs_P (g:=w.heap.size+1) (sc:=2) (l:=l) (L:=[x,y]) (fun q hq=>uh HIH q hq) (uh X2).d hB hBl (by simp) ⟨by omega,by omega⟩ (cells2 (by simp) rfl) (part2 ((hx.bel hbA).bel hbB) ((hy.bel hbA).bel hbB)) (uh HLR) (fun x=>by have:=uh HLO x;omega) (uh HS) hL)
  simp only [lqc,lqn,Nat.zero_add,Nat.reduceAdd] at HC
  obtain ⟨c1,f1,y1⟩:=uh B1
  clear hbA hbB hx hy
  go_enter Tryz.func316,Tryz.ntmps316
  go_wp2_with fail
  refine (uh HC).mono ?_
  rintro e w2 ⟨rfl,k2,d2⟩
  have X3:=ai ((uh X2).fr k2 d2)
  clear k2 d2 HC
  go_wp2_with fail
  go_end0
  exact ⟨rfl,(uh X3).k,(uh X3).d⟩
 |call _ _ x y _ _ _ vx vy hx hy=>
  have ta0:=toExpr_Call_Low
  have ta1:=toExpr_Call_Up
  have ta2:=toExpr_Call_Pair
  have ta3:=toExpr_Call_Typed
  have ta4:=toExpr_Call_Fun
  have ta5:=toExpr_Call_Let
  have ta6:=toExpr_Call_If
  have ta7:=toExpr_Call_Match
  have ta8:=toExpr_Call_Binary
  have ta9:=toExpr_Call_Call
  obtain ⟨t1,x1,rfl⟩:=hx.iface
  obtain ⟨t2,x2,rfl⟩:=hy.iface
  have hbA:Below w.heap.size w (w.alloc (.cells #[.int .i64 (fr:Int),.int .i64 (t:Int),.iface t1 (.agg x1),.iface t2 (.agg x2)] 424)):=bw _
  have X1:=ai ((uh X0).bel hbA)
  have B1:=ai (Bx.new w #[.int .i64 (fr:Int),.int .i64 (t:Int),.iface t1 (.agg x1),.iface t2 (.agg x2)] 424)
  have hbB:Below (w.alloc (.cells #[.int .i64 (fr:Int),.int .i64 (t:Int),.iface t1 (.agg x1),.iface t2 (.agg x2)] 424)).heap.size (w.alloc (.cells #[.int .i64 (fr:Int),.int .i64 (t:Int),.iface t1 (.agg x1),.iface t2 (.agg x2)] 424)) ((w.alloc (.cells #[.int .i64 (fr:Int),.int .i64 (t:Int),.iface t1 (.agg x1),.iface t2 (.agg x2)] 424)).alloc (.cells #[.iface t1 (.agg x1),.iface t2 (.agg x2)] 216)):=bw _
  have X2:=ai ((uh X1).bel hbB)
  rw [ckE_0 (by decide)]
  simp only [nn] at HLO
  have HC:=ai (exprs_P (g:=w.heap.size+1) (sc:=2) (l:=l) (L:=[x,y]) (fun q hq=>uh HIH q hq) (uh X2).d hB hBl (by simp) ⟨by omega,by omega⟩ (cells2 (by simp) rfl) (part2 ((hx.bel hbA).bel hbB) ((hy.bel hbA).bel hbB)) (uh HLR) (fun x=>by have:=uh HLO x;omega) (uh HS) hL)
  simp only [lqc,lqn,Nat.zero_add,Nat.reduceAdd] at HC
  obtain ⟨c1,f1,y1⟩:=uh B1
  clear hbA hbB hx hy
  go_enter Tryz.func316,Tryz.ntmps316
  go_wp2_with fail
  refine (uh HC).mono ?_
  rintro e w2 ⟨rfl,k2,d2⟩
  have X3:=ai ((uh X2).fr k2 d2)
  clear k2 d2 HC
  go_wp2_with fail
  go_end0
  exact ⟨rfl,(uh X3).k,(uh X3).d⟩
 |ite _ _ x y z _ _ _ vx vy vz hx hy hz=>
  have ta0:=toExpr_If_Low
  have ta1:=toExpr_If_Up
  have ta2:=toExpr_If_Pair
  have ta3:=toExpr_If_Typed
  have ta4:=toExpr_If_Fun
  have ta5:=toExpr_If_Let
  have ta6:=toExpr_If_If
  obtain ⟨t1,x1,rfl⟩:=hx.iface
  obtain ⟨t2,x2,rfl⟩:=hy.iface
  obtain ⟨t3,x3,rfl⟩:=hz.iface
  have hbA:Below w.heap.size w (w.alloc (.cells #[.int .i64 (fr:Int),.int .i64 (t:Int),.iface t1 (.agg x1),.iface t2 (.agg x2),.iface t3 (.agg x3)] 420)):=bw _
  have X1:=ai ((uh X0).bel hbA)
  have B1:=ai (Bx.new w #[.int .i64 (fr:Int),.int .i64 (t:Int),.iface t1 (.agg x1),.iface t2 (.agg x2),.iface t3 (.agg x3)] 420)
  have hbB:Below (w.alloc (.cells #[.int .i64 (fr:Int),.int .i64 (t:Int),.iface t1 (.agg x1),.iface t2 (.agg x2),.iface t3 (.agg x3)] 420)).heap.size (w.alloc (.cells #[.int .i64 (fr:Int),.int .i64 (t:Int),.iface t1 (.agg x1),.iface t2 (.agg x2),.iface t3 (.agg x3)] 420)) ((w.alloc (.cells #[.int .i64 (fr:Int),.int .i64 (t:Int),.iface t1 (.agg x1),.iface t2 (.agg x2),.iface t3 (.agg x3)] 420)).alloc (.cells #[.iface t1 (.agg x1),.iface t2 (.agg x2),.iface t3 (.agg x3)] 216)):=bw _
  have X2:=ai ((uh X1).bel hbB)
  rw [ckE_0 (by decide)]
  simp only [nn] at HLO
  have HC:=ai (exprs_P (g:=w.heap.size+1) (sc:=3) (l:=l) (L:=[x,y,z]) (fun q hq=>uh HIH q hq) (uh X2).d hB hBl (by simp) ⟨by omega,by omega⟩ (cells3 (by simp) rfl) (part3 ((hx.bel hbA).bel hbB) ((hy.bel hbA).bel hbB) ((hz.bel hbA).bel hbB)) (uh HLR) (fun x=>by have:=uh HLO x;omega) (uh HS) hL)
  simp only [lqc,lqn,Nat.zero_add,Nat.reduceAdd] at HC
  obtain ⟨c1,f1,y1⟩:=uh B1
  clear hbA hbB hx hy hz
  go_enter Tryz.func316,Tryz.ntmps316
  go_wp2_with fail
  refine (uh HC).mono ?_
  rintro e w2 ⟨rfl,k2,d2⟩
  have X3:=ai ((uh X2).fr k2 d2)
  clear k2 d2 HC
  go_wp2_with fail
  go_end0
  exact ⟨rfl,(uh X3).k,(uh X3).d⟩
 |of _ _ x y _ _ _ vx vy hx hy=>
  have ta0:=toExpr_Typed_Low
  have ta1:=toExpr_Typed_Up
  have ta2:=toExpr_Typed_Pair
  have ta3:=toExpr_Typed_Typed
  obtain ⟨t1,x1,rfl⟩:=hx.iface
  obtain ⟨t2,x2,rfl⟩:=hy.iface
  have hbA:Below w.heap.size w (w.alloc (.cells #[.int .i64 (fr:Int),.int .i64 (t:Int),.iface t1 (.agg x1),.iface t2 (.agg x2)] 414)):=bw _
  have X1:=ai ((uh X0).bel hbA)
  have B1:=ai (Bx.new w #[.int .i64 (fr:Int),.int .i64 (t:Int),.iface t1 (.agg x1),.iface t2 (.agg x2)] 414)
  rw [ckE_14]
  simp only [nn,nnL] at HLO
  have HY:=ai (hy.bel hbA)
  have HC:=ai (uh HIH x (by simp) _ cb tb mb lb B ty mk lo f _ l (uh X1).d hB hBl (hx.bel hbA) (uh HLR) (fun x=>by have:=uh HLO x;omega) (uh HS x (by simp)))
  obtain ⟨c1,f1,y1⟩:=uh B1
  clear hbA hx hy
  go_enter Tryz.func316,Tryz.ntmps316
  go_wp2_with fail
  refine (uh HC).mono ?_
  rintro e w2 ⟨rfl,k2,d2⟩
  have X2:=ai ((uh X1).fr k2 d2)
  have B2:=ai ((uh B1).fr k2 (fun q=>by omega))
  have HY2:=ai ((uh HY).frB k2 hSB)
  have HC2:=ai (typeOf_P y _ cb tb mb lb B ty mk lo _ _ (.map none) (fun _=>none) [] (uh X2).d hB (uh HY2) (Or.inl ⟨rfl,rfl⟩) (fun b q=>by cases q) (fun s _=>by simp [inL]) (uh HS y (by simp)))
  clear k2 d2 HC c1 f1 y1
  obtain ⟨c1,f1,y1⟩:=uh B2
  go_wp2_with fail
  refine (uh HC2).mono ?_
  rintro e w3 ⟨rfl,k3,d3⟩
  have X3:=ai ((uh X2).ke k3 d3)
  clear k3 d3 HC2
  go_wp2_with fail
  go_end0
  exact ⟨rfl,(uh X3).k,(uh X3).d⟩
 |fn _ _ x _ _ _ y vx hs' hy hx=>
  have ta0:=toExpr_Fun_Low
  have ta1:=toExpr_Fun_Up
  have ta2:=toExpr_Fun_Pair
  have ta3:=toExpr_Fun_Typed
  have ta4:=toExpr_Fun_Fun
  obtain ⟨t1,x1,rfl⟩:=hx.iface
  have hbA:Below w.heap.size w (w.alloc (.cells #[.int .i64 (fr:Int),.int .i64 (t:Int),.int .i64 (a:Int),.int .i64 (y:Int),.string s,.iface t1 (.agg x1)] 416)):=bw _
  have X1:=ai ((uh X0).bel hbA)
  have B1:=ai (Bx.new w #[.int .i64 (fr:Int),.int .i64 (t:Int),.int .i64 (a:Int),.int .i64 (y:Int),.string s,.iface t1 (.agg x1)] 416)
  have BB:=B1
  rw [ckE_9]
  simp only [nn,nnL] at HLO
  have HX:=ai (hx.bel hbA)
  have HE:=ai (uh HIH x (by simp))
  have HSX:=ai (uh HS x (by simp))
  obtain ⟨c1,f1,y1⟩:=uh B1
  clear hbA hx hy
  go_enter Tryz.func316,Tryz.ntmps316
  go_wp2_with fail
  go_region_with (first
   |(go_at_call 315;refine (one_P _ _ _).mono ?_;rintro e w1 ⟨gb,rfl,hgb,b1,g1⟩;have hb:=(Below.refl _ _).drew.trans (b1.mono (br _));have Y1:=ai ((uh X1).bel hb);have Q1:=ai ((uh HX).bel hb);have G1:=ai g1;have C1:=ai ((uh BB).below hb);have hgb':w.heap.size+1≤gb:=(by have:=hgb;simp at this;omega);obtain ⟨c3,f3,y3⟩:=uh C1;clear hb b1 g1 hgb)
   |(go_at_call 314;refine (within_P (l:=l) (uh HE) (uh Y1).d hB hBl (uh Q1) (uh G1) ⟨by omega,by omega,by omega,by omega⟩ (uh HLR) (fun x=>by have:=uh HLO x;omega) (uh HSX)).mono ?_;rintro e w2' ⟨rfl,k2,d2⟩;have X2:=ai ((uh Y1).fr k2 d2);clear k2 d2))
  all_goals (
   go_wp2_with fail
   go_end0
   exact ⟨rfl,(uh X2).k,(uh X2).d⟩)
 |lt _ _ _ x z _ _ _ y vx vz hc hs' hy hx hz=>
  have ta0:=toExpr_Let_Low
  have ta1:=toExpr_Let_Up
  have ta2:=toExpr_Let_Pair
  have ta3:=toExpr_Let_Typed
  have ta4:=toExpr_Let_Fun
  have ta5:=toExpr_Let_Let
  obtain ⟨t1,x1,rfl⟩:=hx.iface
  obtain ⟨t2,x2,rfl⟩:=hz.iface
  have HRR:=ai (show ckE ty mk (.mk k s n [x,z] fr t a) l f=ckE ty mk z (l++[s]) (ckE ty mk x (if (k==11)=true then l++[s] else l) f) by
   rcases hc with rfl|rfl
   ·rw [ckE_10];rfl
   ·rw [ckE_11];rfl)
  rw [uh HRR]
  obtain ⟨rr,hrr⟩:∃rr,rr=(k==11):=⟨_,rfl⟩
  rw [←hrr]
  obtain ⟨fz,HFZ⟩:∃fz,Hid (fz=ckE ty mk x (if rr=true then l++[s] else l) f):=⟨_,ai rfl⟩
  rw [←uh HFZ]
  clear HRR hrr hc
  have hbA:Below w.heap.size w (w.alloc (.cells #[.int .i64 (fr:Int),.int .i64 (t:Int),.bool rr,.int .i64 (a:Int),.int .i64 (y:Int),.string s,.iface t1 (.agg x1),.iface t2 (.agg x2)] 418)):=bw _
  have X1:=ai ((uh X0).bel hbA)
  have B1:=ai (Bx.new w #[.int .i64 (fr:Int),.int .i64 (t:Int),.bool rr,.int .i64 (a:Int),.int .i64 (y:Int),.string s,.iface t1 (.agg x1),.iface t2 (.agg x2)] 418)
  simp only [nn,nnL] at HLO
  have HZ:=ai (hz.bel hbA)
  have HC:=ai (value_P (l:=l) (uh HIH x (by simp)) (uh X1).d hB hBl (hx.bel hbA) (uh HLR) (fun x=>by have:=uh HLO x;omega) (uh HS x (by simp)) rr (a:Int) (y:Int) s)
  rw [←uh HFZ] at HC
  have HE:=ai (uh HIH z (by simp))
  have HSX:=ai (uh HS z (by simp))
  obtain ⟨c1,f1,y1⟩:=uh B1
  clear hbA hx hy hz
  go_enter Tryz.func316,Tryz.ntmps316
  go_wp2_with fail
  refine (uh HC).mono ?_
  rintro e w2 ⟨rfl,k2,d2⟩
  have X2:=ai ((uh X1).fr k2 d2)
  have BB:=ai ((uh B1).fr k2 (fun q=>by omega))
  have HZ2:=ai ((uh HZ).frB k2 hSB)
  have hw2:=k2.size
  clear k2 d2 HC c1 f1 y1
  obtain ⟨c1,f1,y1⟩:=uh BB
  go_wp2_with fail
  go_region_with (first
   |(go_at_call 315;refine (one_P _ _ _).mono ?_;rintro e w1 ⟨gb,rfl,hgb,b1,g1⟩;have hb:=(Below.refl _ _).drew.trans (b1.mono (br _));have Y1:=ai ((uh X2).bel hb);have Q1:=ai ((uh HZ2).bel hb);have G1:=ai g1;have C1:=ai ((uh BB).below hb);have hgb':w.heap.size+1≤gb:=(by have:=hgb;have h3:=hw2;simp at this h3;omega);obtain ⟨c3,f3,y3⟩:=uh C1;clear hb b1 g1 hgb)
   |(go_at_call 314;refine (within_P (l:=l) (uh HE) (uh Y1).d hB hBl (uh Q1) (uh G1) ⟨by omega,by omega,by omega,by omega⟩ (uh HLR) (fun x=>by have:=uh HLO x;omega) (uh HSX)).mono ?_;rintro e w2' ⟨rfl,k2,d2⟩;have X3:=ai ((uh Y1).fr k2 d2);clear k2 d2))
  all_goals (
   go_wp2_with fail
   go_end0
   exact ⟨rfl,(uh X3).k,(uh X3).d⟩)
 |mt _ _ x A _ _ _ vx g sc vp ve h0 hg hz hc hx hp he=>
  have ta0:=toExpr_Match_Low
  have ta1:=toExpr_Match_Up
  have ta2:=toExpr_Match_Pair
  have ta3:=toExpr_Match_Typed
  have ta4:=toExpr_Match_Fun
  have ta5:=toExpr_Match_Let
  have ta6:=toExpr_Match_If
  have ta7:=toExpr_Match_Match
  obtain ⟨t1,x1,rfl⟩:=hx.iface
  have hbA:Below w.heap.size w (w.alloc (.cells #[.int .i64 (fr:Int),.int .i64 (t:Int),.iface t1 (.agg x1),.slice (some ⟨g,0,none⟩) A.length sc] 225)):=bw _
  have X1:=ai ((uh X0).bel hbA)
  have B1:=ai (Bx.new w #[.int .i64 (fr:Int),.int .i64 (t:Int),.iface t1 (.agg x1),.slice (some ⟨g,0,none⟩) A.length sc] 225)
  rw [ckE_13]
  simp only [nn,nnL] at HLO
  have hgB:g<B:=hg
  have hAL:A.length≤1000:=by simp only [lqc] at hL;rw [armN_len'] at hL;omega
  have HCC:=ai hc
  have HPP:=ai hp
  have HEE:=ai he
  have HC:=ai (uh HIH x (by simp) _ cb tb mb lb B ty mk lo f _ l (uh X1).d hB hBl (hx.bel hbA) (uh HLR) (fun x=>by have:=uh HLO x;omega) (uh HS x (by simp)))
  obtain ⟨c1,f1,y1⟩:=uh B1
  have HIA:Hid (∀q∈A,PXC q.2):=ai (fun q hq=>by
   obtain ⟨i,hi,rfl⟩:=List.getElem_of_mem hq
   exact uh HIH _ (List.mem_cons_of_mem _ (armN_in A i hi).2))
  clear hbA hx hp he hc
  go_enter Tryz.func316,Tryz.ntmps316
  go_wp2_with fail
  refine (uh HC).mono ?_
  rintro e w2 ⟨rfl,k2,d2⟩
  have X2:=ai ((uh X1).fr k2 d2)
  have B2:=ai ((uh B1).fr k2 (fun q=>by omega))
  have cel:∀o,w2.cell? ⟨g,o,none⟩=w.cell? ⟨g,o,none⟩:=fun o=>World.cell?_of_block (a:=⟨g,o,none⟩) ((uh X2).k.block g hz (hSB g hgB))
  have HC2:=ai (arms_P (l:=l) (sc:=sc) (vp:=vp) (ve:=ve) (uh HIA) (uh X2).d hB hBl hgB (Nat.lt_of_lt_of_le hz (uh X2).k.size) (fun i hi=>by rw [cel,cel,cel,cel];exact uh HCC i hi) (fun i hi=>(uh HPP i hi).frB (uh X2).k hSB) (fun i hi=>(uh HEE i hi).frB (uh X2).k hSB) (uh HLR) (fun q=>by have:=uh HLO q;have:=nn_pos x;omega) (fun q hq=>uh HS q (List.mem_cons_of_mem _ hq)) hAL)
  clear k2 d2 HC c1 f1 y1 cel
  obtain ⟨c1,f1,y1⟩:=uh B2
  go_wp2_with fail
  refine (uh HC2).mono ?_
  rintro e w3 ⟨rfl,k3,d3⟩
  have X3:=ai ((uh X2).fr k3 d3)
  clear k3 d3 HC2
  go_wp2_with fail
  go_end0
  exact ⟨rfl,(uh X3).k,(uh X3).d⟩
end
end Go.Proofs.YtoceemjbcgmojaaGreatDoor

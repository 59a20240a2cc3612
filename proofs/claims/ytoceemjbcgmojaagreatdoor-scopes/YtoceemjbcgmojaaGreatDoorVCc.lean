import Derived.Deep.Cut
import Derived.Laws.AppendOwn
import Derived.Laws.AppendOwnNone
import Derived.Test.YtoceemjbcgmojaaGreatDoorVTo
import Derived.Test.YtoceemjbcgmojaaGreatDoorVSh0
import Derived.Test.YtoceemjbcgmojaaGreatDoorVTf
import Derived.Test.YtoceemjbcgmojaaGreatDoorVOa
import Derived.Test.YtoceemjbcgmojaaGreatDoorVD0
set_option linter.all false
set_option maxRecDepth 100000
set_option maxHeartbeats 4000000
namespace Go.Proofs.YtoceemjbcgmojaaGreatDoor
section
open Go Go.RowKit Un
theorem strInfoC:(Tryz.prog.info? 9).map (fun i=>(i.zero,i.size,i.bytes))=some (some (.string ⟨#[]⟩),1,16):=by kernel_rfl
theorem strsUnderC:Tryz.prog.underlying 81=some (.slice 9):=by kernel_rfl
abbrev ownC (w:World) (base:Nat) (v:Value) (xs:List Value):Prop:=w.ownsRow base 9 1 v xs.length xs
theorem ownC.new (w:World) (C:List Value) (base:Nat) (hb:base≤w.heap.size) (hl:C.length≤1000) (n:Nat) (hn:n=C.length):ownC (w.alloc (.cells C.toArray 9)) base (.slice (some ⟨w.heap.size,0,none⟩) n n) C:=by
 subst hn
 exact ⟨by simp,.inr ⟨w.heap.size,C.length,C.toArray,rfl,hb,heap_alloc_new w _,br _,by unfold maxLen;omega,by simp,by simp⟩⟩
theorem app_c {w:World} {ops:Array Oper} {rest:List Oper} {o:Oper} {a:Act} {Q:Exit→Act→World→Prop} (hgd:o.guard=none) (s x:Operand)
 (ho:o.op=.call {callee:=.builtin .append,args:=#[s,x],argTypes:=#[81,81]})
 {base b0:Nat} {v u:Value} {xs news:List Value} (hs:a.eval s=v) (hown:ownC w base v xs) (hx:a.eval x=u) (hn:ownC w b0 u news)
 (h1:∀u∈news,u.oneCell'=true) (hz:xs.length+news.length≤1000) (hbase:base≤w.heap.size)
 (h:∀v' w',ownC w' base v' (xs++news)→w.grownBy w' v.ownBlock→wpList Tryz.prog ops Q rest (a.put o.dst v') w'):wpList Tryz.prog ops Q (o::rest) a w:=by
 obtain ⟨i0,hi,hz0,hz1,hz2⟩:=info_parts strInfoC
 have hn':=hn
 obtain ⟨hl,hc⟩:=hn
 rcases hc with ⟨rfl,h0⟩|⟨g,cap,cur,rfl,hg,hh,r⟩
 ·have e:news=[]:=List.eq_nil_of_length_eq_zero h0
  subst e
  refine wpList_append_own_none hgd s x 81 ho base 9 i0 1 strsUnderC hi v xs.length xs hs hown hx ?_
  exact h v w (by simpa using hown) ⟨rfl,rfl,rfl,br _,fun _ _ _=>rfl⟩
 ·refine wpList_append_own w hgd s x 81 ho base 9 i0 _ 1 16 strsUnderC hi hz0 hz1 hz2 rfl (by decide) v xs.length xs hs hown ⟨g,0,none⟩ news.length cap news hx (by omega) (fun j z e=>hn'.cells rfl j z e) h1 (by unfold maxLen;omega) (by omega) hbase ?_
  intro v' w' ho' hg' _
  exact h v' w' (by unfold ownC;rw [lqa];exact ho') hg'
theorem own_keC {rb:Nat} {w w':World} {base:Nat} {e:TypeId} {size:Nat} {v:Value} {n:Nat} {xs:List Value} (h:w.ownsRow base e size v n xs) (hk:Ke rb w w') (hn:v.ownBlock≠some rb):w'.ownsRow base e size v n xs:=
 qb3 h fun g hg=>hk.block g (qai h g hg).2 (fun e=>hn (by rw [hg,e]))
theorem grown_newC {W w w':World} {B:Nat} {row:Option Nat} (h:Below B W w) (hg:w.grownBy w' row) (hz:B≤w.heap.size) (hr:∀k,row=some k→B≤k):Below B W w':=
 ⟨hg.os.trans h.os,hg.tape.trans h.tape,hg.output.trans h.output,Nat.le_trans h.size hg.size,fun i hi=>(hg.block i (by omega) (fun e=>by have:=hr i e.symm;omega)).trans (h.block i hi)⟩
structure NL (w:World) (xb:Nat) (v:Value) (l:List BA):Prop where
 o:∃base,ownC w base v (l.map Value.string)
 n:v.ownBlock≠some xb
theorem NL.ke {xb:Nat} {w w':World} {v:Value} {l:List BA} (h:NL w xb v l) (hk:Ke xb w w'):NL w' xb v l:=by
 obtain ⟨base,ho⟩:=h.o
 exact ⟨⟨base,own_keC ho hk h.n⟩,h.n⟩
theorem NL.bel {xb:Nat} {w w':World} {v:Value} {l:List BA} (h:NL w xb v l) (hb:Below w.heap.size w w'):NL w' xb v l:=h.ke (Ke.of hb)
theorem NL.nil (w:World) (xb:Nat):NL w xb (.slice none 0 0) []:=⟨⟨0,⟨rfl,.inl ⟨rfl,rfl⟩⟩⟩,by simp [Value.ownBlock]⟩
theorem NL.sl {xb:Nat} {w:World} {v:Value} {l:List BA} (h:NL w xb v l):∃va vc,v=.slice va l.length vc∧∀i (hi:i<l.length),∃g,va=some ⟨g,0,none⟩∧g<w.heap.size∧w.cell? ⟨g,i,none⟩=some (.string l[i]):=by
 obtain ⟨base,ho⟩:=h.o
 obtain ⟨va,vc,e⟩:=qck ho
 refine ⟨va,vc,by simpa using e,fun i hi=>?_⟩
 obtain ⟨q,c,e'⟩:=qbq ho (by simp;omega)
 have hv:=ho
 rw [e'] at hv
 rw [e] at e'
 injection e' with e1
 have hq:=qai ho q (by rw [e,e1];rfl)
 refine ⟨q,e1,hq.2,?_⟩
 rw [qcf hv i (by simp;omega)]
 simp [hi]
theorem str_eq (x y:BA):(x.toList==y.toList)=decide (x=y):=by
 by_cases e:x=y
 ·subst e;simp
 ·simp only [e,decide_false,beq_eq_false_iff_ne]
  exact fun q=>e (toList_inj q)
section
variable {w:World} {xb:Nat}
def HasR (l:List BA) (s:BA) (w:World) (gk:Nat) (c:Value) (wr:World):Prop:=∃j:Nat,Hid (gk=l.length-j)∧j≤l.length∧c=.int .i64 (j:Int)∧s∉l.take j∧wr=w
theorem take_not {l:List BA} {s:BA} {j:Nat} (h:j<l.length) (h1:s∉l.take j) (h2:l[j]≠s):s∉l.take (j+1):=by
 rw [List.take_succ_eq_append_getElem h]
 simp only [List.mem_append,List.mem_singleton,not_or]
 exact ⟨h1,fun e=>h2 e.symm⟩
theorem has_C {v:Value} {l:List BA} (h:NL w xb v l) (hl:l.length≤1000) (s:BA):Calls Tryz.prog 152 #[v,.string s] w fun e w'=>e=.returned (.bool (inL s l))∧w'=w:=by
 obtain ⟨va,vc,rfl,hc⟩:=h.sl
 clear h
 have HC:=ai hc
 clear hc
 obtain ⟨B,HBv⟩:∃B,Hid (B=inL s l):=⟨_,ai rfl⟩
 rw [←uh HBv]
 go_enter Tryz.func152,Tryz.ntmps152
 go_wp2_with fail
 go_loopg [5] l.length (fun gk c wr=>HasR l s w gk c wr)
 case atStart=>exact ⟨0,ai rfl,Nat.zero_le _,rfl,by simp,rfl⟩
 case round=>
  obtain ⟨j,hgk,hj,rfl,hn,rfl⟩:=hrel
  have HN:=ai hn
  clear hn
  by_cases hlt:j<l.length
  ·have hd:(j:Int)<(l.length:Int):=by omega
   obtain ⟨g,rfl,hg,hcj⟩:=uh HC j hlt
   by_cases e:l[j]=s
   ·have hq:(l[j].toList==s.toList)=true:=by rw [str_eq];simp [e]
    have hB:B=true:=by
     rw [uh HBv,inL_iff,←e]
     exact List.getElem_mem hlt
    subst hB
    clear e
    go_wp2_with fail
    go_ret
    exact ⟨rfl,rfl⟩
   ·have hq:(l[j].toList==s.toList)=false:=by rw [str_eq];simp [e]
    have HN2:=ai (take_not hlt (uh HN) e)
    clear e
    go_wp2_with fail
    go_roundg (l.length-(j+1))
    case measure=>rw [uh hgk];omega
    case rel=>exact ⟨j+1,ai rfl,by omega,by go_num,uh HN2,rfl⟩
  ·have hd:decide ((j:Int)<(l.length:Int))=false:=by simp;omega
   have hB:B=false:=by
    have:=uh HN
    rw [List.take_of_length_le (by omega)] at this
    rw [uh HBv]
    exact inL_not.2 this
   subst hB
   go_wp2_with fail
   go_ret
   exact ⟨rfl,rfl⟩
theorem own_sl {w:World} {base:Nat} {v:Value} {l:List BA} (h:ownC w base v (l.map Value.string)):∃la cap,v=.slice la l.length cap:=by
 obtain ⟨a,c,e⟩:=qck h
 exact ⟨a,c,by simpa using e⟩
theorem strs_one (l:List BA):∀u∈l.map Value.string,u.oneCell'=true:=by
 intro u hu
 obtain ⟨c,_,rfl⟩:=List.mem_map.1 hu
 rfl
theorem and_D {v:Value} {l:List BA} (h:NL w xb v l) (hx:xb<w.heap.size) (hl:l.length<1000) (s:BA):Calls Tryz.prog 86 #[v,.string s] w fun e w'=>∃v',e=.returned v'∧Below w.heap.size w w'∧NL w' xb v' (l++[s])∧∀b,v'.ownBlock=some b→w.heap.size≤b:=by
 obtain ⟨base,ho⟩:=h.o
 have HO:=ai ho
 have O0:Hid (ownC w w.heap.size (.slice none 0 0) []):=ai ⟨rfl,.inl ⟨rfl,rfl⟩⟩
 clear h ho
 obtain ⟨va,vc,rfl⟩:=own_sl (uh HO)
 go_enter Tryz.func86,Tryz.ntmps86
 go_wp2_with (first
  |(at_builtin;refine app_c rfl (.tmp 6) (.tmp 7) rfl rfl (uh O0) rfl (uh HO) (strs_one l) (by simp;omega) (br _) ?_;intro v2 w2 o2 g2;have hb2:Below w.heap.size w w2:=grown_newC (Below.refl _ _) g2 (br _) (fun k hk=>by cases (show (none:Option Nat)=some k from hk));have o2':ownC w2 w.heap.size v2 (l.map Value.string):=o2;have O2:=ai o2';have HB2:=ai hb2;have z2:=hb2.size;obtain ⟨a2,c2,rfl⟩:=own_sl o2';clear o2 o2' hb2 g2 O0 HO)
  |(at_builtin;refine app_c rfl (.tmp 9) (.tmp 11) rfl rfl (qa8 (uh O2) (bw _)) rfl (ownC.new w2 [.string s] 0 (Nat.zero_le _) (by simp) 1 rfl) (by intro u hu;simp at hu;subst hu;rfl) (by simp;omega) (by simp;omega) ?_;intro v3 w3 o3 g3;have hb3:Below w.heap.size w w3:=grown_newC ((uh HB2).alloc z2 _) g3 (by simp;omega) (fun k hk=>(qai (uh O2) k hk).1);have HB3:=ai hb3;have o3':ownC w3 w.heap.size v3 ((l++[s]).map Value.string):=(by rw [List.map_append];exact o3);have O3:=ai o3';obtain ⟨a3,c3,rfl⟩:=own_sl o3';clear o3';clear o3 hb3 g3 O2 HB2))
 have hl2:(l++[s]).length=l.length+1:=by simp
 rw [hl2] at O3
 go_ret
 refine ⟨_,rfl,uh HB3,⟨⟨w.heap.size,uh O3⟩,fun e=>?_⟩,fun b e=>(qai (uh O3) b e).1⟩
 have:=(qai (uh O3) xb e).1
 omega
theorem and_C {v:Value} {l:List BA} (h:NL w xb v l) (hx:xb<w.heap.size) (hl:l.length<1000) (s:BA):Calls Tryz.prog 86 #[v,.string s] w fun e w'=>∃v',e=.returned v'∧Below w.heap.size w w'∧NL w' xb v' (l++[s]):=
 (and_D h hx hl s).mono fun e w' ⟨v',h1,h2,h3,_⟩=>⟨v',h1,h2,h3⟩
end
end
section
open Go Go.RowKit Un
structure MK where
 nm:BA
 x:NV
 d:Int
 a:Int
def MK.l (m:MK):List Value:=[.string m.nm,.int .i64 m.x.k,.string m.x.s,.int .i64 m.x.n,.slice m.x.la m.x.ll m.x.lc,.int .i64 m.x.f,.int .i64 m.x.t,.int .i64 m.x.a,.int .i64 m.d,.int .i64 m.a]
abbrev MK.c (m:MK):Array Value:=#[.string m.nm,.int .i64 m.x.k,.string m.x.s,.int .i64 m.x.n,.slice m.x.la m.x.ll m.x.lc,.int .i64 m.x.f,.int .i64 m.x.t,.int .i64 m.x.a,.int .i64 m.d,.int .i64 m.a]
abbrev MK.v (m:MK):Value:=.agg #[.string m.nm,.int .i64 m.x.k,.string m.x.s,.int .i64 m.x.n,.slice m.x.la m.x.ll m.x.lc,.int .i64 m.x.f,.int .i64 m.x.t,.int .i64 m.x.a,.int .i64 m.d,.int .i64 m.a]
def MK.no:MK:=⟨⟨#[]⟩,NV.no,0,0⟩
def mkCells (ms:List MK):List Value:=ms.flatMap MK.l
theorem mkCells_at (xs:List MK) (i j:Nat) (h:i<xs.length) (hj:j<10):(mkCells xs)[i*10+j]? =(xs[i].l)[j]? :=by
 induction xs generalizing i with
 |nil=>simp at h
 |cons x xs ih=>
  simp only [mkCells,List.flatMap_cons]
  cases i with
  |zero=>rw [List.getElem?_append_left (by simp [MK.l];omega)];simp
  |succ i=>
   rw [List.getElem?_append_right (by simp [MK.l];omega)]
   have:(i+1)*10+j-x.l.length=i*10+j:=by simp [MK.l];omega
   rw [this]
   exact ih i (by simpa using h)
def tyL:List (BA×Nat)→BA→Option Nat
 |[],_=>none
 |p::l,s=>if p.1=s then some p.2 else tyL l s
def tyD (l:List (BA×Nat)) (s:BA):Option Nat:=if s=kInt∨s=kBool∨s=kUnit then some 0 else tyL l s
def tyI:Option Nat→Int
 |some n=>(n:Int)
 |none=> -1
def mkF:List MK→BA→Option MK
 |[],_=>none
 |p::l,s=>if p.nm=s then some p else mkF l s
def mkD (l:List MK) (s:BA):Option Nat:=(mkF l s).map (·.x.ll)
structure WD (w:World) (wb:Nat) (lv tv cv mv:Value) (tys:List (BA×Nat)) (mks:List MK) (f:Fl):Prop where
 bx:Bx w wb #[lv,tv,cv,mv,.int .i64 (f.kind:Int),.int .i64 (f.frm:Int),.int .i64 (f.to:Int)]
 tr:w.ownsRow (wb+1) 9 1 tv tys.length (tys.map fun p=>Value.string p.1)
 co:w.ownsRow (wb+1) 3 1 cv tys.length (tys.map fun p=>Value.int .i64 (p.2:Int))
 mo:w.ownsRow (wb+1) 307 10 mv mks.length (mkCells mks)
 tc:∀q,tv.ownBlock=some q→cv.ownBlock≠some q
 tm:∀q,tv.ownBlock=some q→mv.ownBlock≠some q
 cm:∀q,cv.ownBlock=some q→mv.ownBlock≠some q
 nt:tys.length≤1000
 nm:mks.length≤1000
section
variable {w w':World} {wb:Nat} {lv tv cv mv:Value} {tys:List (BA×Nat)} {mks:List MK} {f f':Fl}
theorem WD.ke (h:WD w wb lv tv cv mv tys mks f) (k:Ke wb w w') (b:Bx w' wb #[lv,tv,cv,mv,.int .i64 (f'.kind:Int),.int .i64 (f'.frm:Int),.int .i64 (f'.to:Int)]):WD w' wb lv tv cv mv tys mks f':=
 ⟨b,own_ke h.tr k (Nat.lt_succ_self _),own_ke h.co k (Nat.lt_succ_self _),own_ke h.mo k (Nat.lt_succ_self _),h.tc,h.tm,h.cm,h.nt,h.nm⟩
theorem WD.bel (h:WD w wb lv tv cv mv tys mks f) (k:Below w.heap.size w w'):WD w' wb lv tv cv mv tys mks f:=h.ke (Ke.of k) (h.bx.below k)
theorem WD.z (h:WD w wb lv tv cv mv tys mks f):wb<w.heap.size:=h.bx.z
theorem WD.ty (h:WD w wb lv tv cv mv tys mks f):∃ta tc ca cc,tv=.slice ta tys.length tc∧cv=.slice ca tys.length cc∧∀i (hi:i<tys.length),∃g q,ta=some ⟨g,0,none⟩∧ca=some ⟨q,0,none⟩∧w.cell? ⟨g,i,none⟩=some (.string tys[i].1)∧w.cell? ⟨q,i,none⟩=some (.int .i64 (tys[i].2:Int)):=by
 obtain ⟨ta,tc,e1⟩:=qck h.tr
 obtain ⟨ca,cc,e2⟩:=qck h.co
 refine ⟨ta,tc,ca,cc,e1,e2,fun i hi=>?_⟩
 obtain ⟨g,_,e3⟩:=qbq h.tr (by omega)
 obtain ⟨q,_,e4⟩:=qbq h.co (by omega)
 have ht:=h.tr
 have hc:=h.co
 rw [e3] at ht e1
 rw [e4] at hc e2
 injection e1 with e5
 injection e2 with e6
 exact ⟨g,q,e5.symm,e6.symm,by rw [qcf ht i (by omega)];simp [hi],by rw [qcf hc i (by omega)];simp [hi]⟩
theorem WD.mkr (h:WD w wb lv tv cv mv tys mks f):∃ma mc,mv=.slice ma mks.length mc∧∀i (hi:i<mks.length),∃g,ma=some ⟨g,0,none⟩∧∀j,j<10→w.cell? ⟨g,i*10+j,none⟩=(mks[i].l)[j]? :=by
 obtain ⟨ma,mc,e1⟩:=qck h.mo
 refine ⟨ma,mc,e1,fun i hi=>?_⟩
 obtain ⟨g,_,e3⟩:=qbq h.mo (by omega)
 have ht:=h.mo
 rw [e3] at ht e1
 injection e1 with e5
 exact ⟨g,e5.symm,fun j hj=>by rw [qcf ht _ (by omega),mkCells_at mks i j hi hj]⟩
abbrev wp (b:Nat):Value:=.pointer (some ⟨b,0,none⟩)
theorem Ke.set3f {a:World} (h:Ke wb a w) (v0 v1 v2:Value):Ke wb a (((w.setCell ⟨wb,4,none⟩ v0).setCell ⟨wb,5,none⟩ v1).setCell ⟨wb,6,none⟩ v2):=((h.set 4 v0).set 5 v1).set 6 v2
theorem qff (h:WD w wb lv tv cv mv tys mks f) (k a b:Nat):Calls Tryz.prog 149 #[wp wb,.int .i64 (k:Int),.int .i64 (a:Int),.int .i64 (b:Int)] w fun e w'=>e=.returned (.tuple #[])∧Ke wb w w'∧WD w' wb lv tv cv mv tys mks (tell k a b f):=by
 have H:=ai h
 obtain ⟨c,ff,z⟩:=h.bx
 clear h
 have yes:f.kind=0∨a<f.frm→WD (((w.setCell ⟨wb,4,none⟩ (.int .i64 (k:Int))).setCell ⟨wb,5,none⟩ (.int .i64 (a:Int))).setCell ⟨wb,6,none⟩ (.int .i64 (b:Int))) wb lv tv cv mv tys mks (tell k a b f):=fun q=>by
  unfold tell
  rw [if_pos q]
  exact (uh H).ke ((Ke.refl wb w).set3f _ _ _) ((((uh H).bx.setS 4 (.int .i64 (k:Int)) #[lv,tv,cv,mv,.int .i64 (k:Int),.int .i64 (f.frm:Int),.int .i64 (f.to:Int)] rfl (by simp)).setS 5 (.int .i64 (a:Int)) #[lv,tv,cv,mv,.int .i64 (k:Int),.int .i64 (a:Int),.int .i64 (f.to:Int)] rfl (by simp)).setS 6 (.int .i64 (b:Int)) _ rfl (by simp))
 have HY:=ai yes
 clear yes
 by_cases h0:f.kind=0
 ·have h0':((f.kind:Int)==0)=true:=by simp [h0]
  have HY2:=ai (uh HY (Or.inl h0))
  clear h0
  go_enter Tryz.func149,Tryz.ntmps149
  go_wp2_with fail
  go_end0
  exact ⟨rfl,(Ke.refl wb w).set3f _ _ _,uh HY2⟩
 ·have h0':((f.kind:Int)==0)=false:=by simp;omega
  by_cases h1:a<f.frm
  ·have h1':(a:Int)<(f.frm:Int):=by omega
   have HY2:=ai (uh HY (Or.inr h1))
   go_enter Tryz.func149,Tryz.ntmps149
   go_wp2_with fail
   go_end0
   exact ⟨rfl,(Ke.refl wb w).set3f _ _ _,uh HY2⟩
  ·have h1':decide ((a:Int)<(f.frm:Int))=false:=by simp;omega
   have e:tell k a b f=f:=by unfold tell;rw [if_neg (by omega)]
   rw [e]
   clear e HY
   go_enter Tryz.func149,Tryz.ntmps149
   go_wp2_with fail
   go_end0
   exact ⟨rfl,Ke.refl _ _,uh H⟩
def TyR (l:List (BA×Nat)) (s:BA) (w:World) (gk:Nat) (c:Value) (wr:World):Prop:=∃j:Nat,Hid (gk=l.length-j)∧j≤l.length∧c=.int .i64 (j:Int)∧Hid (tyL l s=tyL (l.drop j) s)∧wr=w
theorem typeOf_C (h:WD w wb lv tv cv mv tys mks f) (s:BA):Calls Tryz.prog 148 #[wp wb,.string s] w fun e w'=>e=.returned (.int .i64 (tyI (tyD tys s)))∧w'=w:=by
 obtain ⟨ta,tc,ca,cc,rfl,rfl,hc⟩:=h.ty
 obtain ⟨c,ff,z⟩:=h.bx
 have hnt:=h.nt
 clear h
 have HC:=ai hc
 clear hc
 obtain ⟨R,HR⟩:∃R,Hid (R=tyI (tyD tys s)):=⟨_,ai rfl⟩
 rw [←uh HR]
 have e1:(s.toList==[73,110,116])=decide (s=kInt):=by rw [←str_eq,show kInt.toList=[73,110,116] from qbz _]
 have e2:(s.toList==[66,111,111,108])=decide (s=kBool):=by rw [←str_eq,show kBool.toList=[66,111,111,108] from qbz _]
 have e3:(s.toList==[85,110,105,116])=decide (s=kUnit):=by rw [←str_eq,show kUnit.toList=[85,110,105,116] from qbz _]
 by_cases hi:s=kInt
 ·have hR:R=0:=by rw [uh HR];simp [tyD,hi,tyI]
  subst hR
  rw [decide_eq_true hi] at e1
  clear hi e2 e3
  go_enter Tryz.func148,Tryz.ntmps148
  go_wp2_with fail
  go_ret
  exact ⟨rfl,rfl⟩
 by_cases hb:s=kBool
 ·have hR:R=0:=by rw [uh HR];simp [tyD,hb,tyI]
  subst hR
  rw [decide_eq_false hi] at e1
  rw [decide_eq_true hb] at e2
  clear hi hb e3
  go_enter Tryz.func148,Tryz.ntmps148
  go_wp2_with fail
  go_ret
  exact ⟨rfl,rfl⟩
 by_cases hu:s=kUnit
 ·have hR:R=0:=by rw [uh HR];simp [tyD,hu,tyI]
  subst hR
  rw [decide_eq_false hi] at e1
  rw [decide_eq_false hb] at e2
  rw [decide_eq_true hu] at e3
  clear hi hb hu
  go_enter Tryz.func148,Tryz.ntmps148
  go_wp2_with fail
  go_ret
  exact ⟨rfl,rfl⟩
 have HR2:=ai (show R=tyI (tyL tys s) by rw [uh HR];simp [tyD,hi,hb,hu])
 rw [decide_eq_false hi] at e1
 rw [decide_eq_false hb] at e2
 rw [decide_eq_false hu] at e3
 clear hi hb hu HR
 go_enter Tryz.func148,Tryz.ntmps148
 go_wp2_with fail
 go_loopg [5] tys.length (fun gk c wr=>TyR tys s w gk c wr)
 case atStart=>exact ⟨0,ai rfl,Nat.zero_le _,rfl,ai rfl,rfl⟩
 case round=>
  obtain ⟨j,hgk,hj,rfl,hT,rfl⟩:=hrel
  by_cases hlt:j<tys.length
  ·have hd:(j:Int)<(tys.length:Int):=by omega
   obtain ⟨g,q,rfl,rfl,d1,d2⟩:=uh HC j hlt
   have hdr:tys.drop j=tys[j]::tys.drop (j+1):=List.drop_eq_getElem_cons hlt
   by_cases e:tys[j].1=s
   ·have hq:(tys[j].1.toList==s.toList)=true:=by rw [str_eq];simp [e]
    have hR:R=((tys[j].2:Nat):Int):=by rw [uh HR2,uh hT,hdr];simp [tyL,e,tyI]
    have HR3:=ai hR
    clear e hdr hR
    go_wp2_with fail
    go_ret
    exact ⟨by rw [uh HR3];rfl,rfl⟩
   ·have hq:(tys[j].1.toList==s.toList)=false:=by rw [str_eq];simp [e]
    have HT2:=ai (show tyL tys s=tyL (tys.drop (j+1)) s by rw [uh hT,hdr];simp [tyL,e])
    clear e hdr
    go_wp2_with fail
    go_roundg (tys.length-(j+1))
    case measure=>rw [uh hgk];omega
    case rel=>exact ⟨j+1,ai rfl,by omega,by go_num,HT2,rfl⟩
  ·have hd:decide ((j:Int)<(tys.length:Int))=false:=by simp;omega
   have hR:R= -1:=by rw [uh HR2,uh hT,List.drop_of_length_le (by omega)];rfl
   subst hR
   go_wp2_with fail
   go_ret
   exact ⟨rfl,rfl⟩
abbrev zMk:Array Value:=#[.string ⟨#[]⟩,.int .i64 0,.string ⟨#[]⟩,.int .i64 0,.slice none 0 0,.int .i64 0,.int .i64 0,.int .i64 0,.int .i64 0,.int .i64 0]
def MkFR (l:List MK) (s:BA) (w:World) (gk:Nat) (c:Value) (wr:World):Prop:=∃j:Nat,Hid (gk=l.length-j)∧j≤l.length∧c=.int .i64 (j:Int)∧Hid (mkF l s=mkF (l.drop j) s)∧wr=w.alloc (.cells zMk 307)
theorem maker_C (h:WD w wb lv tv cv mv tys mks f) (s:BA):Calls Tryz.prog 150 #[wp wb,.string s] w fun e w'=>∃m b,e=.returned (.tuple #[MK.v m,.bool b])∧Below w.heap.size w w'∧mkF mks s=if b then some m else none:=by
 have hb0:Below w.heap.size w (w.alloc (.cells zMk 307)):=bw _
 have B0:=ai (Bx.new w zMk 307)
 have h':=h.bel hb0
 have hnz:=h.z
 obtain ⟨ma,mc,rfl,hc⟩:=h'.mkr
 obtain ⟨c,ff,z⟩:=h'.bx
 have hnm:=h.nm
 clear h h'
 have HC:=ai hc
 clear hc
 obtain ⟨R,HR⟩:∃R,Hid (R=mkF mks s):=⟨_,ai rfl⟩
 rw [←uh HR]
 go_enter Tryz.func150,Tryz.ntmps150
 go_wp2_with fail
 go_loopg [6] mks.length (fun gk c wr=>MkFR mks s w gk c wr)
 case atStart=>exact ⟨0,ai rfl,Nat.zero_le _,rfl,ai rfl,rfl⟩
 case round=>
  obtain ⟨j,hgk,hj,rfl,hT,rfl⟩:=hrel
  obtain ⟨c4,f4,z4⟩:=uh B0
  by_cases hlt:j<mks.length
  ·have hd:(j:Int)<(mks.length:Int):=by omega
   obtain ⟨g,rfl,d⟩:=uh HC j hlt
   have hdr:mks.drop j=mks[j]::mks.drop (j+1):=List.drop_eq_getElem_cons hlt
   generalize mks[j]=m at d hdr
   have d0:=d 0 (by omega)
   have d1:=d 1 (by omega)
   have d2:=d 2 (by omega)
   have d3:=d 3 (by omega)
   have d4:=d 4 (by omega)
   have d5:=d 5 (by omega)
   have d6:=d 6 (by omega)
   have d7:=d 7 (by omega)
   have d8:=d 8 (by omega)
   have d9:=d 9 (by omega)
   simp [MK.l] at d0 d1 d2 d3 d4 d5 d6 d7 d8 d9
   by_cases e:m.nm=s
   ·have hq:(m.nm.toList==s.toList)=true:=by rw [str_eq];simp [e]
    have HR3:=ai (show R=some m by rw [uh HR,uh hT,hdr];simp [mkF,e])
    have B1:=ai (Bx.new w m.c 307)
    clear e hdr d
    go_wp2_with fail
    obtain ⟨c5,f5,z5⟩:=uh B1
    refine bodyPost_ret (v:=.tuple #[m.v,.bool true]) (by simp [results,Tryz.results150,go_sem,c5]) rfl ⟨m,true,rfl,bw _,uh HR3⟩
   ·have hq:(m.nm.toList==s.toList)=false:=by rw [str_eq];simp [e]
    have HT2:=ai (show mkF mks s=mkF (mks.drop (j+1)) s by rw [uh hT,hdr];simp [mkF,e])
    clear e hdr d
    go_wp2_with fail
    go_roundg (mks.length-(j+1))
    case measure=>rw [uh hgk];omega
    case rel=>exact ⟨j+1,ai rfl,by omega,by go_num,HT2,rfl⟩
  ·have hd:decide ((j:Int)<(mks.length:Int))=false:=by simp;omega
   have HR3:=ai (show R=none by rw [uh HR,uh hT,List.drop_of_length_le (by omega)];rfl)
   have B1:=B0
   go_wp2_with fail
   obtain ⟨c5,f5,z5⟩:=uh B1
   refine bodyPost_ret (v:=.tuple #[MK.no.v,.bool false]) (by simp [results,Tryz.results150,go_sem,c5,MK.no,NV.no]) rfl ⟨MK.no,false,rfl,hb0,uh HR3⟩
end
end
section
open Go Go.RowKit Un
mutual
theorem Nd.ind {P:Nd→Prop} (H:∀k s n L f t a,(∀x∈L,P x)→P (.mk k s n L f t a)):∀nd,P nd
 |.mk k s n L f t a=>H k s n L f t a (Nd.indL H L)
theorem Nd.indL {P:Nd→Prop} (H:∀k s n L f t a,(∀x∈L,P x)→P (.mk k s n L f t a)):∀L:List Nd,∀x∈L,P x
 |[]=>fun x hx=>absurd hx (by simp)
 |y::l=>fun x hx=>by
  rcases List.mem_cons.1 hx with h|h
  ·rw [h];exact Nd.ind H y
  ·exact Nd.indL H l x h
end
theorem ckTL_app (ty:BA→Option Nat) (own:List BA):∀(L M:List Nd) (z:Fl),ckTL ty own (L++M) z=ckTL ty own M (ckTL ty own L z)
 |[],_,_=>by rw [List.nil_append];unfold ckTL;rfl
 |x::l,M,z=>by
  rw [List.cons_append]
  show ckTL ty own (l++M) (ckT ty own x z)=ckTL ty own M (ckTL ty own l (ckT ty own x z))
  exact ckTL_app ty own l M _
theorem ckTL_take (ty:BA→Option Nat) (own:List BA) (L:List Nd) (z:Fl) (j:Nat) (h:j<L.length):ckTL ty own (L.take (j+1)) z=ckT ty own L[j] (ckTL ty own (L.take j) z):=by
 rw [List.take_succ_eq_append_getElem h,ckTL_app]
 rfl
def Sm (nd:Nd):Prop:=Ge 0 nd∧nn nd≤1000
theorem GeL.mem {lo:Nat}:∀{L:List Nd},GeL lo L→∀x∈L,Ge lo x
 |[],_,x,hx=>by simp at hx
 |y::l,g,x,hx=>by
  rcases List.mem_cons.1 hx with rfl|h
  ·exact g.1
  ·exact GeL.mem g.2 x h
theorem nnL_mem:∀{L:List Nd} {x:Nd},x∈L→nn x≤nnL L
 |y::l,x,hx=>by
  simp only [nnL]
  rcases List.mem_cons.1 hx with rfl|h
  ·omega
  ·have:=nnL_mem h;omega
theorem Sm.part {k:Nat} {s:BA} {n:Nat} {L:List Nd} {f t a:Nat} (h:Sm (.mk k s n L f t a)):∀x∈L,Sm x:=fun x hx=>by
 obtain ⟨h1,h2⟩:=h
 refine ⟨GeL.mem h1.2.2 x hx,?_⟩
 simp only [nn] at h2
 have:=nnL_mem hx
 omega
theorem Sm.len {k:Nat} {s:BA} {n:Nat} {L:List Nd} {f t a:Nat} (h:Sm (.mk k s n L f t a)):L.length≤1000∧f≤400∧a≤400∧s.size≤400:=by
 obtain ⟨h1,h2⟩:=h
 simp only [nn] at h2
 have:=nnL_len L
 exact ⟨by omega,h1.2.1⟩
theorem NR.keB {wb B:Nat} {w w':World} {nd:Nd} {x:NV} (h:NR w (·<B) nd x) (k:Ke wb w w') (hB:B≤wb):NR w' (·<B) nd x:=h.ke k fun b (p:b<B)=>by omega
theorem TokR.keB {wb B:Nat} {w w':World} {vp:Option Addr} {vs:List Pu.Tok} (h:TokR w (·<B) vp vs) (k:Ke wb w w') (hB:B≤wb):TokR w' (·<B) vp vs:=fun i hi=>by
 obtain ⟨g,h1,⟨h2,h2'⟩,h3,h4,h5⟩:=h i hi
 have h2'':g<B:=h2'
 have e:∀o,w'.cell? ⟨g,o,none⟩=w.cell? ⟨g,o,none⟩:=fun o=>k.cell h2 (by omega)
 exact ⟨g,h1,⟨Nat.lt_of_lt_of_le h2 k.size,h2'⟩,(e _).trans h3,(e _).trans h4,(e _).trans h5⟩
def LTC (nd:Nd):Prop:=∀(w:World) (wb B:Nat) (lv tv cv mv:Value) (tys:List (BA×Nat)) (mks:List MK) (z:Fl) (x:NV) (vp:Option Addr) (vc:Nat) (vs:List Pu.Tok),WD w wb lv tv cv mv tys mks z→B≤wb→NR w (·<B) nd x→TokR w (·<B) vp vs→vs.length≤1000→Sm nd→
 Calls Tryz.prog 151 #[wp wb,x.v,.slice vp vs.length vc] w fun e w'=>e=.returned (.tuple #[])∧Ke wb w w'∧WD w' wb lv tv cv mv tys mks (ckT (tyD tys) (vs.map (·.text)) nd z)
structure WX (wb xb:Nat) (x:NV) (lv tv cv mv:Value) (tys:List (BA×Nat)) (mks:List MK) (w0:World) (z:Fl) (wr:World):Prop where
 d:WD wr wb lv tv cv mv tys mks z
 k:Ke wb w0 wr
 b:Bx wr xb (nvA x)
theorem WX.bel {wb xb:Nat} {x:NV} {lv tv cv mv:Value} {tys:List (BA×Nat)} {mks:List MK} {w0:World} {z:Fl} {wr w':World} (h:WX wb xb x lv tv cv mv tys mks w0 z wr) (hb:Below wr.heap.size wr w'):WX wb xb x lv tv cv mv tys mks w0 z w':=⟨h.d.bel hb,h.k.below' hb,h.b.below hb⟩
theorem WX.ke {wb xb:Nat} {x:NV} {lv tv cv mv:Value} {tys:List (BA×Nat)} {mks:List MK} {w0:World} {z z':Fl} {wr w':World} (h:WX wb xb x lv tv cv mv tys mks w0 z wr) (hn:xb≠wb) (hk:Ke wb wr w') (d:WD w' wb lv tv cv mv tys mks z'):WX wb xb x lv tv cv mv tys mks w0 z' w':=⟨d,h.k.trans hk,h.b.ke hk hn⟩
def InR (wb xb:Nat) (x:NV) (lv tv cv mv:Value) (tys:List (BA×Nat)) (mks:List MK) (w0:World) (z:Fl) (own:List BA) (s:BA) (gk:Nat) (b c:Value) (wr:World):Prop:=∃j:Nat,Hid (gk=own.length-j)∧j≤own.length∧c=.int .i64 (j:Int)∧b=.bool (inL s (own.take j))∧WX wb xb x lv tv cv mv tys mks w0 z wr
theorem inL_take {own:List BA} {s:BA} {j:Nat} (h:j<own.length):inL s (own.take (j+1))=(inL s (own.take j)||decide (own[j]=s)):=by
 unfold inL
 rw [List.take_succ_eq_append_getElem h,List.any_append]
 simp only [List.any_cons,List.any_nil,Bool.or_false]
theorem WD.drewN {w:World} {wb:Nat} {lv tv cv mv:Value} {tys:List (BA×Nat)} {mks:List MK} {f:Fl} (h:WD w wb lv tv cv mv tys mks f) (n:Nat):WD (w.drewN n) wb lv tv cv mv tys mks f:=h.bel ((Below.refl _ _).drewN n)
theorem tyI_ne (o:Option Nat) (n:Nat):(tyI o !=(n:Int))=(o !=some n):=by
 cases o with
 |none=>
  have h1:((-1:Int) !=(n:Int))=true:=by simp
  exact h1
 |some m=>
  by_cases e:m=n
  ·subst e;simp [tyI]
  ·have h1:((m:Int) !=(n:Int))=true:=by simp;omega
   have h2:(some m !=some n)=true:=by simp [e]
   rw [h2];exact h1
def LTR (wb xb:Nat) (x:NV) (lv tv cv mv:Value) (tys:List (BA×Nat)) (mks:List MK) (w0:World) (z:Fl) (own:List BA) (L:List Nd) (gk:Nat) (c:Value) (wr:World):Prop:=∃j:Nat,Hid (gk=L.length-j)∧j≤L.length∧c=.int .i64 (j:Int)∧WX wb xb x lv tv cv mv tys mks w0 (ckTL (tyD tys) own (L.take j) z) wr
theorem looksType_C:∀nd,LTC nd:=by
 refine Nd.ind ?_
 intro k s n L f t a IH w wb B lv tv cv mv tys mks z x vp vc vs h hB hx hT hv hs
 have hwb:=h.z
 obtain ⟨hL,hf,ha,hsz⟩:=hs.len
 have HIH:=ai IH
 have HS:=ai hs.part
 have HW:=ai h
 have HX:=ai hx
 have HT:=ai hT
 obtain ⟨la,cap,rfl,-⟩:=hx.pts
 clear h IH hs hx hT
 have ho:(vs.map (·.text)).length=vs.length:=by simp
 have hsL:(s.size:Int)=s.toList.length:=by rw [ByteArray.toList_eq];rfl
 obtain ⟨own,hown⟩:∃own,Hid (own=vs.map (·.text)):=⟨_,ai rfl⟩
 rw [←uh hown] at ho⊢
 have hxw:w.heap.size≠wb:=by omega
 have X0:Hid (WX wb w.heap.size ⟨k,s,n,la,L.length,cap,f,t,a⟩ lv tv cv mv tys mks w z (w.alloc (.cells (nvA ⟨k,s,n,la,L.length,cap,f,t,a⟩) 62))):=ai ⟨(uh HW).bel (bw _),Ke.of (bw _),Bx.new _ _ _⟩
 obtain ⟨c0,f0,y0⟩:=(uh X0).b
 unfold NV.v
 clear HW
 obtain ⟨Z,HZ⟩:∃Z,Hid (Z=ckTL (tyD tys) own L (qas (k==2&&tyD tys s !=some L.length) 4 a (a+s.size) (qas (k==16&& !inL s own) 4 f (f+s.size) z))):=⟨_,ai rfl⟩
 rw [show ckT (tyD tys) own (.mk k s n L f t a) z=Z by rw [uh HZ];unfold ckT;rfl]
 go_enter Tryz.func151,Tryz.ntmps151
 go_upto_if 11 with (fail)
 go_cut [] from 9 (fun wc=>WX wb w.heap.size ⟨k,s,n,la,L.length,cap,f,t,a⟩ lv tv cv mv tys mks w (qas (k==16&& !inL s own) 4 f (f+s.size) z) wc)
 case first=>
  by_cases hk:k=16
  ·have hk':((k:Int)==16)=true:=by simp [hk]
   have HK:=ai hk
   clear hk
   go_wp2_with fail
   clear c0 f0 y0
   go_loopg [6,7] own.length (fun gk b c wr=>InR wb w.heap.size ⟨k,s,n,la,L.length,cap,f,t,a⟩ lv tv cv mv tys mks w z own s gk b c wr)
   case atStart=>exact ⟨0,ai rfl,Nat.zero_le _,rfl,rfl,uh X0⟩
   case round=>
    clear X0
    obtain ⟨j,hgk,hj,rfl,rfl,hX⟩:=hrel
    have XR:=ai hX
    clear hX
    obtain ⟨c1,f1,y1⟩:=(uh XR).b
    by_cases hlt:j<own.length
    ·have hd:(j:Int)<(vs.length:Int):=by omega
     obtain ⟨g,rfl,⟨hg,-⟩,d1,-,-⟩:=((uh HT).keB (uh XR).k hB) j (by omega)
     have e1:own[j]=vs[j].text:=by simp [uh hown]
     have HT2:=ai (inL_take (s:=s) hlt)
     rw [e1] at HT2
     generalize vs[j].text=oj at d1 HT2
     clear e1
     cases hin:inL s (own.take j) with
     |true=>
      rw [hin] at HT2
      clear hin
      go_wp2_with fail
      go_quiet (fail)
      go_wp2_with fail
      go_roundg (own.length-(j+1))
      case measure=>rw [uh hgk];omega
      case rel=>exact ⟨j+1,ai rfl,by omega,by go_num,by rw [uh HT2];rfl,(uh XR).bel ((Below.refl _ _).drewN _)⟩
     |false=>
      rw [hin] at HT2
      clear hin
      have HT3:Hid ((oj.toList==s.toList)=inL s (own.take (j+1))):=ai (by rw [str_eq,uh HT2];rfl)
      obtain ⟨bj,hbj⟩:∃b,(oj.toList==s.toList)=b:=⟨_,rfl⟩
      rw [hbj] at HT3
      go_wp2_with fail
      go_quiet (fail)
      go_wp2_with fail
      go_roundg (own.length-(j+1))
      case measure=>rw [uh hgk];omega
      case rel=>exact ⟨j+1,ai rfl,by omega,by go_num,by rw [←uh HT3],(uh XR).bel ((Below.refl _ _).drewN _)⟩
    ·have hd:decide ((j:Int)<(vs.length:Int))=false:=by simp;omega
     have he:own.take j=own:=List.take_of_length_le (by omega)
     rw [he]
     cases hin:inL s own with
     |true=>
      have XM:=ai (show WX wb w.heap.size ⟨k,s,n,la,L.length,cap,f,t,a⟩ lv tv cv mv tys mks w (qas (k==16&& !true) 4 f (f+s.size) z) wr by simp [qas];exact uh XR)
      go_wp2_with fail
      go_meet
      case rel=>rw [hin];exact uh XM
     |false=>
      have HC:=ai (qff (uh XR).d 4 f (f+s.size))
      have e4:((4:Nat):Int)=4:=rfl
      have e5:((f+s.size:Nat):Int)=(f:Int)+(s.toList.length:Int):=by rw [←hsL];simp
      rw [e4,e5] at HC
      have HT4:=ai (show qas (k==16&& !false) 4 f (f+s.size) z=tell 4 f (f+s.size) z by simp [qas,uh HK])
      go_wp2_with fail
      refine (uh HC).mono ?_
      rintro e w2 ⟨rfl,k2,d2⟩
      have X2:=ai ((uh XR).ke hxw k2 d2)
      clear k2 d2 HC
      go_wp2_with fail
      go_meet
      case rel=>rw [hin,uh HT4];exact uh X2
  ·have hk':((k:Int)==16)=false:=by simp;omega
   have XM:=ai (show WX wb w.heap.size ⟨k,s,n,la,L.length,cap,f,t,a⟩ lv tv cv mv tys mks w (qas (k==16&& !inL s own) 4 f (f+s.size) z) (w.alloc (.cells (nvA ⟨k,s,n,la,L.length,cap,f,t,a⟩) 62)) by simp [qas,hk];exact uh X0)
   go_wp2_with fail
   go_meet
   case rel=>exact uh XM
 case rest=>
  have X1:=ai hcut
  clear hcut X0 c0 f0 y0
  generalize qas (k==16&& !inL s own) 4 f (f+s.size) z=z1 at HZ X1
  obtain ⟨c1,f1,y1⟩:=(uh X1).b
  go_wp2_with fail
  go_cut [53] from 41 (fun v wc=>v=.bool (k==2&&tyD tys s !=some L.length)∧WX wb w.heap.size ⟨k,s,n,la,L.length,cap,f,t,a⟩ lv tv cv mv tys mks w z1 wc)
  case first=>
   by_cases hk2:k=2
   ·have hk2':((k:Int)==2)=true:=by simp [hk2]
    have HK:=ai (show (k==2&&tyD tys s !=some L.length)=(tyI (tyD tys s) !=(L.length:Int)) by rw [tyI_ne,hk2];rfl)
    clear hk2
    go_region_with (go_at_call 148;refine (typeOf_C ((uh X1).bel (Below.refl _ _).drew).d s).mono ?_;rintro e w2 ⟨rfl,rfl⟩)
    all_goals (
     go_wp2_with fail
     go_meet
     case rel=>exact ⟨by rw [uh HK],(uh X1).bel (Below.refl _ _).drew⟩)
   ·have hk2':((k:Int)==2)=false:=by simp;omega
    have HK:=ai (show (k==2&&tyD tys s !=some L.length)=false by simp [hk2])
    go_quiet (fail)
    go_wp2_with fail
    go_meet
    case rel=>exact ⟨by rw [uh HK],(uh X1).bel ((Below.refl _ _).drewN _)⟩
  case rest=>
   obtain ⟨rfl,hX⟩:=hcut
   have X2:=ai hX
   clear hX X1 c1 f1 y1
   obtain ⟨c1,f1,y1⟩:=(uh X2).b
   go_upto_if 53 with (fail)
   go_cut [] from 9 (fun wc=>WX wb w.heap.size ⟨k,s,n,la,L.length,cap,f,t,a⟩ lv tv cv mv tys mks w (qas (k==2&&tyD tys s !=some L.length) 4 a (a+s.size) z1) wc)
   case first=>
    cases hb:(k==2&&tyD tys s !=some L.length) with
    |true=>
     have HC:=ai (qff (uh X2).d 4 a (a+s.size))
     have e4:((4:Nat):Int)=4:=rfl
     have e5:((a+s.size:Nat):Int)=(a:Int)+(s.toList.length:Int):=by rw [←hsL];simp
     rw [e4,e5] at HC
     go_wp2_with fail
     refine (uh HC).mono ?_
     rintro e w2 ⟨rfl,k2,d2⟩
     have X3:=ai ((uh X2).ke hxw k2 d2)
     clear k2 d2 HC
     go_wp2_with fail
     go_meet
     case rel=>rw [hb];exact uh X3
    |false=>
     go_wp2_with fail
     go_meet
     case rel=>rw [hb];exact uh X2
   case rest=>
    have X3:=ai hcut
    clear hcut X2 c1 f1 y1
    generalize qas (k==2&&tyD tys s !=some L.length) 4 a (a+s.size) z1=z2 at HZ X3
    go_wp2_with fail
    go_loopg [8] L.length (fun gk c wr=>LTR wb w.heap.size ⟨k,s,n,la,L.length,cap,f,t,a⟩ lv tv cv mv tys mks w z2 own L gk c wr)
    case atStart=>exact ⟨0,ai rfl,Nat.zero_le _,rfl,uh X3⟩
    case round=>
     clear X3
     obtain ⟨j,hgk,hj,rfl,hX⟩:=hrel
     have XR:=ai hX
     clear hX
     obtain ⟨c1,f1,y1⟩:=(uh XR).b
     by_cases hlt:j<L.length
     ·have hd:(j:Int)<(L.length:Int):=by omega
      have hn:=(uh HX).keB (uh XR).k hB
      obtain ⟨la',cap',e1,hp⟩:=hn.pts
      injection e1 with _ _ _ e2 _ e3
      subst e2 e3
      obtain ⟨g,y,rfl,⟨hg,-⟩,h7,hy⟩:=hp j hlt
      obtain ⟨q0,q1,q2,q3,q4,q5,q6⟩:=qey h7
      have HC:=ai (uh HIH L[j] (List.getElem_mem hlt) wr wb B lv tv cv mv tys mks _ y vp vc vs (uh XR).d hB hy ((uh HT).keB (uh XR).k hB) hv (uh HS _ (List.getElem_mem hlt)))
      rw [←uh hown,←ckTL_take _ _ _ _ _ hlt] at HC
      unfold NV.v at HC
      clear hn hp h7 hy
      go_wp2_with fail
      refine (uh HC).mono ?_
      rintro e w2 ⟨rfl,k2,d2⟩
      have X4:=ai ((uh XR).ke hxw k2 d2)
      clear k2 d2 HC
      go_wp2_with fail
      go_roundg (L.length-(j+1))
      case measure=>rw [uh hgk];omega
      case rel=>exact ⟨j+1,ai rfl,by omega,by go_num,uh X4⟩
     ·have hd:decide ((j:Int)<(L.length:Int))=false:=by simp;omega
      have he:L.take j=L:=List.take_of_length_le (by omega)
      rw [he,←uh HZ] at XR
      go_wp2_with fail
      go_end0
      exact ⟨rfl,(uh XR).k,(uh XR).d⟩
end
section
open Go Go.RowKit Go.ChangeMaps
def OwnR (own:List BA) (F:BA→Option Nat):Prop:=∀s:BA,(∃r,s.toList=39::r)→(F (s.extract 1 s.size)).isSome=inL s own
theorem MV'.ke {w w':World} {v:Value} {F:BA→Option Nat} {cb:Nat} (h:MV' w v F) (k:Ke cb w w') (hn:∀b,v=.map (some b)→b≠cb):MV' w' v F:=by
 rcases h with h|⟨b,rfl,h⟩
 ·exact Or.inl h
 ·exact Or.inr ⟨b,rfl,h.ke k (hn b rfl)⟩
theorem MV'.bel {w w':World} {v:Value} {F:BA→Option Nat} (h:MV' w v F) (k:Below w.heap.size w w'):MV' w' v F:=by
 rcases h with h|⟨b,rfl,h⟩
 ·exact Or.inl h
 ·exact Or.inr ⟨b,rfl,h.below k⟩
structure CT (cb tb mb lb:Nat) (ty mk:BA→Option Nat) (lo:BA→Nat) (ov:Value) (F:BA→Option Nat) (w0:World) (f:Fl) (wr:World):Prop where
 d:CK wr cb tb mb lb ty mk lo f
 k:Ke cb w0 wr
 o:MV' wr ov F
 n:∀b,ov=.map (some b)→b≠cb
section
variable {cb tb mb lb B:Nat} {ty mk:BA→Option Nat} {lo:BA→Nat} {ov:Value} {F:BA→Option Nat} {w0 w wr w':World} {f f':Fl} {own:List BA}
theorem CT.bel (h:CT cb tb mb lb ty mk lo ov F w0 f wr) (hb:Below wr.heap.size wr w'):CT cb tb mb lb ty mk lo ov F w0 f w':=⟨h.d.bel hb,h.k.below' hb,h.o.bel hb,h.n⟩
theorem CT.ke (h:CT cb tb mb lb ty mk lo ov F w0 f wr) (hk:Ke cb wr w') (d:CK w' cb tb mb lb ty mk lo f'):CT cb tb mb lb ty mk lo ov F w0 f' w':=⟨d,h.k.trans hk,h.o.ke hk h.n,h.n⟩
theorem PT.keB {nd:Nd} {v:Value} (h:PT w (·<B) nd v) (k:Ke cb w w') (hB:B≤cb):PT w' (·<B) nd v:=h.ke k fun b (p:b<B)=>by omega
def PTC (nd:Nd):Prop:=∀(w:World) (cb tb mb lb B:Nat) (ty mk:BA→Option Nat) (lo:BA→Nat) (f:Fl) (v ov:Value) (F:BA→Option Nat) (own:List BA),CK w cb tb mb lb ty mk lo f→B≤cb→PT w (·<B) nd v→MV' w ov F→(∀b,ov=.map (some b)→b≠cb)→OwnR own F→Sm nd→
 Calls Tryz.prog 362 #[cp cb,v,ov] w fun e w'=>e=.returned (.tuple #[])∧Ke cb w w'∧CK w' cb tb mb lb ty mk lo (ckT ty own nd f)
def TSR (cb tb mb lb:Nat) (ty mk:BA→Option Nat) (lo:BA→Nat) (ov:Value) (F:BA→Option Nat) (w0:World) (f:Fl) (own:List BA) (L:List Nd) (gk:Nat) (c:Value) (wr:World):Prop:=∃j:Nat,Hid (gk=L.length-j)∧j≤L.length∧c=.int .i64 (j:Int)∧CT cb tb mb lb ty mk lo ov F w0 (ckTL ty own (L.take j) f) wr
theorem typesOf_P {L:List Nd} {sa:Option Addr} {sc:Nat} {vs:Nat→Value} (IH:∀x∈L,PTC x) (h:CK w cb tb mb lb ty mk lo f) (hB:B≤cb) (hrow:L=[]∨∃g,sa=some ⟨g,0,none⟩∧g<B∧g<w.heap.size∧∀i,i<L.length→w.cell? ⟨g,i,none⟩=some (vs i)) (hr:∀i (h:i<L.length),PT w (·<B) L[i] (vs i)) (ho:MV' w ov F) (hn:∀b,ov=.map (some b)→b≠cb) (hO:OwnR own F) (hS:∀x∈L,Sm x) (hL:L.length≤1000):
 Calls Tryz.prog 313 #[cp cb,.slice sa L.length sc,ov] w fun e w'=>e=.returned (.tuple #[])∧Ke cb w w'∧CK w' cb tb mb lb ty mk lo (ckTL ty own L f):=by
 have HIH:=ai IH
 have HR:=ai hr
 have HW:=ai hrow
 have HO:=ai hO
 have HS:=ai hS
 have X0:Hid (CT cb tb mb lb ty mk lo ov F w f w):=ai ⟨h,Ke.refl _ _,ho,hn⟩
 clear h hrow hr ho hO hS IH
 obtain ⟨Z,HZ⟩:∃Z,Hid (Z=ckTL ty own L f):=⟨_,ai rfl⟩
 rw [←uh HZ]
 go_enter Tryz.func313,Tryz.ntmps313
 go_wp2_with fail
 go_loopg [10] L.length (fun gk c wr=>TSR cb tb mb lb ty mk lo ov F w f own L gk c wr)
 case atStart=>exact ⟨0,ai rfl,Nat.zero_le _,rfl,uh X0⟩
 case round=>
  clear X0
  obtain ⟨j,hgk,hj,rfl,hX⟩:=hrel
  have XR:=ai hX
  clear hX
  by_cases hlt:j<L.length
  ·have hd:(j:Int)<(L.length:Int):=by omega
   obtain ⟨g,rfl,hgB,hgz,hc⟩:∃g,sa=some ⟨g,0,none⟩∧g<B∧g<w.heap.size∧∀i,i<L.length→w.cell? ⟨g,i,none⟩=some (vs i):=by
    rcases uh HW with e|e
    ·exact absurd hlt (by simp [e])
    ·exact e
   have hcj:=((uh XR).k.cell hgz (by omega)).trans (hc j hlt)
   have HC:=ai (uh HIH L[j] (List.getElem_mem hlt) _ cb tb mb lb B ty mk lo _ (vs j) ov F own (uh XR).d hB ((uh HR j hlt).keB (uh XR).k hB) (uh XR).o (uh XR).n (uh HO) (uh HS _ (List.getElem_mem hlt)))
   rw [←ckTL_take _ _ _ _ _ hlt] at HC
   clear hc
   go_wp2_with fail
   refine (uh HC).mono ?_
   rintro e w2 ⟨rfl,k2,d2⟩
   have X2:=ai ((uh XR).ke k2 d2)
   clear k2 d2 HC
   go_wp2_with fail
   go_roundg (L.length-(j+1))
   case measure=>rw [uh hgk];omega
   case rel=>exact ⟨j+1,ai rfl,by omega,by go_num,uh X2⟩
  ·have hd:decide ((j:Int)<(L.length:Int))=false:=by simp;omega
   have he:L.take j=L:=List.take_of_length_le (by omega)
   rw [he,←uh HZ] at XR
   go_wp2_with fail
   go_end0
   exact ⟨rfl,(uh XR).k,(uh XR).d⟩
theorem ckT_16 {ty:BA→Option Nat} {own:List BA} {s:BA} {n fr t a:Nat} {z:Fl}:ckT ty own (.mk 16 s n [] fr t a) z=qas (!inL s own) 4 fr (fr+s.size) z:=by
 unfold ckT
 rfl
theorem ckT_2 {ty:BA→Option Nat} {own:List BA} {s:BA} {n fr t a:Nat} {L:List Nd} {z:Fl}:ckT ty own (.mk 2 s n L fr t a) z=ckTL ty own L (qas (ty s !=some L.length) 4 a (a+s.size) z):=by
 conv=>lhs;unfold ckT
 rfl
theorem ckT_two {ty:BA→Option Nat} {own:List BA} {k:Nat} {s:BA} {n fr t a:Nat} {x y:Nd} {z:Fl} (hk:k=6∨k=17):ckT ty own (.mk k s n [x,y] fr t a) z=ckT ty own y (ckT ty own x z):=by
 rcases hk with rfl|rfl
 ·conv=>lhs;unfold ckT
  rfl
 ·conv=>lhs;unfold ckT
  rfl
theorem typeOf_P:∀nd,PTC nd:=by
 refine Nd.ind ?_
 intro k s n L fr t a IH w cb tb mb lb B ty mk lo f v ov F own h hB hx ho hn hO hs
 have HIH:=ai IH
 have HS:=ai hs.part
 obtain ⟨hL,hf4,ha4,hs4⟩:=hs.len
 have HO:=ai hO
 have X0:Hid (CT cb tb mb lb ty mk lo ov F w f w):=ai ⟨h,Ke.refl _ _,ho,hn⟩
 have HX:=ai hx
 have hcz:=h.z
 clear h IH hs ho hn hO
 cases hx with
 |var _ _ _ _ _ x y hq hx' hy'=>
  subst hx' hy'
  have ta:=toType_TypeVar_TypeVar
  have hbA:Below w.heap.size w (w.alloc (.cells #[.int .i64 (fr:Int),.int .i64 ((fr+s.size:Nat):Int),.string (s.extract 1 s.size)] 265)):=bw _
  have X1:=ai ((uh X0).bel hbA)
  have B1:=ai (Bx.new w #[.int .i64 (fr:Int),.int .i64 ((fr+s.size:Nat):Int),.string (s.extract 1 s.size)] 265)
  have HC:=ai (has_P (uh X1).o (s.extract 1 s.size))
  have HE:=ai (uh HO s hq)
  rw [ckT_16]
  obtain ⟨c1,f1,y1⟩:=uh B1
  clear hbA HX
  go_enter Tryz.func362,Tryz.ntmps362
  go_wp2_with fail
  refine (uh HC).mono ?_
  rintro e w1 ⟨rfl,rfl⟩
  rw [uh HE]
  cases hin:inL s own with
  |true=>
   go_wp2_with fail
   go_end0
   exact ⟨rfl,(uh X1).k,by rw [hin];exact (uh X1).d⟩
  |false=>
   have HC2:=ai (tell_P (uh X1).d 4 fr (fr+s.size))
   go_wp2_with fail
   refine (uh HC2).mono ?_
   rintro e w2 ⟨rfl,k2,d2⟩
   have X2:=ai ((uh X1).ke k2 d2)
   clear k2 d2 HC2 HC
   go_wp2_with fail
   go_end0
   exact ⟨rfl,(uh X2).k,by rw [hin];exact (uh X2).d⟩
 |fn _ _ p q _ _ _ x y va vb ha hb=>
  have ta0:=toType_Arrow_TypeVar
  have ta1:=toType_Arrow_Named
  have ta2:=toType_Arrow_TypePair
  have ta3:=toType_Arrow_Arrow
  obtain ⟨t1,x1,rfl⟩:=ha.iface
  obtain ⟨t2,x2,rfl⟩:=hb.iface
  have hbA:Below w.heap.size w (w.alloc (.cells #[.int .i64 x,.int .i64 y,.iface t1 (.agg x1),.iface t2 (.agg x2)] 267)):=bw _
  have X1:=ai ((uh X0).bel hbA)
  have B1:=ai (Bx.new w #[.int .i64 x,.int .i64 y,.iface t1 (.agg x1),.iface t2 (.agg x2)] 267)
  have HA:=ai (ha.bel hbA)
  have HB:=ai (hb.bel hbA)
  rw [ckT_two (Or.inr rfl)]
  have HC:=ai (uh HIH p (by simp) _ cb tb mb lb B ty mk lo f _ ov F own (uh X1).d hB (uh HA) (uh X1).o (uh X1).n (uh HO) (uh HS p (by simp)))
  obtain ⟨c1,f1,y1⟩:=uh B1
  clear hbA HX ha hb
  go_enter Tryz.func362,Tryz.ntmps362
  go_wp2_with fail
  refine (uh HC).mono ?_
  rintro e w2 ⟨rfl,k2,d2⟩
  have X2:=ai ((uh X1).ke k2 d2)
  have B2:=ai ((uh B1).ke' k2 (by omega))
  have HB2:=ai ((uh HB).keB k2 hB)
  obtain ⟨c2,f2,y2⟩:=uh B2
  have HC2:=ai (uh HIH q (by simp) _ cb tb mb lb B ty mk lo _ _ ov F own (uh X2).d hB (uh HB2) (uh X2).o (uh X2).n (uh HO) (uh HS q (by simp)))
  clear k2 d2 HC c1 f1 y1
  go_wp2_with fail
  refine (uh HC2).mono ?_
  rintro e w3 ⟨rfl,k3,d3⟩
  have X3:=ai ((uh X2).ke k3 d3)
  clear k3 d3 HC2
  go_wp2_with fail
  go_end0
  exact ⟨rfl,(uh X3).k,(uh X3).d⟩
 |pr _ _ p q _ _ _ x y va vb ha hb=>
  have ta0:=qfc
  have ta1:=toType_TypePair_Named
  have ta2:=qew
  obtain ⟨t1,x1,rfl⟩:=ha.iface
  obtain ⟨t2,x2,rfl⟩:=hb.iface
  have hbA:Below w.heap.size w (w.alloc (.cells #[.int .i64 x,.int .i64 y,.iface t1 (.agg x1),.iface t2 (.agg x2)] 269)):=bw _
  have X1:=ai ((uh X0).bel hbA)
  have B1:=ai (Bx.new w #[.int .i64 x,.int .i64 y,.iface t1 (.agg x1),.iface t2 (.agg x2)] 269)
  have HA:=ai (ha.bel hbA)
  have HB:=ai (hb.bel hbA)
  rw [ckT_two (Or.inl rfl)]
  have HC:=ai (uh HIH p (by simp) _ cb tb mb lb B ty mk lo f _ ov F own (uh X1).d hB (uh HA) (uh X1).o (uh X1).n (uh HO) (uh HS p (by simp)))
  obtain ⟨c1,f1,y1⟩:=uh B1
  clear hbA HX ha hb
  go_enter Tryz.func362,Tryz.ntmps362
  go_wp2_with fail
  refine (uh HC).mono ?_
  rintro e w2 ⟨rfl,k2,d2⟩
  have X2:=ai ((uh X1).ke k2 d2)
  have B2:=ai ((uh B1).ke' k2 (by omega))
  have HB2:=ai ((uh HB).keB k2 hB)
  obtain ⟨c2,f2,y2⟩:=uh B2
  have HC2:=ai (uh HIH q (by simp) _ cb tb mb lb B ty mk lo _ _ ov F own (uh X2).d hB (uh HB2) (uh X2).o (uh X2).n (uh HO) (uh HS q (by simp)))
  clear k2 d2 HC c1 f1 y1
  go_wp2_with fail
  refine (uh HC2).mono ?_
  rintro e w3 ⟨rfl,k3,d3⟩
  have X3:=ai ((uh X2).ke k3 d3)
  clear k3 d3 HC2
  go_wp2_with fail
  go_end0
  exact ⟨rfl,(uh X3).k,(uh X3).d⟩
 |up _ _ _ _ _ _ x y x' y' sa sc vs hu hrow hr hx' hy'=>
  subst hx'
  have HY:=ai hy'
  clear hy'
  have ta0:=toType_Named_TypeVar
  have ta1:=toType_Named_Named
  have hbA:Below w.heap.size w (w.alloc (.cells #[.int .i64 x,.int .i64 y,.int .i64 (a:Int),.int .i64 y',.string s,.slice sa L.length sc] 272)):=bw _
  have X1:=ai ((uh X0).bel hbA)
  have B1:=ai (Bx.new w #[.int .i64 x,.int .i64 y,.int .i64 (a:Int),.int .i64 y',.string s,.slice sa L.length sc] 272)
  have HR:=ai hr
  have HW:Hid (L=[]∨∃g,sa=some ⟨g,0,none⟩∧g<B∧g<w.heap.size∧∀i,i<L.length→w.cell? ⟨g,i,none⟩=some (vs i)):=ai hrow
  rw [ckT_2]
  obtain ⟨Z,HZ⟩:∃Z,Hid (Z=ckTL ty own L (qas (ty s !=some L.length) 4 a (a+s.size) f)):=⟨_,ai rfl⟩
  rw [←uh HZ]
  obtain ⟨c1,f1,y1⟩:=uh B1
  obtain ⟨c2,f2,y2⟩:=(uh X1).d.bx
  clear hbA HX hrow hr
  go_enter Tryz.func362,Tryz.ntmps362
  go_wp2_with fail
  go_cut [37] from 26 (fun v wc=>v=.bool (ty s !=some L.length)∧CT cb tb mb lb ty mk lo ov F w f wc∧Bx wc w.heap.size #[.int .i64 x,.int .i64 y,.int .i64 (a:Int),.int .i64 y',.string s,.slice sa L.length sc])
  case first=>
   have hnot:∀(x:Bool) (w:World),(Op.unary .not (.bool x)).run Tryz.prog w=.ok (.bool (!x)) w:=fun _ _=>rfl
   go_region_with (go_at_call 379;refine (takes_P (v:=.map (some tb)) (Or.inr ⟨tb,rfl,((uh X1).bel (Below.refl _ _).drew).d.t⟩) s L.length).mono ?_;rintro e w2 ⟨rfl,rfl⟩)
   all_goals (
    go_wp2_with fail
    go_meet
    case rel=>exact ⟨rfl,(uh X1).bel (Below.refl _ _).drew,(uh B1).drew'⟩)
  case rest=>
   obtain ⟨rfl,hX,hB2⟩:=hcut
   have X2:=ai hX
   have B2:=ai hB2
   clear hX hB2 X1 B1 c1 f1 y1 c2 f2 y2
   obtain ⟨c1,f1,y1⟩:=uh B2
   go_upto_if 37 with (fail)
   go_cut [] from 14 (fun wc=>CT cb tb mb lb ty mk lo ov F w (qas (ty s !=some L.length) 4 a (a+s.size) f) wc∧Bx wc w.heap.size #[.int .i64 x,.int .i64 y,.int .i64 (a:Int),.int .i64 y',.string s,.slice sa L.length sc])
   case first=>
    cases hb:(ty s !=some L.length) with
    |true=>
     have HC:=ai (tell_P (uh X2).d 4 a (a+s.size))
     rw [←uh HY] at HC
     go_wp2_with fail
     refine (uh HC).mono ?_
     rintro e w2 ⟨rfl,k2,d2⟩
     have X3:=ai ((uh X2).ke k2 d2)
     have B3:=ai ((uh B2).ke' k2 (by omega))
     clear k2 d2 HC
     go_wp2_with fail
     go_meet
     case rel=>rw [hb];exact ⟨uh X3,uh B3⟩
    |false=>
     go_wp2_with fail
     go_meet
     case rel=>rw [hb];exact ⟨uh X2,uh B2⟩
   case rest=>
    obtain ⟨hX,hB3⟩:=hcut
    have X3:=ai hX
    have B3:=ai hB3
    clear hX hB3 X2 B2 c1 f1 y1
    obtain ⟨c1,f1,y1⟩:=uh B3
    have HC:=ai (typesOf_P (sa:=sa) (sc:=sc) (vs:=vs) (own:=own) (fun x hx=>uh HIH x hx) (uh X3).d hB (by
     rcases uh HW with q|⟨g,e,q1,q2,q3⟩
     ·exact Or.inl q
     ·exact Or.inr ⟨g,e,q1,Nat.lt_of_lt_of_le q2 (uh X3).k.size,fun i hi=>((uh X3).k.cell q2 (by omega)).trans (q3 i hi)⟩) (fun i hi=>(uh HR i hi).keB (uh X3).k hB) (uh X3).o (uh X3).n (uh HO) (uh HS) hL)
    rw [←uh HZ] at HC
    go_wp2_with fail
    refine (uh HC).mono ?_
    rintro e w2 ⟨rfl,k2,d2⟩
    have X4:=ai ((uh X3).ke k2 d2)
    clear k2 d2 HC
    go_wp2_with fail
    go_end0
    exact ⟨rfl,(uh X4).k,(uh X4).d⟩
end
end
section
open Go Go.RowKit Un
theorem ckPL_app (mk:BA→Option Nat):∀(L M:List Nd) (q:List BA×Fl),ckPL mk (L++M) q=ckPL mk M (ckPL mk L q)
 |[],_,_=>by rw [List.nil_append];unfold ckPL;rfl
 |x::l,M,q=>by
  rw [List.cons_append]
  show ckPL mk (l++M) (ckP mk x q)=ckPL mk M (ckPL mk l (ckP mk x q))
  exact ckPL_app mk l M _
theorem ckPL_take (mk:BA→Option Nat) (L:List Nd) (q:List BA×Fl) (j:Nat) (h:j<L.length):ckPL mk (L.take (j+1)) q=ckP mk L[j] (ckPL mk (L.take j) q):=by
 rw [List.take_succ_eq_append_getElem h,ckPL_app]
 rfl
mutual
theorem ckP_len (mk:BA→Option Nat):∀(nd:Nd) (q:List BA×Fl),(ckP mk nd q).1.length≤q.1.length+nn nd
 |.mk k s n L f t a,q=>by
  unfold ckP
  split
  ·simp [nn]<;>omega
  ·have:=ckPL_len mk L (q.1,qas (k==2&&mk s !=some L.length) 5 a (a+s.size) q.2)
   simp only [nn] at this⊢
   omega
theorem ckPL_len (mk:BA→Option Nat):∀(L:List Nd) (q:List BA×Fl),(ckPL mk L q).1.length≤q.1.length+nnL L
 |[],q=>by unfold ckPL;simp [nnL]
 |x::l,q=>by
  unfold ckPL
  have h1:=ckP_len mk x q
  have h2:=ckPL_len mk l (ckP mk x q)
  simp only [nnL]
  omega
end
theorem nnL_take {L:List Nd} {j:Nat} (h:j<L.length):nnL (L.take j)+nn L[j]≤nnL L:=by
 have h1:nnL (L.take (j+1))=nnL (L.take j)+nn L[j]:=by
  rw [List.take_succ_eq_append_getElem h,nnL_app];simp [nnL]
 have h2:nnL (L.take (j+1))+nnL (L.drop (j+1))=nnL L:=by rw [←nnL_app,List.take_append_drop]
 omega
theorem mkD_ne {mks:List MK} {s:BA} {m:MK} {b:Bool} (h:mkF mks s=if b then some m else none) (n:Nat):(mkD mks s !=some n)=(!b||(m.x.ll:Int) !=(n:Int)):=by
 unfold mkD
 rw [h]
 cases b with
 |false=>rfl
 |true=>
  by_cases e:m.x.ll=n
  ·simp [e]
  ·have h1:((m.x.ll:Int) !=(n:Int))=true:=by simp;omega
   rw [h1];simp [e]
theorem mkD_some {mks:List MK} {s:BA} {m:MK} {b:Bool} (h:mkF mks s=if b then some m else none):(mkD mks s).isSome=b:=by
 unfold mkD
 rw [h]
 cases b<;>rfl
def LPC (nd:Nd):Prop:=∀(w:World) (wb B:Nat) (lv tv cv mv:Value) (tys:List (BA×Nat)) (mks:List MK) (z:Fl) (x:NV) (v:Value) (p:List BA),WD w wb lv tv cv mv tys mks z→B≤wb→NR w (·<B) nd x→NL w wb v p→p.length+nn nd≤1000→Sm nd→
 Calls Tryz.prog 153 #[wp wb,x.v,v] w fun e w'=>∃v',e=.returned v'∧Ke wb w w'∧NL w' wb v' (ckP (mkD mks) nd (p,z)).1∧WD w' wb lv tv cv mv tys mks (ckP (mkD mks) nd (p,z)).2
def LPR (wb xb:Nat) (x:NV) (lv tv cv mv:Value) (tys:List (BA×Nat)) (mks:List MK) (w0:World) (q:List BA×Fl) (L:List Nd) (gk:Nat) (v c:Value) (wr:World):Prop:=∃j:Nat,Hid (gk=L.length-j)∧j≤L.length∧c=.int .i64 (j:Int)∧NL wr wb v (ckPL (mkD mks) (L.take j) q).1∧WX wb xb x lv tv cv mv tys mks w0 (ckPL (mkD mks) (L.take j) q).2 wr
theorem looksPattern_C:∀nd,LPC nd:=by
 refine Nd.ind ?_
 intro k s n L f t a IH w wb B lv tv cv mv tys mks z x v p h hB hx hN hp hs
 have hwb:=h.z
 obtain ⟨hL,hf,ha,hsz⟩:=hs.len
 have HIH:=ai IH
 have HS:=ai hs.part
 have HW:=ai h
 have HX:=ai hx
 obtain ⟨la,cap,rfl,-⟩:=hx.pts
 have hsL:(s.size:Int)=s.toList.length:=by rw [ByteArray.toList_eq];rfl
 have hxw:w.heap.size≠wb:=by omega
 have hbA:Below w.heap.size w (w.alloc (.cells (nvA ⟨k,s,n,la,L.length,cap,f,t,a⟩) 62)):=bw _
 have X0:Hid (WX wb w.heap.size ⟨k,s,n,la,L.length,cap,f,t,a⟩ lv tv cv mv tys mks w z (w.alloc (.cells (nvA ⟨k,s,n,la,L.length,cap,f,t,a⟩) 62))):=ai ⟨(uh HW).bel hbA,Ke.of hbA,Bx.new _ _ _⟩
 have N0:=ai (hN.bel hbA)
 simp only [nn] at hp
 clear h IH hs hx hN HW hbA
 obtain ⟨c0,f0,y0⟩:=(uh X0).b
 unfold NV.v
 by_cases hk1:k=1
 ·have hk1':((k:Int)==1)=true:=by simp [hk1]
  have HR:=ai (show ckP (mkD mks) (.mk k s n L f t a) (p,z)=(p++[s],qas (inL s p) 5 f t z) by unfold ckP;simp [hk1])
  rw [uh HR]
  have HC:=ai (has_C (uh N0) (by omega) s)
  clear hk1 HR
  go_enter Tryz.func153,Tryz.ntmps153
  go_wp2_with fail
  refine (uh HC).mono ?_
  rintro e w1 ⟨rfl,rfl⟩
  cases hin:inL s p with
  |true=>
   have HC2:=ai (qff (uh X0).d 5 f t)
   have e4:((5:Nat):Int)=5:=rfl
   rw [e4] at HC2
   go_wp2_with fail
   refine (uh HC2).mono ?_
   rintro e w2 ⟨rfl,k2,d2⟩
   have X2:=ai ((uh X0).ke hxw k2 d2)
   have N2:=ai ((uh N0).ke k2)
   have HC3:=ai (and_C (uh N2) (uh X2).d.z (by omega) s)
   obtain ⟨c2,f2,y2⟩:=(uh X2).b
   clear k2 d2 HC2 HC c0 f0 y0
   go_wp2_with fail
   refine (uh HC3).mono ?_
   rintro e w3 ⟨v3,rfl,b3,n3⟩
   have X3:=ai ((uh X2).bel b3)
   have N3:=ai n3
   clear b3 n3 c2 f2 y2
   go_wp2_with fail
   go_ret
   exact ⟨_,rfl,(uh X3).k,uh N3,by rw [hin];exact (uh X3).d⟩
  |false=>
   have HC3:=ai (and_C (uh N0) (uh X0).d.z (by omega) s)
   clear HC
   go_wp2_with fail
   refine (uh HC3).mono ?_
   rintro e w3 ⟨v3,rfl,b3,n3⟩
   have X3:=ai ((uh X0).bel b3)
   have N3:=ai n3
   clear b3 n3 c0 f0 y0
   go_wp2_with fail
   go_ret
   exact ⟨_,rfl,(uh X3).k,uh N3,by rw [hin];exact (uh X3).d⟩
 have hk1':((k:Int)==1)=false:=by simp;omega
 obtain ⟨Z,HZ⟩:∃Z,Hid (Z=ckPL (mkD mks) L (p,qas (k==2&&mkD mks s !=some L.length) 5 a (a+s.size) z)):=⟨_,ai rfl⟩
 rw [show ckP (mkD mks) (.mk k s n L f t a) (p,z)=Z by rw [uh HZ];unfold ckP;simp [hk1]]
 clear hk1
 go_enter Tryz.func153,Tryz.ntmps153
 go_upto_if 31 with (fail)
 go_cut [] from 11 (fun wc=>WX wb w.heap.size ⟨k,s,n,la,L.length,cap,f,t,a⟩ lv tv cv mv tys mks w (qas (k==2&&mkD mks s !=some L.length) 5 a (a+s.size) z) wc∧NL wc wb v p)
 case first=>
  by_cases hk2:k=2
  ·have hk2':((k:Int)==2)=true:=by simp [hk2]
   have HC:=ai (maker_C (uh X0).d s)
   have HK:=ai hk2
   clear hk2
   go_wp2_with fail
   refine (uh HC).mono ?_
   rintro e w1 ⟨m,b,rfl,b1,hm⟩
   have hb2:Below w1.heap.size w1 (w1.alloc (.cells m.c 307)):=bw _
   have X2:=ai (((uh X0).bel b1).bel hb2)
   have N2:=ai (((uh N0).bel b1).bel hb2)
   have M2:=ai (Bx.new w1 m.c 307)
   have HM:=ai (mkD_ne hm L.length)
   obtain ⟨c2,f2,y2⟩:=(uh X2).b
   obtain ⟨c3,f3,y3⟩:=(uh M2)
   clear HC b1 hm hb2 c0 f0 y0
   cases hb:(!b||(m.x.ll:Int) !=(L.length:Int)) with
   |true=>
    rw [hb] at HM
    have HT:=ai (show qas (k==2&&mkD mks s !=some L.length) 5 a (a+s.size) z=tell 5 a (a+s.size) z by rw [uh HM,uh HK];rfl)
    have HC:=ai (qff (uh X2).d 5 a (a+s.size))
    have e4:((5:Nat):Int)=5:=rfl
    have e5:((a+s.size:Nat):Int)=(a:Int)+(s.toList.length:Int):=by rw [←hsL];simp
    rw [e4,e5] at HC
    cases b with
    |false=>
     go_wp2_with fail
     refine (uh HC).mono ?_
     rintro e w2 ⟨rfl,k2,d2⟩
     have X3:=ai ((uh X2).ke hxw k2 d2)
     have N3:=ai ((uh N2).ke k2)
     clear k2 d2 HC
     go_wp2_with fail
     go_meet
     case rel=>rw [uh HT];exact ⟨uh X3,uh N3⟩
    |true=>
     have hb':((m.x.ll:Int) !=(L.length:Int))=true:=by simpa using hb
     clear hb
     go_wp2_with fail
     refine (uh HC).mono ?_
     rintro e w2 ⟨rfl,k2,d2⟩
     have X3:=ai ((uh X2).ke hxw k2 d2)
     have N3:=ai ((uh N2).ke k2)
     clear k2 d2 HC
     go_wp2_with fail
     go_meet
     case rel=>rw [uh HT];exact ⟨uh X3,uh N3⟩
   |false=>
    rw [hb] at HM
    have HT:=ai (show qas (k==2&&mkD mks s !=some L.length) 5 a (a+s.size) z=z by rw [uh HM,uh HK];rfl)
    cases b with
    |false=>simp at hb
    |true=>
     have hb':((m.x.ll:Int) !=(L.length:Int))=false:=by simpa using hb
     clear hb
     go_wp2_with fail
     go_meet
     case rel=>rw [uh HT];exact ⟨uh X2,uh N2⟩
  ·have hk2':((k:Int)==2)=false:=by simp;omega
   have HT:=ai (show qas (k==2&&mkD mks s !=some L.length) 5 a (a+s.size) z=z by simp [qas,hk2])
   go_wp2_with fail
   go_meet
   case rel=>rw [uh HT];exact ⟨uh X0,uh N0⟩
 case rest=>
  obtain ⟨hX,hN⟩:=hcut
  have X1:=ai hX
  have N1:=ai hN
  clear hX hN X0 N0 c0 f0 y0
  generalize qas (k==2&&mkD mks s !=some L.length) 5 a (a+s.size) z=z2 at HZ X1
  go_wp2_with fail
  go_loopg [2,10] L.length (fun gk v c wr=>LPR wb w.heap.size ⟨k,s,n,la,L.length,cap,f,t,a⟩ lv tv cv mv tys mks w (p,z2) L gk v c wr)
  case atStart=>exact ⟨0,ai rfl,Nat.zero_le _,rfl,uh N1,uh X1⟩
  case round=>
   clear X1 N1
   obtain ⟨j,hgk,hj,rfl,hN,hX⟩:=hrel
   have XR:=ai hX
   have NR':=ai hN
   clear hX hN
   obtain ⟨c1,f1,y1⟩:=(uh XR).b
   by_cases hlt:j<L.length
   ·have hd:(j:Int)<(L.length:Int):=by omega
    have hn:=(uh HX).keB (uh XR).k hB
    obtain ⟨la',cap',e1,hp'⟩:=hn.pts
    injection e1 with _ _ _ e2 _ e3
    subst e2 e3
    obtain ⟨g,y,rfl,⟨hg,-⟩,h7,hy⟩:=hp' j hlt
    obtain ⟨q0,q1,q2,q3,q4,q5,q6⟩:=qey h7
    have hlen:(ckPL (mkD mks) (L.take j) (p,z2)).1.length+nn L[j]≤1000:=by
     have:=ckPL_len (mkD mks) (L.take j) (p,z2)
     have:=nnL_take hlt
     simp only at*
     omega
    have HC:=ai (uh HIH L[j] (List.getElem_mem hlt) wr wb B lv tv cv mv tys mks _ y _ _ (uh XR).d hB hy (uh NR') hlen (uh HS _ (List.getElem_mem hlt)))
    rw [←ckPL_take _ _ _ _ hlt] at HC
    unfold NV.v at HC
    clear hn hp' h7 hy hlen
    go_wp2_with fail
    refine (uh HC).mono ?_
    rintro e w2 ⟨v2,rfl,k2,n2,d2⟩
    have X4:=ai ((uh XR).ke hxw k2 d2)
    have N4:=ai n2
    clear k2 d2 n2 HC
    go_wp2_with fail
    go_roundg (L.length-(j+1))
    case measure=>rw [uh hgk];omega
    case rel=>exact ⟨j+1,ai rfl,by omega,by go_num,uh N4,uh X4⟩
   ·have hd:decide ((j:Int)<(L.length:Int))=false:=by simp;omega
    have he:L.take j=L:=List.take_of_length_le (by omega)
    rw [he,←uh HZ] at XR NR'
    go_wp2_with fail
    go_ret
    exact ⟨_,rfl,(uh XR).k,uh NR',(uh XR).d⟩
end
section
open Go Go.RowKit Un
theorem NR.at' {w:World} {B:Nat} {k:Nat} {s:BA} {n:Nat} {L:List Nd} {f t a g lc ll:Nat} {k' n' f' t' a':Int} {s':BA} (h:NR w (·<B) (.mk k s n L f t a) ⟨k',s',n',some ⟨g,0,none⟩,ll,lc,f',t',a'⟩) (i:Nat) (hi:i<L.length):∃y,at7 w g i y∧NR w (·<B) L[i] y∧g<w.heap.size:=by
 obtain ⟨la,cap,e,hp⟩:=h.pts
 obtain ⟨g',y,e1,⟨hg,-⟩,h7,hy⟩:=hp i hi
 injection e with _ _ _ e2
 rw [e1] at e2
 cases e2
 exact ⟨y,h7,hy,hg⟩
def LEC (nd:Nd):Prop:=∀(w:World) (wb B:Nat) (lv tv cv mv:Value) (tys:List (BA×Nat)) (mks:List MK) (z:Fl) (x:NV) (v:Value) (l:List BA),WD w wb lv tv cv mv tys mks z→B≤wb→NR w (·<B) nd x→NL w wb v l→l.length+nn nd≤1000→Sm nd→
 Calls Tryz.prog 85 #[wp wb,x.v,v] w fun e w'=>e=.returned (.tuple #[])∧Ke wb w w'∧WD w' wb lv tv cv mv tys mks (ckE (tyD tys) (mkD mks) nd l z)
section
variable {s:BA} {n f t a:Nat} {ty mk:BA→Option Nat} {l:List BA} {z:Fl}
theorem ckE_9 {u:Nd}:ckE ty mk (.mk 9 s n [u] f t a) l z=ckE ty mk u (l++[s]) z:=by
 conv=>lhs;unfold ckE
 rfl
theorem ckE_10 {u v:Nd}:ckE ty mk (.mk 10 s n [u,v] f t a) l z=ckE ty mk v (l++[s]) (ckE ty mk u l z):=by
 conv=>lhs;unfold ckE
 rfl
theorem ckE_11 {u v:Nd}:ckE ty mk (.mk 11 s n [u,v] f t a) l z=ckE ty mk v (l++[s]) (ckE ty mk u (l++[s]) z):=by
 conv=>lhs;unfold ckE
 rfl
theorem ckE_14 {u v:Nd}:ckE ty mk (.mk 14 s n [u,v] f t a) l z=ckT ty [] v (ckE ty mk u l z):=by
 conv=>lhs;unfold ckE
 rfl
theorem ckE_13 {u:Nd} {L:List Nd}:ckE ty mk (.mk 13 s n (u::L) f t a) l z=ckEA ty mk L l (ckE ty mk u l z):=by
 conv=>lhs;unfold ckE
 rfl
theorem ckE_0 {k:Nat} {L:List Nd} (hk:k≠1∧k≠2∧k≠9∧k≠10∧k≠11∧k≠13∧k≠14):ckE ty mk (.mk k s n L f t a) l z=ckEL ty mk L l z:=by
 conv=>lhs;unfold ckE
 simp [hk]
end
section
variable {s:BA} {n f t a:Nat}
theorem looks_1:LEC (.mk 1 s n [] f t a):=by
 intro w wb B lv tv cv mv tys mks z x v l h hB hx hN hl hs
 have hwb:=h.z
 obtain ⟨la,lc,rfl,-⟩:=hx.pts
 have hxw:w.heap.size≠wb:=by omega
 have hbA:Below w.heap.size w (w.alloc (.cells (nvA ⟨1,s,n,la,0,lc,f,t,a⟩) 62)):=bw _
 have X0:Hid (WX wb w.heap.size ⟨1,s,n,la,0,lc,f,t,a⟩ lv tv cv mv tys mks w z (w.alloc (.cells (nvA ⟨1,s,n,la,0,lc,f,t,a⟩) 62))):=ai ⟨h.bel hbA,Ke.of hbA,Bx.new _ _ _⟩
 have HC:=ai (has_C (hN.bel hbA) (by simp only [nn] at hl;omega) s)
 have HR:=ai (show ckE (tyD tys) (mkD mks) (.mk 1 s n [] f t a) l z=qas (!inL s l) 5 f t z by unfold ckE;rfl)
 rw [uh HR]
 clear h hx hN hs hbA HR
 obtain ⟨c0,f0,y0⟩:=(uh X0).b
 unfold NV.v
 go_enter Tryz.func85,Tryz.ntmps85
 go_wp2_with fail
 refine (uh HC).mono ?_
 rintro e w1 ⟨rfl,rfl⟩
 cases hin:inL s l with
 |true=>
  go_wp2_with fail
  go_end0
  exact ⟨rfl,(uh X0).k,by rw [hin];exact (uh X0).d⟩
 |false=>
  have HC2:=ai (qff (uh X0).d 5 f t)
  have e4:((5:Nat):Int)=5:=rfl
  rw [e4] at HC2
  go_wp2_with fail
  refine (uh HC2).mono ?_
  rintro e w2 ⟨rfl,k2,d2⟩
  have X2:=ai ((uh X0).ke hxw k2 d2)
  clear k2 d2 HC2 HC c0 f0 y0
  go_wp2_with fail
  go_end0
  exact ⟨rfl,(uh X2).k,by rw [hin];exact (uh X2).d⟩
theorem looks_2:LEC (.mk 2 s n [] f t a):=by
 intro w wb B lv tv cv mv tys mks z x v l h hB hx hN hl hs
 have hwb:=h.z
 obtain ⟨la,lc,rfl,-⟩:=hx.pts
 have hxw:w.heap.size≠wb:=by omega
 have hbA:Below w.heap.size w (w.alloc (.cells (nvA ⟨2,s,n,la,0,lc,f,t,a⟩) 62)):=bw _
 have X0:Hid (WX wb w.heap.size ⟨2,s,n,la,0,lc,f,t,a⟩ lv tv cv mv tys mks w z (w.alloc (.cells (nvA ⟨2,s,n,la,0,lc,f,t,a⟩) 62))):=ai ⟨h.bel hbA,Ke.of hbA,Bx.new _ _ _⟩
 have HC:=ai (maker_C (uh X0).d s)
 have HR:=ai (show ckE (tyD tys) (mkD mks) (.mk 2 s n [] f t a) l z=qas (mkD mks s).isNone 5 f t z by unfold ckE;rfl)
 rw [uh HR]
 clear h hx hN hs hbA HR
 obtain ⟨c0,f0,y0⟩:=(uh X0).b
 unfold NV.v
 go_enter Tryz.func85,Tryz.ntmps85
 go_wp2_with fail
 refine (uh HC).mono ?_
 rintro e w1 ⟨m,b,rfl,b1,hm⟩
 have hb2:Below w1.heap.size w1 (w1.alloc (.cells m.c 307)):=bw _
 have X2:=ai (((uh X0).bel b1).bel hb2)
 have M2:=ai (Bx.new w1 m.c 307)
 have HM:=ai (show (mkD mks s).isNone= !b by rw [←mkD_some hm];cases mkD mks s<;>rfl)
 obtain ⟨c2,f2,y2⟩:=(uh X2).b
 clear HC b1 hm hb2 c0 f0 y0
 cases b with
 |true=>
  go_wp2_with fail
  go_end0
  exact ⟨rfl,(uh X2).k,by rw [uh HM];exact (uh X2).d⟩
 |false=>
  have HC2:=ai (qff (uh X2).d 5 f t)
  have e4:((5:Nat):Int)=5:=rfl
  rw [e4] at HC2
  go_wp2_with fail
  refine (uh HC2).mono ?_
  rintro e w2 ⟨rfl,k2,d2⟩
  have X3:=ai ((uh X2).ke hxw k2 d2)
  clear k2 d2 HC2 c2 f2 y2
  go_wp2_with fail
  go_end0
  exact ⟨rfl,(uh X3).k,by rw [uh HM];exact (uh X3).d⟩
theorem looks_9 {u:Nd} (Hu:LEC u):LEC (.mk 9 s n [u] f t a):=by
 intro w wb B lv tv cv mv tys mks z x v l h hB hx hN hl hs
 have hwb:=h.z
 have HS:=ai (hs.part u (by simp))
 obtain ⟨la,lc,rfl,hp⟩:=hx.pts
 obtain ⟨g,y0',rfl,⟨hg,-⟩,r0,n0⟩:=hp 0 (by simp)
 have hxw:w.heap.size≠wb:=by omega
 have hbA:Below w.heap.size w (w.alloc (.cells (nvA ⟨9,s,n,some ⟨g,0,none⟩,1,lc,f,t,a⟩) 62)):=bw _
 have X0:Hid (WX wb w.heap.size ⟨9,s,n,some ⟨g,0,none⟩,1,lc,f,t,a⟩ lv tv cv mv tys mks w z (w.alloc (.cells (nvA ⟨9,s,n,some ⟨g,0,none⟩,1,lc,f,t,a⟩) 62))):=ai ⟨h.bel hbA,Ke.of hbA,Bx.new _ _ _⟩
 have N0:=ai (hN.bel hbA)
 have R0:=ai r0
 have P0:=ai n0
 have HR:=ai (show ckE (tyD tys) (mkD mks) (.mk 9 s n [u] f t a) l z=ckE (tyD tys) (mkD mks) u (l++[s]) z from ckE_9)
 rw [uh HR]
 simp only [nn,nnL] at hl
 clear h hx hN hs HR hp n0 r0
 obtain ⟨c0,f0,y0⟩:=(uh X0).b
 obtain ⟨q0,q1,q2,q3,q4,q5,q6⟩:=qey (at7_b (uh R0) hbA hg)
 simp only [Nat.zero_mul,Nat.zero_add,Nat.one_mul,Nat.reduceMul,Nat.reduceAdd] at q0 q1 q2 q3 q4 q5 q6
 have HB:=ai hbA
 clear hbA
 unfold NV.v
 go_enter Tryz.func85,Tryz.ntmps85
 go_wp2_with fail
 go_region_with (first
  |(go_at_call 86;refine (and_C ((uh N0).bel (Below.refl _ _).drew) (by have:=(uh X0).d.z;exact this) (by omega) s).mono ?_;rintro e w1 ⟨v1,rfl,b1,n1⟩;have hb:=(Below.refl _ _).drew.trans (b1.mono (br _));have X1:=ai ((uh X0).bel hb);have N1:=ai n1;have P1:=ai (((uh P0).bel (uh HB)).bel hb);obtain ⟨p0,p1,p2,p3,p4,p5,p6⟩:=qey (at7_b (at7_b (uh R0) (uh HB) hg) hb (Nat.lt_of_lt_of_le hg (uh HB).size));simp only [Nat.zero_mul,Nat.zero_add,Nat.one_mul,Nat.reduceMul,Nat.reduceAdd] at p0 p1 p2 p3 p4 p5 p6;obtain ⟨c1,f1,z1⟩:=(uh X1).b;clear hb b1 n1)
  |(go_at_call 85;refine (Hu _ wb B lv tv cv mv tys mks z y0' v1 (l++[s]) (uh X1).d hB (uh P1) (uh N1) (by simp;omega) (uh HS)).mono ?_;rintro e w2 ⟨rfl,k2,d2⟩;have X2:=ai ((uh X1).ke hxw k2 d2);clear k2 d2))
 all_goals (
  go_wp2_with fail
  go_end0
  exact ⟨rfl,(uh X2).k,(uh X2).d⟩)
end
end
section
open Go Go.RowKit Un
theorem ckEL_app (ty mk:BA→Option Nat) (l:List BA):∀(L M:List Nd) (z:Fl),ckEL ty mk (L++M) l z=ckEL ty mk M l (ckEL ty mk L l z)
 |[],_,_=>by rw [List.nil_append];conv=>rhs;arg 5;unfold ckEL
 |x::r,M,z=>by
  rw [List.cons_append]
  have h1:∀N z,ckEL ty mk (x::N) l z=ckEL ty mk N l (ckE ty mk x l z):=fun N z=>by conv=>lhs;unfold ckEL
  rw [h1,h1]
  exact ckEL_app ty mk l r M _
theorem ckEL_take (ty mk:BA→Option Nat) (l:List BA) (L:List Nd) (z:Fl) (j:Nat) (h:j<L.length):ckEL ty mk (L.take (j+1)) l z=ckE ty mk L[j] l (ckEL ty mk (L.take j) l z):=by
 rw [List.take_succ_eq_append_getElem h,ckEL_app]
 conv=>lhs;unfold ckEL
 conv=>lhs;unfold ckEL
theorem armN_len':∀A:List (Nd×Nd),(armN A).length=2*A.length
 |[]=>rfl
 |p::r=>by have:=armN_len' r;simp [armN,this];omega
theorem armN_at:∀(A:List (Nd×Nd)) (j:Nat) (h:j<A.length),(armN A)[2*j]? =some A[j].1∧(armN A)[2*j+1]? =some A[j].2
 |[],j,h=>by simp at h
 |p::r,0,h=>by simp [armN]
 |p::r,j+1,h=>by
  have:=armN_at r j (by simpa using h)
  have e1:2*(j+1)=2*j+2:=by omega
  simp only [armN,e1,List.getElem_cons_succ]
  exact ⟨by simpa using this.1,by simpa using this.2⟩
theorem armN_nn:∀(A:List (Nd×Nd)) (j:Nat) (h:j<A.length),nn A[j].1+nn A[j].2≤nnL (armN A)
 |p::r,0,h=>by simp [armN,nnL]<;>omega
 |p::r,j+1,h=>by
  have:=armN_nn r j (by simpa using h)
  simp only [armN,nnL,List.getElem_cons_succ]
  omega
theorem armN_in:∀(A:List (Nd×Nd)) (j:Nat) (h:j<A.length),A[j].1∈armN A∧A[j].2∈armN A
 |p::r,0,h=>by simp [armN]
 |p::r,j+1,h=>by
  have:=armN_in r j (by simpa using h)
  simp only [armN,List.getElem_cons_succ,List.mem_cons]
  exact ⟨Or.inr (Or.inr this.1),Or.inr (Or.inr this.2)⟩
def ckArm (ty mk:BA→Option Nat) (l:List BA) (z:Fl) (p:Nd×Nd):Fl:=ckE ty mk p.2 (l++(ckP mk p.1 ([],z)).1) (ckP mk p.1 ([],z)).2
def ckAs (ty mk:BA→Option Nat) (l:List BA) (A:List (Nd×Nd)) (z:Fl):Fl:=A.foldl (ckArm ty mk l) z
theorem ckEA_as (ty mk:BA→Option Nat) (l:List BA):∀(A:List (Nd×Nd)) (z:Fl),ckEA ty mk (armN A) l z=ckAs ty mk l A z
 |[],z=>by
  show ckEA ty mk [] l z=z
  conv=>lhs;unfold ckEA
 |p::r,z=>by
  have h1:ckEA ty mk (armN (p::r)) l z=ckEA ty mk (armN r) l (ckArm ty mk l z p):=by
   show ckEA ty mk (p.1::p.2::armN r) l z=_
   conv=>lhs;unfold ckEA
   conv=>lhs;unfold ckEB
   rfl
  rw [h1,ckEA_as ty mk l r]
  rfl
theorem ckAs_take (ty mk:BA→Option Nat) (l:List BA) (A:List (Nd×Nd)) (z:Fl) (j:Nat) (h:j<A.length):ckAs ty mk l (A.take (j+1)) z=ckArm ty mk l (ckAs ty mk l (A.take j) z) A[j]:=by
 unfold ckAs
 rw [List.take_succ_eq_append_getElem h,List.foldl_append]
 rfl
def LER (wb xb:Nat) (x:NV) (lv tv cv mv:Value) (tys:List (BA×Nat)) (mks:List MK) (w0:World) (v:Value) (l:List BA) (z:Fl) (L:List Nd) (gk:Nat) (c:Value) (wr:World):Prop:=∃j:Nat,Hid (gk=L.length-j)∧j≤L.length∧c=.int .i64 (j:Int)∧NL wr wb v l∧WX wb xb x lv tv cv mv tys mks w0 (ckEL (tyD tys) (mkD mks) (L.take j) l z) wr
section
variable {s:BA} {n f t a:Nat}
theorem looks_0 {k:Nat} {L:List Nd} (hk:k≠1∧k≠2∧k≠9∧k≠10∧k≠11∧k≠13∧k≠14) (IH:∀x∈L,LEC x):LEC (.mk k s n L f t a):=by
 intro w wb B lv tv cv mv tys mks z x v l h hB hx hN hl hs
 have hwb:=h.z
 have hL:=hs.len.1
 have HIH:=ai IH
 have HS:=ai hs.part
 have HX:=ai hx
 obtain ⟨la,cap,rfl,-⟩:=hx.pts
 have hxw:w.heap.size≠wb:=by omega
 have hbA:Below w.heap.size w (w.alloc (.cells (nvA ⟨k,s,n,la,L.length,cap,f,t,a⟩) 62)):=bw _
 have X0:Hid (WX wb w.heap.size ⟨k,s,n,la,L.length,cap,f,t,a⟩ lv tv cv mv tys mks w z (w.alloc (.cells (nvA ⟨k,s,n,la,L.length,cap,f,t,a⟩) 62))):=ai ⟨h.bel hbA,Ke.of hbA,Bx.new _ _ _⟩
 have N0:=ai (hN.bel hbA)
 obtain ⟨Z,HZ⟩:∃Z,Hid (Z=ckEL (tyD tys) (mkD mks) L l z):=⟨_,ai rfl⟩
 rw [ckE_0 hk,←uh HZ]
 simp only [nn] at hl
 have k1:((k:Int)==1)=false:=by simp;omega
 have k2:((k:Int)==2)=false:=by simp;omega
 have k3:((k:Int)==9)=false:=by simp;omega
 have k4:((k:Int)==10)=false:=by simp;omega
 have k5:((k:Int)==11)=false:=by simp;omega
 have k6:((k:Int)==13)=false:=by simp;omega
 have k7:((k:Int)==14)=false:=by simp;omega
 clear h IH hs hx hN hbA hk
 obtain ⟨c0,f0,y0⟩:=(uh X0).b
 unfold NV.v
 go_enter Tryz.func85,Tryz.ntmps85
 go_wp2_with fail
 clear c0 f0 y0
 go_loopg [13] L.length (fun gk c wr=>LER wb w.heap.size ⟨k,s,n,la,L.length,cap,f,t,a⟩ lv tv cv mv tys mks w v l z L gk c wr)
 case atStart=>exact ⟨0,ai rfl,Nat.zero_le _,rfl,uh N0,by rw [List.take_zero];unfold ckEL;exact uh X0⟩
 case round=>
  clear X0 N0
  obtain ⟨j,hgk,hj,rfl,hN,hX⟩:=hrel
  have XR:=ai hX
  have NR':=ai hN
  clear hX hN
  obtain ⟨c1,f1,y1⟩:=(uh XR).b
  by_cases hlt:j<L.length
  ·have hd:(j:Int)<(L.length:Int):=by omega
   have hn:=(uh HX).keB (uh XR).k hB
   obtain ⟨la',cap',e1,hp⟩:=hn.pts
   injection e1 with _ _ _ e2 _ e3
   subst e2 e3
   obtain ⟨g,y,rfl,⟨hg,-⟩,h7,hy⟩:=hp j hlt
   obtain ⟨q0,q1,q2,q3,q4,q5,q6⟩:=qey h7
   have HC:=ai (uh HIH L[j] (List.getElem_mem hlt) wr wb B lv tv cv mv tys mks _ y v l (uh XR).d hB hy (uh NR') (by have:=nnL_mem (List.getElem_mem hlt);omega) (uh HS _ (List.getElem_mem hlt)))
   rw [←ckEL_take _ _ _ _ _ _ hlt] at HC
   unfold NV.v at HC
   clear hn hp h7 hy
   go_wp2_with fail
   refine (uh HC).mono ?_
   rintro e w2 ⟨rfl,k2',d2⟩
   have X4:=ai ((uh XR).ke hxw k2' d2)
   have N4:=ai ((uh NR').ke k2')
   clear k2' d2 HC
   go_wp2_with fail
   go_roundg (L.length-(j+1))
   case measure=>rw [uh hgk];omega
   case rel=>exact ⟨j+1,ai rfl,by omega,by go_num,uh N4,uh X4⟩
  ·have hd:decide ((j:Int)<(L.length:Int))=false:=by simp;omega
   have he:L.take j=L:=List.take_of_length_le (by omega)
   rw [he,←uh HZ] at XR
   go_wp2_with fail
   go_end0
   exact ⟨rfl,(uh XR).k,(uh XR).d⟩
end
end
end Go.Proofs.YtoceemjbcgmojaaGreatDoor

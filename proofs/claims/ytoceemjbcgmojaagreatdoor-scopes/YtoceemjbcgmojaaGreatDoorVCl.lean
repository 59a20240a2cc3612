import Derived.Test.YtoceemjbcgmojaaGreatDoorVCk
set_option linter.all false
set_option maxRecDepth 100000
set_option maxHeartbeats 8000000
namespace Go.Proofs.YtoceemjbcgmojaaGreatDoor
section
open Go Go.RowKit Un
abbrev zWorld (lv:Value):Array Value:=#[lv,.slice none 0 0,.slice none 0 0,.slice none 0 0,.int .i64 0,.int .i64 0,.int .i64 0]
structure WST (w0:World) (wb:Nat) (lv:Value) (e:SE) (N:Nat) (v:Value) (wr:World):Prop where
 ex:∃tv cv mv tys mks,WD wr wb lv tv cv mv tys mks e.f∧tyD tys=e.ty∧mkD mks=e.mks∧tys.length+mks.length+e.nm.length≤N∧∀b,v.ownBlock=some b→¬SB wb tv cv mv b
 nl:NL wr wb v e.nm
 be:Below w0.heap.size w0 wr
theorem WST.bel {w0 wr w':World} {wb:Nat} {lv v:Value} {e:SE} {N:Nat} (h:WST w0 wb lv e N v wr) (hb:Below wr.heap.size wr w'):WST w0 wb lv e N v w':=by
 obtain ⟨tv,cv,mv,tys,mks,d,h1,h2,h3,h4⟩:=h.ex
 exact ⟨⟨tv,cv,mv,tys,mks,d.bel hb,h1,h2,h3,h4⟩,h.nl.bel hb,h.be.trans (hb.mono h.be.size)⟩
theorem DR.low {w:World} {P:Nat→Prop} {x:DV} {d:Dc} (h:DR w P x d):DR w (·<w.heap.size) x d:=h.move (br _) (fun _ _ _=>rfl) (fun _ _ z=>z)
def WOR (w0:World) (wb:Nat) (lv:Value) (l:List Dc) (gk:Nat) (v c:Value) (wr:World):Prop:=∃i:Nat,Hid (gk=l.length-i)∧i≤l.length∧c=.int .i64 (i:Int)∧WST w0 wb lv (ckDs up1 (l.take i) se0) (ndL (l.take i)) v wr
section
variable {w:World}
theorem world_C {P:Nat→Prop} {vp:Option Addr} {l:List Dc} (hd:DeclsD w P vp l) (hl:ndL l≤802) (hS:∀d∈l,DSm d) (vc:Nat):
 Calls Tryz.prog 38 #[.slice vp l.length vc] w fun e w'=>∃wb C,e=.returned (wp wb)∧Below w.heap.size w w'∧Bx w' wb C∧C[4]? =some (.int .i64 ((ckDs up1 l se0).f.kind:Int))∧C[5]? =some (.int .i64 ((ckDs up1 l se0).f.frm:Int))∧C[6]? =some (.int .i64 ((ckDs up1 l se0).f.to:Int))∧C.size=7:=by
 have hll:l.length≤802:=by
  have:∀l:List Dc,l.length≤ndL l:=fun l=>by
   induction l with
   |nil=>simp [ndL]
   |cons d r ih=>simp only [ndL,List.map_cons,List.sum_cons,lqc] at ih⊢;have:1≤nd3 d:=by cases d<;>simp [nd3]<;>omega
                 omega
  exact Nat.le_trans (this l) hl
 have HD:=ai hd
 have HSM:=ai hS
 have hb0:Below w.heap.size w (w.alloc (.cells (zWorld (.slice vp l.length vc)) 100)):=bw _
 have W0:Hid (WST w w.heap.size (.slice vp l.length vc) se0 0 (.slice none 0 0) (w.alloc (.cells (zWorld (.slice vp l.length vc)) 100))):=ai ⟨⟨.slice none 0 0,.slice none 0 0,.slice none 0 0,[],[],⟨Bx.new _ _ _,⟨rfl,.inl ⟨rfl,rfl⟩⟩,⟨rfl,.inl ⟨rfl,rfl⟩⟩,⟨rfl,.inl ⟨rfl,rfl⟩⟩,(fun q h=>by cases h),(fun q h=>by cases h),(fun q h=>by cases h),by simp,by simp⟩,rfl,rfl,by simp [se0],(fun b h=>by cases h)⟩,NL.nil _ _,hb0⟩
 obtain ⟨Z,HZ⟩:∃Z,Hid (Z=(ckDs up1 l se0).f):=⟨_,ai rfl⟩
 rw [←uh HZ]
 clear hd hS hb0
 go_enter Tryz.func38,Tryz.ntmps38
 go_wp2_with fail
 go_loopg [4,5] l.length (fun gk v c wr=>WOR w w.heap.size (.slice vp l.length vc) l gk v c wr)
 case atStart=>exact ⟨0,ai rfl,Nat.zero_le _,rfl,uh W0⟩
 case round=>
  clear W0
  obtain ⟨i,hgk,hi,rfl,hW⟩:=hrel
  have WR:=ai hW
  clear hW
  by_cases hlt:i<l.length
  ·have hd:(i:Int)<(l.length:Int):=by omega
   obtain ⟨g,x,rfl,⟨hg,-⟩,h15,hx⟩:=uh HD i hlt
   have hx':=hx.low.bel (uh WR).be
   have h15':∀j,j<15→wr.cell? ⟨g,i*15+j,none⟩=(DV.a x)[j]? :=fun j hj=>(World.cell?_of_block (a:=⟨g,i*15+j,none⟩) ((uh WR).be.block g hg)).trans (h15 j hj)
   obtain ⟨q0,q1,q2,q3,q4,q5,q6,q7,q8,q9,q10,q11,q12,q13,q14⟩:=at15_e h15'
   have hnd:=ndL_take l i hlt
   have hle:=ndL_take_le l (i+1)
   have hsm:=uh HSM l[i] (List.getElem_mem hlt)
   have HTK:=ai (ckDs_take up1 l se0 i hlt)
   generalize ckDs up1 (l.take i) se0=e0 at WR HTK
   generalize l[i]=d at hx' hnd hsm HTK
   clear hx h15 h15'
   have hbA:Below wr.heap.size wr (wr.alloc (.cells (DV.a x) 64)):=bw _
   have WA:=ai ((uh WR).bel hbA)
   have BA:=ai (Bx.new wr (DV.a x) 64)
   have HX:=ai (hx'.bel hbA)
   obtain ⟨tv,cv,mv,tys,mks,wd,t1,t2,t3,t4⟩:=(uh WR).ex
   have HWD:=ai (wd.bel hbA)
   have hsbR:Hid (∀b,SB w.heap.size tv cv mv b→b<wr.heap.size):=ai (fun b q=>(wd.g.sb b q).2)
   clear hx' hbA WR
   have HT1:=ai t1
   have HT2:=ai t2
   have HT4:=ai t4
   have hwz:=wd.z
   have hbe:=(uh WA).be.size
   clear wd t1 t2 t4
   obtain ⟨dty,rc,nm,vp',vl,vc',mp,ml,mc,bd⟩:=x
   cases d with
   |ty t vs ms=>
    obtain ⟨e1,e2,e3,e4,-,-⟩:=uh HX
    simp only at e1 e2 e3 e4
    subst e1 e2 e3 e4
    simp only [nd3] at hnd
    have hnl:=nnL_len ms
    obtain ⟨hvs,hms⟩:=hsm
    have HC:=ai (looksDecl_C (uh HWD) (br _) (uh HX) (by omega) (by omega) hvs hms (i:Int))
    unfold DV.v at HC
    obtain ⟨c1,f1,y1⟩:=uh BA
    go_wp2_with fail
    refine (uh HC).mono ?_
    rintro e w2 ⟨rfl,tv',cv',mv',mks',wd',hmk',hln',hfr,hsb⟩
    have W2:Hid (WST w w.heap.size (.slice (some ⟨g,0,none⟩) l.length vc) (ckD up1 (.ty nm vs ms) e0) (ndL (l.take (i+1))) u4 w2):=ai (by
     have htd:tyD (tys++[(nm.text,vs.length)])=up1 e0.ty nm.text vs.length:=by rw [tyD_up,uh HT1]
     rw [htd,uh HT1,uh HT2] at wd' hmk'
     obtain ⟨base,ho⟩:=(uh WA).nl.o
     have hvb:∀b,u4.ownBlock=some b→b<(wr.alloc (.cells (DV.a ⟨true,rc,nm,vp',vs.length,vc',mp,ms.length,mc,bd⟩) 64)).heap.size:=fun b q=>(qai ho b q).2
     refine ⟨⟨tv',cv',mv',_,mks',wd',htd,hmk',?_,fun b q r=>?_⟩,⟨⟨base,qb3 ho fun b q=>hfr.block b (hvb b q) (uh HT4 b q)⟩,(uh WA).nl.n⟩,?_⟩
     ·show (tys++[(nm.text,vs.length)]).length+mks'.length+e0.nm.length≤_
      rw [hnd,hln']
      simp
      omega
     ·rcases hsb b r with r|r
      ·exact uh HT4 b q r
      ·have:=hvb b q;omega
     ·refine ⟨hfr.os.trans (uh WA).be.os,hfr.tape.trans (uh WA).be.tape,hfr.output.trans (uh WA).be.output,Nat.le_trans (uh WA).be.size hfr.size,fun b hb=>(hfr.block b (Nat.lt_of_lt_of_le hb (uh WA).be.size) (fun q=>?_)).trans ((uh WA).be.block b hb)⟩
      have:=((uh HWD).g.sb b q).1
      omega)
    have B2:=ai ((uh BA).fr hfr (fun q=>by have:=uh hsbR _ q;omega))
    clear HC wd' hmk' hln' hfr hsb c1 f1 y1
    obtain ⟨c1,f1,y1⟩:=uh B2
    go_wp2_with fail
    go_roundg (l.length-(i+1))
    case measure=>rw [uh hgk];omega
    case rel=>exact ⟨i+1,ai rfl,by omega,by go_num,by rw [uh HTK];exact uh W2⟩
   |lt r t b=>
    obtain ⟨e1,e2,e3,hnr⟩:=uh HX
    simp only at e1 e2 e3 hnr
    subst e1 e2 e3
    simp only [nd3] at hnd
    obtain ⟨hsb,hex⟩:=hsm
    have HNR:=ai hnr
    have HLE:=ai hex.lec
    have NL0:=ai (uh WA).nl
    have hxw:wr.heap.size≠w.heap.size:=by omega
    have WX0:Hid (WD (wr.alloc (.cells (DV.a ⟨false,rc,nm,vp',vl,vc',mp,ml,mc,bd⟩) 64)) w.heap.size (.slice (some ⟨g,0,none⟩) l.length vc) tv cv mv tys mks e0.f):=HWD
    obtain ⟨c1,f1,y1⟩:=uh BA
    clear hnr hex
    cases rc with
    |false=>
     have HC:=ai (uh HLE _ w.heap.size w.heap.size _ tv cv mv tys mks e0.f bd u4 e0.nm (uh WX0) (br _) (uh HNR) (uh NL0) (by omega) hsb)
     unfold NV.v at HC
     rw [uh HT1,uh HT2] at HC
     go_wp2_with fail
     refine (uh HC).mono ?_
     rintro e w2 ⟨rfl,k2,d2⟩
     have D2:=ai d2
     have K2:=ai k2
     have N2:=ai ((uh NL0).ke k2)
     have B2:=ai ((uh BA).ke k2 hxw)
     have hk2:=k2.size
     have HC2:=ai (and_D (uh N2) (uh D2).z (by omega) nm.text)
     clear d2 k2 HC c1 f1 y1
     obtain ⟨c1,f1,y1⟩:=uh B2
     go_wp2_with fail
     refine (uh HC2).mono ?_
     rintro e w3 ⟨v3,rfl,b3,n3,o3⟩
     have W3:Hid (WST w w.heap.size (.slice (some ⟨g,0,none⟩) l.length vc) (ckD up1 (.lt false nm b) e0) (ndL (l.take (i+1))) v3 w3):=ai (by
      refine ⟨⟨tv,cv,mv,tys,mks,(uh D2).bel b3,uh HT1,uh HT2,?_,fun b q r=>?_⟩,n3,?_⟩
      ·show tys.length+mks.length+(e0.nm++[nm.text]).length≤_
       rw [hnd];simp;omega
      ·have h1:=o3 b q
       have h2:=((uh D2).g.sb b r).2
       omega
      ·exact ((uh K2).low (uh WA).be (uh WA).be.size (br _)).trans (b3.mono (Nat.le_trans (uh WA).be.size hk2)))
     clear HC2 b3 n3 o3
     go_wp2_with fail
     go_roundg (l.length-(i+1))
     case measure=>rw [uh hgk];omega
     case rel=>exact ⟨i+1,ai rfl,by omega,by go_num,by rw [uh HTK];exact uh W3⟩
    |true=>
     go_wp2_with fail
     go_region_with (first
      |(go_at_call 86;refine (and_C ((uh NL0).bel (Below.refl _ _).drew) (by have:=(uh WX0).z;exact this) (by omega) nm.text).mono ?_;rintro e w1 ⟨v1,rfl,b1,n1⟩;have hb:Below (wr.alloc (.cells (DV.a ⟨false,true,nm,vp',vl,vc',mp,ml,mc,bd⟩) 64)).heap.size (wr.alloc (.cells (DV.a ⟨false,true,nm,vp',vl,vc',mp,ml,mc,bd⟩) 64)) w1:=(Below.refl _ _).drew.trans (b1.mono (br _));have Y1:=ai ((uh WX0).bel hb);have Q1:=ai ((uh HNR).bel hb);have M1:=ai n1;have C1:=ai ((uh BA).below hb);have K1:=ai (Ke.of (rb:=w.heap.size) hb);obtain ⟨c3,f3,y3⟩:=uh C1;clear hb b1 n1)
      |(go_at_call 85;refine (uh HLE _ w.heap.size w.heap.size _ tv cv mv tys mks e0.f bd v1 (e0.nm++[nm.text]) (uh Y1) (br _) (uh Q1) (uh M1) (by simp;omega) hsb).mono ?_;rintro e w2 ⟨rfl,k2,d2⟩;rw [uh HT1,uh HT2] at d2;have Y2:=ai d2;have K2:=ai ((uh K1).trans k2);clear k2 d2))
     all_goals (
      have D2:=Y2
      have N2:=ai ((uh NL0).ke (uh K2))
      have B2:=ai ((uh BA).ke (uh K2) hxw)
      have hk2:=(uh K2).size
      have HC2:=ai (and_D (uh N2) (uh D2).z (by omega) nm.text)
      clear c1 f1 y1
      obtain ⟨c1,f1,y1⟩:=uh B2
      go_wp2_with fail
      refine (uh HC2).mono ?_
      rintro e w3 ⟨v3,rfl,b3,n3,o3⟩
      have W3:Hid (WST w w.heap.size (.slice (some ⟨g,0,none⟩) l.length vc) (ckD up1 (.lt true nm b) e0) (ndL (l.take (i+1))) v3 w3):=ai (by
       refine ⟨⟨tv,cv,mv,tys,mks,(uh D2).bel b3,uh HT1,uh HT2,?_,fun b q r=>?_⟩,n3,?_⟩
       ·show tys.length+mks.length+(e0.nm++[nm.text]).length≤_
        rw [hnd];simp;omega
       ·have h1:=o3 b q
        have h2:=((uh D2).g.sb b r).2
        omega
       ·exact ((uh K2).low (uh WA).be (uh WA).be.size (br _)).trans (b3.mono (Nat.le_trans (uh WA).be.size hk2)))
      clear HC2 b3 n3 o3
      go_wp2_with fail
      go_roundg (l.length-(i+1))
      case measure=>rw [uh hgk];omega
      case rel=>exact ⟨i+1,ai rfl,by omega,by go_num,by rw [uh HTK];exact uh W3⟩)
  ·have hd:decide ((i:Int)<(l.length:Int))=false:=by simp;omega
   have he:l.take i=l:=List.take_of_length_le (by omega)
   rw [he] at WR
   obtain ⟨tv,cv,mv,tys,mks,wd,-,-,-,-⟩:=(uh WR).ex
   have HB:=ai wd.bx
   have HBE:=ai (uh WR).be
   clear wd WR
   rw [←uh HZ] at HB
   go_wp2_with fail
   go_ret
   exact ⟨_,_,rfl,uh HBE,uh HB,rfl,rfl,rfl,rfl⟩
def scopeA (s:BA):Fl:=match qc1 s with
 |.error f=>f
 |.ok l=>(ckDs up1 l se0).f
end
end
end Go.Proofs.YtoceemjbcgmojaaGreatDoor

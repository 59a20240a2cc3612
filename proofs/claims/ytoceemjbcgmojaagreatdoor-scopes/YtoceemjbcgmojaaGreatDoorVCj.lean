import Derived.Deep.CutRange
import Derived.Test.YtoceemjbcgmojaaGreatDoorVTf
import Derived.Test.YtoceemjbcgmojaaGreatDoorVCj0
set_option linter.all false
set_option maxRecDepth 100000
set_option maxHeartbeats 8000000
namespace Go.Proofs.YtoceemjbcgmojaaGreatDoor
section
open Go Go.RowKit Un
structure LD (S:Nat→Prop) (w0:World) (wb:Nat) (x:DV) (lv tv cv mv:Value) (ns:List BA) (cs:List Nat) (mks:List MK) (z:Fl) (wr:World):Prop where
 d:WDg wr wb lv tv cv mv ns cs mks z
 k:Fr S w0 wr
 b:Bx wr w0.heap.size x.a
 o:∀b,SB wb tv cv mv b→S b∨w0.heap.size<b
section
variable {S:Nat→Prop} {w0 wr w':World} {wb:Nat} {x:DV} {lv tv cv mv tv' cv' mv':Value} {ns ns':List BA} {cs cs':List Nat} {mks mks':List MK} {z z':Fl} {tys:List (BA×Nat)}
theorem LD.bel (h:LD S w0 wb x lv tv cv mv ns cs mks z wr) (hb:Below wr.heap.size wr w'):LD S w0 wb x lv tv cv mv ns cs mks z w':=⟨h.d.bel hb,h.k.trans (Fr.of hb),h.b.below hb,h.o⟩
theorem LD.ke (h:LD S w0 wb x lv tv cv mv (tys.map (·.1)) (tys.map (·.2)) mks z wr) (hS:S wb) (hn:w0.heap.size≠wb) (hk:Ke wb wr w') (d:WD w' wb lv tv cv mv tys mks z'):LD S w0 wb x lv tv cv mv (tys.map (·.1)) (tys.map (·.2)) mks z' w':=
 ⟨d.g,h.k.trans ⟨hk.os,hk.tape,hk.output,hk.size,fun b hb q=>hk.block b hb (fun e=>q (e▸hS))⟩,h.b.ke hk hn,h.o⟩
theorem LD.grow {V:Value} (h:LD S w0 wb x lv tv cv mv ns cs mks z wr) (hS:S wb) (hSx:¬S w0.heap.size) (hz:w0.heap.size<wr.heap.size) (hV:∀b,V.ownBlock=some b→SB wb tv cv mv b) (d:WDg w' wb lv tv' cv' mv' ns' cs' mks' z) (hF:Fr (fun b=>b=wb∨V.ownBlock=some b) wr w') (ho:∀b,SB wb tv' cv' mv' b→SB wb tv cv mv b∨wr.heap.size≤b):LD S w0 wb x lv tv' cv' mv' ns' cs' mks' z w':=by
 have hc:∀b,b=wb∨V.ownBlock=some b→S b∨w0.heap.size<b:=by
  rintro b (q|q)
  ·exact Or.inl (q▸hS)
  ·exact h.o b (hV b q)
 refine ⟨d,h.k.trans' hF (fun b q=>(hc b q).elim Or.inl (fun q=>Or.inr (Nat.le_of_lt q))),h.b.fr hF (fun q=>?_),fun b q=>?_⟩
 ·rcases hc _ q with q|q
  ·exact hSx q
  ·omega
 ·rcases ho b q with q|q
  ·exact h.o b q
  ·exact Or.inr (by omega)
theorem LD.growT {W w3:World} {v3:Value} {s:BA} (h:LD S w0 wb x lv tv cv mv ns cs mks z W) (hS:S wb) (hSx:¬S w0.heap.size) (hz:w0.heap.size<W.heap.size) (hl:ns.length<1000) (hg:W.grownBy w3 tv.ownBlock) (ho:w3.ownsRow (wb+1) 9 1 v3 (ns.length+1) ((ns.map Value.string)++[.string s])) (ha:v3.ownBlock=tv.ownBlock∨v3.ownBlock=some W.heap.size):LD S w0 wb x lv v3 cv mv (ns++[s]) cs mks z (w3.setCell ⟨wb,1,none⟩ v3):=by
 obtain ⟨d,F⟩:=h.d.growT hl hg ho ha
 refine h.grow hS hSx hz (fun b q=>Or.inr (Or.inl q)) d F ?_
 rintro b (q|q|q|q)
 ·exact Or.inl (Or.inl q)
 ·rcases ha with e|e
  ·rw [e] at q;exact Or.inl (Or.inr (Or.inl q))
  ·rw [e] at q;cases q;exact Or.inr (br _)
 ·exact Or.inl (Or.inr (Or.inr (Or.inl q)))
 ·exact Or.inl (Or.inr (Or.inr (Or.inr q)))
theorem LD.growC {W w3:World} {v3:Value} {c:Nat} (h:LD S w0 wb x lv tv cv mv ns cs mks z W) (hS:S wb) (hSx:¬S w0.heap.size) (hz:w0.heap.size<W.heap.size) (hl:cs.length<1000) (hg:W.grownBy w3 cv.ownBlock) (ho:w3.ownsRow (wb+1) 3 1 v3 (cs.length+1) ((cs.map fun (c:Nat)=>Value.int .i64 (c:Int))++[.int .i64 (c:Int)])) (ha:v3.ownBlock=cv.ownBlock∨v3.ownBlock=some W.heap.size):LD S w0 wb x lv tv v3 mv ns (cs++[c]) mks z (w3.setCell ⟨wb,2,none⟩ v3):=by
 obtain ⟨d,F⟩:=h.d.growC hl hg ho ha
 refine h.grow hS hSx hz (fun b q=>Or.inr (Or.inr (Or.inl q))) d F ?_
 rintro b (q|q|q|q)
 ·exact Or.inl (Or.inl q)
 ·exact Or.inl (Or.inr (Or.inl q))
 ·rcases ha with e|e
  ·rw [e] at q;exact Or.inl (Or.inr (Or.inr (Or.inl q)))
  ·rw [e] at q;cases q;exact Or.inr (br _)
 ·exact Or.inl (Or.inr (Or.inr (Or.inr q)))
theorem LD.growM {W w3:World} {v3:Value} {m:MK} (h:LD S w0 wb x lv tv cv mv ns cs mks z W) (hS:S wb) (hSx:¬S w0.heap.size) (hz:w0.heap.size<W.heap.size) (hl:mks.length<1000) (hg:W.grownBy w3 mv.ownBlock) (ho:w3.ownsRow (wb+1) 307 10 v3 (mks.length+1) ((mkCells mks)++m.l)) (ha:v3.ownBlock=mv.ownBlock∨v3.ownBlock=some W.heap.size):LD S w0 wb x lv tv cv v3 ns cs (mks++[m]) z (w3.setCell ⟨wb,3,none⟩ v3):=by
 obtain ⟨d,F⟩:=h.d.growM hl hg ho ha
 refine h.grow hS hSx hz (fun b q=>Or.inr (Or.inr (Or.inr q))) d F ?_
 rintro b (q|q|q|q)
 ·exact Or.inl (Or.inl q)
 ·exact Or.inl (Or.inr (Or.inl q))
 ·exact Or.inl (Or.inr (Or.inr (Or.inl q)))
 ·rcases ha with e|e
  ·rw [e] at q;exact Or.inl (Or.inr (Or.inr (Or.inr q)))
  ·rw [e] at q;cases q;exact Or.inr (br _)
theorem NR.frB {B:Nat} {nd:Nd} {y:NV} (h:NR w0 (·<B) nd y) (k:Fr S w0 wr) (hB:∀b,b<B→¬S b):NR wr (·<B) nd y:=h.move k.size (fun b p z=>k.block b z (hB b p)) (fun _ p _=>p)
theorem TokR.frB {B:Nat} {vp:Option Addr} {vs:List Pu.Tok} (h:TokR w0 (·<B) vp vs) (k:Fr S w0 wr) (hB:∀b,b<B→¬S b):TokR wr (·<B) vp vs:=fun i hi=>by
 obtain ⟨g,h1,⟨h2,h2'⟩,h3,h4,h5⟩:=h i hi
 have e:∀o,wr.cell? ⟨g,o,none⟩=w0.cell? ⟨g,o,none⟩:=fun o=>World.cell?_of_block (a:=⟨g,o,none⟩) (k.block g h2 (hB g h2'))
 exact ⟨g,h1,⟨Nat.lt_of_lt_of_le h2 k.size,h2'⟩,(e _).trans h3,(e _).trans h4,(e _).trans h5⟩
theorem PartsR.frB {B:Nat} {vp:Option Addr} {L:List Nd} (h:PartsR w0 (·<B) vp L) (k:Fr S w0 wr) (hB:∀b,b<B→¬S b):PartsR wr (·<B) vp L:=fun i hi=>by
 obtain ⟨g,y,h1,⟨h2,h2'⟩,h3,h4⟩:=h i hi
 exact ⟨g,y,h1,⟨Nat.lt_of_lt_of_le h2 k.size,h2'⟩,fun j hj=>(World.cell?_of_block (a:=⟨g,i*7+j,none⟩) (k.block g h2 (hB g h2'))).trans (h3 j hj),h4.frB k hB⟩
end
def ckM1 (u:Upd) (ty:BA→Option Nat) (own:List BA):Nd→(BA→Option Nat)×Fl→(BA→Option Nat)×Fl
 |.mk _ s _ L _ _ a,q=>(u q.1 s L.length,ckTL ty own L (qas (q.1 s).isSome 4 a (a+s.size) q.2))
theorem ckM_app (u:Upd) (ty:BA→Option Nat) (own:List BA):∀(l:List Nd) (m:Nd) (q:(BA→Option Nat)×Fl),ckM u ty own (l++[m]) q=ckM1 u ty own m (ckM u ty own l q)
 |[],.mk _ _ _ _ _ _ _,q=>rfl
 |.mk _ _ _ _ _ _ _::r,m,q=>ckM_app u ty own r m _
theorem ckM_take (u:Upd) (ty:BA→Option Nat) (own:List BA) (ms:List Nd) (q:(BA→Option Nat)×Fl) (j:Nat) (h:j<ms.length):ckM u ty own (ms.take (j+1)) q=ckM1 u ty own ms[j] (ckM u ty own (ms.take j) q):=by
 rw [List.take_succ_eq_append_getElem h,ckM_app]
theorem tyD_up (tys:List (BA×Nat)) (s:BA) (n:Nat):tyD (tys++[(s,n)])=up1 (tyD tys) s n:=by
 have h:∀(l:List (BA×Nat)) y,tyL (l++[(s,n)]) y=match tyL l y with|some m=>some m|none=>if y=s then some n else none:=by
  intro l y
  induction l with
  |nil=>simp only [List.nil_append,tyL];by_cases e:s=y<;>simp [e];exact fun q=>absurd q.symm e
  |cons p r ih=>
   simp only [List.cons_append,tyL]
   by_cases e:p.1=y
   ·simp [e]
   ·simp only [e,if_false,ih]
 funext y
 unfold tyD up1
 by_cases e:y=kInt∨y=kBool∨y=kUnit
 ·simp [e]
 ·simp only [e,if_false,h];rfl
theorem mkD_up (mks:List MK) (m:MK):mkD (mks++[m])=up1 (mkD mks) m.nm m.x.ll:=by
 funext y
 unfold up1 mkD
 induction mks with
 |nil=>simp only [List.nil_append,mkF];by_cases e:m.nm=y<;>simp [e];exact fun q=>absurd q.symm e
 |cons p r ih=>
  simp only [List.cons_append,mkF]
  by_cases e:p.nm=y
  ·simp [e]
  ·simp only [e,if_false];exact ih
def VOR (S:Nat→Prop) (w0:World) (wb:Nat) (x:DV) (lv tv cv mv:Value) (ns:List BA) (cs:List Nat) (mks:List MK) (z:Fl) (vs:List Pu.Tok) (gk:Nat) (c:Value) (wr:World):Prop:=∃i:Nat,Hid (gk=vs.length-i)∧i≤vs.length∧c=.int .i64 (i:Int)∧LD S w0 wb x lv tv cv mv ns cs mks (ckV [] (vs.take i) z) wr
def VIR (S:Nat→Prop) (w0:World) (wb:Nat) (x:DV) (lv tv cv mv:Value) (ns:List BA) (cs:List Nat) (mks:List MK) (z:Fl) (own:List BA) (v:Pu.Tok) (i:Nat) (gk:Nat) (c:Value) (wr:World):Prop:=∃k:Nat,Hid (gk=i-k)∧k≤i∧c=.int .i64 (k:Int)∧LD S w0 wb x lv tv cv mv ns cs mks (qas (inL v.text (own.take k)) 4 v.frm v.to z) wr
def MOR (S:Nat→Prop) (w0:World) (wb:Nat) (x:DV) (lv tv cv:Value) (TY:List (BA×Nat)) (mks:List MK) (z:Fl) (own:List BA) (ms:List Nd) (gk:Nat) (c:Value) (wr:World):Prop:=∃(j:Nat) (mv':Value) (mks':List MK),Hid (gk=ms.length-j)∧j≤ms.length∧c=.int .i64 (j:Int)∧LD S w0 wb x lv tv cv mv' (TY.map (·.1)) (TY.map (·.2)) mks' (ckM up1 (tyD TY) own (ms.take j) (mkD mks,z)).2 wr∧Hid (mkD mks'=(ckM up1 (tyD TY) own (ms.take j) (mkD mks,z)).1)∧Hid (mks'.length=mks.length+j)
def MIR (S:Nat→Prop) (w0:World) (wb:Nat) (x:DV) (lv tv cv mv:Value) (TY:List (BA×Nat)) (mks:List MK) (z:Fl) (own:List BA) (L:List Nd) (mb:Nat) (y:NV) (gk:Nat) (c:Value) (wr:World):Prop:=∃k:Nat,Hid (gk=L.length-k)∧k≤L.length∧c=.int .i64 (k:Int)∧LD S w0 wb x lv tv cv mv (TY.map (·.1)) (TY.map (·.2)) mks (ckTL (tyD TY) own (L.take k) z) wr∧Bx wr mb (nvA y)
section
variable {w:World} {wb B:Nat} {lv tv cv mv:Value} {tys:List (BA×Nat)} {mks:List MK} {z:Fl} {x:DV} {t:Pu.Tok} {vs:List Pu.Tok} {ms:List Nd}
theorem looksDecl_C (h:WD w wb lv tv cv mv tys mks z) (hB:B≤wb) (hx:DR w (·<B) x (.ty t vs ms)) (hty:tys.length<1000) (hmk:mks.length+ms.length≤1000) (hvs:vs.length≤1000) (hms:∀m∈ms,Sm m) (n:Int):
 Calls Tryz.prog 84 #[wp wb,x.v,.int .i64 n] w fun e w'=>e=.returned (.tuple #[])∧∃tv' cv' mv' mks',WD w' wb lv tv' cv' mv' (tys++[(t.text,vs.length)]) mks' (ckM up1 (tyD (tys++[(t.text,vs.length)])) (vs.map (·.text)) ms (mkD mks,ckV [] vs (qas (tyD tys t.text).isSome 4 t.frm t.to z))).2∧mkD mks'=(ckM up1 (tyD (tys++[(t.text,vs.length)])) (vs.map (·.text)) ms (mkD mks,ckV [] vs (qas (tyD tys t.text).isSome 4 t.frm t.to z))).1∧mks'.length=mks.length+ms.length∧Fr (SB wb tv cv mv) w w'∧∀b,SB wb tv' cv' mv' b→SB wb tv cv mv b∨w.heap.size≤b:=by
 obtain ⟨ty,rc,nm,vp,vl,vc,mp,ml,mc,bd⟩:=x
 obtain ⟨h1,h2,h3,h4,h5,h6⟩:=hx
 simp only at h1 h2 h3 h4 h5 h6
 subst h1 h2 h3 h4
 have hwb:=h.z
 have hsb:=h.g.sb
 have hxw:w.heap.size≠wb:=by omega
 have hSw:SB wb tv cv mv wb:=Or.inl rfl
 have hSx:¬SB wb tv cv mv w.heap.size:=fun q=>by have:=(hsb _ q).2;omega
 have hSB:∀b,b<B→¬SB wb tv cv mv b:=fun b hb q=>by have:=(hsb b q).1;omega
 have HT:=ai h5
 have HP:=ai h6
 have HM:=ai hms
 have hbA:Below w.heap.size w (w.alloc (.cells (DV.a ⟨true,rc,nm,vp,vs.length,vc,mp,ms.length,mc,bd⟩) 64)):=bw _
 have L0:Hid (LD (SB wb tv cv mv) w wb ⟨true,rc,nm,vp,vs.length,vc,mp,ms.length,mc,bd⟩ lv tv cv mv (tys.map (·.1)) (tys.map (·.2)) mks z (w.alloc (.cells (DV.a ⟨true,rc,nm,vp,vs.length,vc,mp,ms.length,mc,bd⟩) 64))):=ai ⟨h.g.bel hbA,Fr.of hbA,Bx.new _ _ _,fun b q=>Or.inl q⟩
 have HC:=ai (typeOf_C (h.bel hbA) nm.text)
 obtain ⟨own,hown⟩:∃own,Hid (own=vs.map (·.text)):=⟨_,ai rfl⟩
 have ho:own.length=vs.length:=by rw [uh hown];simp
 obtain ⟨Q,HQ⟩:∃Q,Hid (Q=ckM up1 (tyD (tys++[(nm.text,vs.length)])) own ms (mkD mks,ckV [] vs (qas (tyD tys nm.text).isSome 4 nm.frm nm.to z))):=⟨_,ai rfl⟩
 rw [←uh hown,←uh HQ]
 clear h h5 h6 hms hsb hbA
 obtain ⟨c0,f0,y0⟩:=(uh L0).b
 unfold DV.v
 go_enter Tryz.func84,Tryz.ntmps84
 go_wp2_with fail
 refine (uh HC).mono ?_
 rintro e w1 ⟨rfl,rfl⟩
 clear HC
 go_upto_if 18 with (fail)
 go_cut [] from 13 (fun wc=>LD (SB wb tv cv mv) w wb ⟨true,rc,nm,vp,vs.length,vc,mp,ms.length,mc,bd⟩ lv tv cv mv (tys.map (·.1)) (tys.map (·.2)) mks (qas (tyD tys nm.text).isSome 4 nm.frm nm.to z) wc)
 case first=>
  cases hty':tyD tys nm.text with
  |none=>
   have hd:decide ((0:Int)≤tyI none)=false:=by simp [tyI]
   go_wp2_with fail
   go_meet
   case rel=>rw [hty'];exact uh L0
  |some m=>
   have hd:(0:Int)≤tyI (some m):=by simp [tyI]
   have HC:=ai (qff (uh L0).d.wd 4 nm.frm nm.to)
   have e4:((4:Nat):Int)=4:=rfl
   rw [e4] at HC
   go_wp2_with fail
   refine (uh HC).mono ?_
   rintro e w2 ⟨rfl,k2,d2⟩
   have L1:=ai ((uh L0).ke hSw hxw k2 d2)
   clear k2 d2 HC
   go_wp2_with fail
   go_meet
   case rel=>rw [hty'];exact uh L1
 case rest=>
  have L1:=ai hcut
  clear hcut L0 c0 f0 y0
  generalize qas (tyD tys nm.text).isSome 4 nm.frm nm.to z=z1 at HQ L1
  go_wp2_with fail
  go_loopg [6] vs.length (fun gk c wr=>VOR (SB wb tv cv mv) w wb ⟨true,rc,nm,vp,vs.length,vc,mp,ms.length,mc,bd⟩ lv tv cv mv (tys.map (·.1)) (tys.map (·.2)) mks z1 vs gk c wr)
  case atStart=>exact ⟨0,ai rfl,Nat.zero_le _,rfl,uh L1⟩
  case round=>
   clear L1
   obtain ⟨i,hgk,hi,rfl,hL⟩:=hrel
   have LR:=ai hL
   clear hL
   obtain ⟨c1,f1,y1⟩:=(uh LR).b
   by_cases hlt:i<vs.length
   ·have hd:(i:Int)<(vs.length:Int):=by omega
    have HTK:=ai (ckV_take vs z1 i hlt)
    rw [←uh hown] at HTK
    generalize ckV [] (vs.take i) z1=zi at LR HTK
    obtain ⟨v,hv⟩:∃v,Hid (v=vs[i]):=⟨_,ai rfl⟩
    rw [←uh hv] at HTK
    go_wp2_with fail
    clear c1 f1 y1
    go_loopg [7] i (fun gk c wr=>VIR (SB wb tv cv mv) w wb ⟨true,rc,nm,vp,vs.length,vc,mp,ms.length,mc,bd⟩ lv tv cv mv (tys.map (·.1)) (tys.map (·.2)) mks zi own v i gk c wr)
    case atStart=>exact ⟨0,ai rfl,Nat.zero_le _,rfl,uh LR⟩
    case round=>
     clear LR
     obtain ⟨k,hgk',hk,rfl,hL⟩:=hrel
     have LK:=ai hL
     clear hL
     obtain ⟨c1,f1,y1⟩:=(uh LK).b
     by_cases hlk:k<i
     ·have hd':(k:Int)<(i:Int):=by omega
      have hd2:(k:Int)<(vs.length:Int):=by omega
      have hko:k<own.length:=by omega
      obtain ⟨g,rfl,⟨hg,-⟩,d1,d2,d3⟩:=((uh HT).frB (uh LK).k hSB) i hlt
      obtain ⟨g',e1,-,b1,-,-⟩:=((uh HT).frB (uh LK).k hSB) k (by omega)
      cases e1
      rw [←uh hv] at d1 d2 d3
      have eo:own[k]=vs[k].text:=by simp [uh hown]
      have HTI:=ai (tellIf_in (s:=v.text) (a:=v.frm) (b:=v.to) (z:=zi) hko)
      rw [eo] at HTI
      generalize vs[k].text=vk at b1 HTI
      generalize qas (inL v.text (own.take k)) 4 v.frm v.to zi=zk at LK HTI
      clear eo
      by_cases e:vk=v.text
      ·have hq:(vk.toList==v.text.toList)=true:=by rw [str_eq];simp [e]
       rw [if_pos e] at HTI
       clear e
       go_wp2_with fail
       go_quiet (fail)
       go_wp2_with fail
       go_region_with (go_at_call 149;refine (qff ((uh LK).bel ((Below.refl _ _).drewN _)).d.wd 4 v.frm v.to).mono ?_;rintro e w2 ⟨rfl,k2,d2'⟩;have L2:=ai ((((uh LK).bel ((Below.refl _ _).drewN _))).ke hSw hxw k2 d2');clear k2 d2')
       all_goals (
        go_wp2_with fail
        go_roundg (i-(k+1))
        case measure=>rw [uh hgk'];omega
        case rel=>exact ⟨k+1,ai rfl,by omega,by go_num,by rw [uh HTI];exact uh L2⟩)
      ·have hq:(vk.toList==v.text.toList)=false:=by rw [str_eq];simp [e]
       rw [if_neg e] at HTI
       clear e
       go_wp2_with fail
       go_quiet (fail)
       go_wp2_with fail
       go_roundg (i-(k+1))
       case measure=>rw [uh hgk'];omega
       case rel=>exact ⟨k+1,ai rfl,by omega,by go_num,by rw [uh HTI];exact (uh LK).bel ((Below.refl _ _).drewN _)⟩
     ·have hd':decide ((k:Int)<(i:Int))=false:=by simp;omega
      have ek:k=i:=by omega
      subst ek
      rw [←uh HTK] at LK
      go_wp2_with fail
      go_roundg (vs.length-(k+1))
      case measure=>rw [uh hgk];omega
      case rel=>exact ⟨k+1,ai rfl,by omega,by go_num,uh LK⟩
   ·have hd:decide ((i:Int)<(vs.length:Int))=false:=by simp;omega
    have he:vs.take i=vs:=List.take_of_length_le (by omega)
    rw [he] at LR
    generalize ckV [] vs z1=z2 at LR HQ
    have zw:w.heap.size<wr.heap.size:=(uh LR).b.z
    obtain ⟨NS,hNS⟩:∃NS,Hid (NS=tys.map (·.1)):=⟨_,ai rfl⟩
    obtain ⟨CS,hCS⟩:∃CS,Hid (CS=tys.map (·.2)):=⟨_,ai rfl⟩
    rw [←uh hNS,←uh hCS] at LR
    have hN1:NS.length<1000:=by rw [uh hNS];simpa using hty
    have hC1:CS.length<1000:=by rw [uh hCS];simpa using hty
    have zb:wb<wr.heap.size:=(uh LR).d.z
    obtain ⟨i0,hi0,hz0,hz1,hz2⟩:=info_parts strInfoC
    obtain ⟨j0,hj0,hy0,hy1,hy2⟩:=info_parts intInfoC
    obtain ⟨k0,hk0,hx0,hx1,hx2⟩:=info_parts mksInfoC
    obtain ⟨ca,fa,za⟩:=(uh LR).d.bx
    go_wp2_with fail
    go_cut [] from 13 (fun wc=>∃tv2,LD (SB wb tv cv mv) w wb ⟨true,rc,nm,vp,vs.length,vc,mp,ms.length,mc,bd⟩ lv tv2 cv mv (NS++[nm.text]) CS mks z2 wc)
    case first=>
     have hbW:Below wr.heap.size wr (wr.alloc (.cells #[.string nm.text] 9)).drew:=(bw _).drew
     have LW:=ai ((uh LR).bel hbW)
     go_region_law (refine qd5 rfl (.tmp 70) (.tmp 74) 81 rfl (wb+1) 9 i0 _ 1 16 strsUnderC hi0 hz0 hz1 hz2 rfl (by decide) tv _ _ rfl (uh LW).d.tr ⟨wr.heap.size,0,none⟩ 1 1 [.string nm.text] rfl rfl (qbo _ _ _ _ (by simp)) (by intro u hu;simp at hu;subst hu;rfl) (by unfold maxLen;omega) (by omega) (by simp;omega) ?_;intro v3 w5 hown5 hg5 hloc5;obtain ⟨g5,q5,rfl,zg5,hq5⟩:=qe3 hown5 (by omega);obtain ⟨cg,fg,zg⟩:=Bx.grown hg5 (uh LW).d.bx (fun j hj=>by have:=qai (uh LW).d.tr j hj;omega);have Hown5:=ai hown5;have Hg5:=ai hg5;have Hloc5:=ai hloc5;clear hown5 hg5 hloc5)
     all_goals go_wp2_with fail
     all_goals go_meet
     all_goals exact ⟨_,(uh LW).growT hSw hSx (by simp;omega) hN1 (uh Hg5) (uh Hown5) (uh Hloc5)⟩
    case rest=>
     obtain ⟨tv2,hL2⟩:=hcut
     have L2:=ai hL2
     clear hL2 LR ca fa za c1 f1 y1 zw zb
     have zw:w.heap.size<wc.heap.size:=(uh L2).b.z
     have zb:wb<wc.heap.size:=(uh L2).d.z
     obtain ⟨ca,fa,za⟩:=(uh L2).d.bx
     obtain ⟨c1,f1,y1⟩:=(uh L2).b
     go_wp2_with fail
     go_cut [] from 13 (fun wd=>∃cv2,LD (SB wb tv cv mv) w wb ⟨true,rc,nm,vp,vs.length,vc,mp,ms.length,mc,bd⟩ lv tv2 cv2 mv (NS++[nm.text]) (CS++[vs.length]) mks z2 wd)
     case first=>
      have hbW:Below wc.heap.size wc (wc.alloc (.cells #[.int .i64 (vs.length:Int)] 3)).drew:=(bw _).drew
      have LW:=ai ((uh L2).bel hbW)
      go_region_law (refine qd5 rfl (.tmp 82) (.tmp 86) 89 rfl (wb+1) 3 j0 _ 1 8 intsUnderC hj0 hy0 hy1 hy2 rfl (by decide) cv _ _ rfl (uh LW).d.co ⟨wc.heap.size,0,none⟩ 1 1 [.int .i64 (vs.length:Int)] rfl rfl (qbo _ _ _ _ (by simp)) (by intro u hu;simp at hu;subst hu;rfl) (by unfold maxLen;omega) (by omega) (by simp;omega) ?_;intro v3 w5 hown5 hg5 hloc5;obtain ⟨g5,q5,rfl,zg5,hq5⟩:=qe3 hown5 (by omega);obtain ⟨cg,fg,zg⟩:=Bx.grown hg5 (uh LW).d.bx (fun j hj=>by have:=qai (uh LW).d.co j hj;omega);have Hown5:=ai hown5;have Hg5:=ai hg5;have Hloc5:=ai hloc5;clear hown5 hg5 hloc5)
      all_goals go_wp2_with fail
      all_goals go_meet
      all_goals exact ⟨_,(uh LW).growC hSw hSx (by simp;omega) hC1 (uh Hg5) (uh Hown5) (uh Hloc5)⟩
     case rest=>
      obtain ⟨cv2,hL3⟩:=hcut
      have L3:=ai hL3
      clear hL3 L2 ca fa za c1 f1 y1 zw zb
      obtain ⟨TY,hTY⟩:∃TY,Hid (TY=tys++[(nm.text,vs.length)]):=⟨_,ai rfl⟩
      have e1:NS++[nm.text]=TY.map (·.1):=by rw [uh hNS,uh hTY];simp
      have e2:CS++[vs.length]=TY.map (·.2):=by rw [uh hCS,uh hTY];simp
      rw [e1,e2] at L3
      rw [←uh hTY] at HQ
      clear e1 e2 hNS hCS hN1 hC1
      go_wp2_with fail
      go_loopg [8] ms.length (fun gk c wr=>MOR (SB wb tv cv mv) w wb ⟨true,rc,nm,vp,vs.length,vc,mp,ms.length,mc,bd⟩ lv tv2 cv2 TY mks z2 own ms gk c wr)
      case atStart=>exact ⟨0,mv,mks,ai rfl,Nat.zero_le _,rfl,uh L3,ai rfl,ai rfl⟩
      case round=>
       clear L3
       obtain ⟨j,mv',mks',hgj,hj,rfl,hL,hm1,hm2⟩:=hrel
       have LJ:=ai hL
       clear hL
       obtain ⟨c1,f1,y1⟩:=(uh LJ).b
       have zw:w.heap.size<wr.heap.size:=(uh LJ).b.z
       have zb:wb<wr.heap.size:=(uh LJ).d.z
       by_cases hlt:j<ms.length
       ·have hd:(j:Int)<(ms.length:Int):=by omega
        have HCM:=ai (ckM_take up1 (tyD TY) own ms (mkD mks,z2) j hlt)
        generalize ckM up1 (tyD TY) own (ms.take j) (mkD mks,z2)=qj at HCM LJ hm1
        obtain ⟨g,y,rfl,⟨hg,hgB⟩,h7,hn⟩:=(uh HP) j hlt
        have hsm:=uh HM ms[j] (List.getElem_mem hlt)
        generalize ms[j]=m at HCM hn hsm
        obtain ⟨kd,ss,nn',L,ff,tt,aa⟩:=m
        obtain ⟨hLl,hf4,ha4,hs4⟩:=hsm.len
        have HSP:=ai hsm.part
        have HNR:=ai hn
        obtain ⟨la,cap,rfl,-⟩:=hn.pts
        have h7':at7 wr g j ⟨kd,ss,nn',la,L.length,cap,ff,tt,aa⟩:=fun o ho=>(World.cell?_of_block (a:=⟨g,j*7+o,none⟩) ((uh LJ).k.block g hg (hSB g hgB))).trans (h7 o ho)
        obtain ⟨q0,q1,q2,q3,q4,q5,q6⟩:=qey h7'
        have hsL:(ss.size:Int)=ss.toList.length:=by rw [ByteArray.toList_eq];rfl
        clear hsm hn h7 h7'
        have hbA:Below wr.heap.size wr (wr.alloc (.cells (nvA ⟨kd,ss,nn',la,L.length,cap,ff,tt,aa⟩) 62)):=bw _
        have LA:=ai ((uh LJ).bel hbA)
        have MB:=ai (Bx.new wr (nvA ⟨kd,ss,nn',la,L.length,cap,ff,tt,aa⟩) 62)
        have HC:=ai (maker_C (uh LA).d.wd ss)
        clear hbA
        obtain ⟨c2,f2,y2⟩:=uh MB
        go_wp2_with fail
        refine (uh HC).mono ?_
        rintro e w2 ⟨mm,b,rfl,b2,hmm⟩
        have hb3:Below w2.heap.size w2 (w2.alloc (.cells mm.c 307)):=bw _
        have LB:=ai (((uh LA).bel b2).bel hb3)
        have MB2:=ai (((uh MB).below b2).below hb3)
        have HMM:=ai (mkD_some hmm)
        clear HC b2 hb3 hmm c2 f2 y2 c1 f1 y1 q0 q1 q2 q3 q4 q5 q6 LA MB
        rw [uh hm1] at HMM
        obtain ⟨c2,f2,y2⟩:=uh MB2
        go_upto_if 109 with (fail)
        go_cut [] from 90 to 150 (fun wc=>LD (SB wb tv cv mv) w wb ⟨true,rc,nm,vp,vs.length,vc,some ⟨g,0,none⟩,ms.length,mc,bd⟩ lv tv2 cv2 mv' (TY.map (·.1)) (TY.map (·.2)) mks' (qas b 4 aa (aa+ss.size) qj.2) wc∧Bx wc wr.heap.size (nvA ⟨kd,ss,nn',la,L.length,cap,ff,tt,aa⟩))
        case first=>
         cases b with
         |true=>
          have HC:=ai (qff (uh LB).d.wd 4 aa (aa+ss.size))
          have e4:((4:Nat):Int)=4:=rfl
          have e5:((aa+ss.size:Nat):Int)=(aa:Int)+(ss.toList.length:Int):=by rw [←hsL];simp
          rw [e4,e5] at HC
          go_wp2_with fail
          refine (uh HC).mono ?_
          rintro e w5 ⟨rfl,k5,d5⟩
          have LC:=ai ((uh LB).ke hSw hxw k5 d5)
          have MB3:=ai ((uh MB2).ke k5 (by omega))
          clear k5 d5 HC
          go_wp2_with fail
          go_meet
          case rel=>exact ⟨uh LC,uh MB3⟩
         |false=>
          go_wp2_with fail
          go_meet
          case rel=>exact ⟨uh LB,uh MB2⟩
        case rest=>
         obtain ⟨hL4,hB4⟩:=hcut
         have L4:=ai hL4
         have B4:=ai hB4
         clear hL4 hB4 LB MB2 c2 f2 y2
         have HCM2:=ai (show ckM up1 (tyD TY) own (ms.take (j+1)) (mkD mks,z2)=(up1 qj.1 ss L.length,ckTL (tyD TY) own L (qas b 4 aa (aa+ss.size) qj.2)) by rw [uh HCM,←uh HMM];rfl)
         generalize qas b 4 aa (aa+ss.size) qj.2=zt at L4 HCM2
         have hmk2:mks'.length<1000:=by have:=uh hm2;omega
         have hmb:wr.heap.size≠wb:=by omega
         obtain ⟨c2,f2,y2⟩:=uh B4
         go_wp2_with fail
         clear c2 f2 y2
         go_loopg [12] L.length (fun gk c wq=>MIR (SB wb tv cv mv) w wb ⟨true,rc,nm,vp,vs.length,vc,some ⟨g,0,none⟩,ms.length,mc,bd⟩ lv tv2 cv2 mv' TY mks' zt own L wr.heap.size ⟨kd,ss,nn',la,L.length,cap,ff,tt,aa⟩ gk c wq)
         case atStart=>exact ⟨0,ai rfl,Nat.zero_le _,rfl,uh L4,uh B4⟩
         case round=>
          clear L4 B4
          obtain ⟨k,hgk2,hk,rfl,hL,hB5⟩:=hrel
          have LK:=ai hL
          have BK:=ai hB5
          clear hL hB5
          obtain ⟨c1,f1,y1⟩:=(uh LK).b
          obtain ⟨c2,f2,y2⟩:=uh BK
          by_cases hlk:k<L.length
          ·have hd':(k:Int)<(L.length:Int):=by omega
           have hnr:=(uh HNR).frB (uh LK).k hSB
           obtain ⟨la',cap',e1,hp⟩:=hnr.pts
           injection e1 with _ _ _ e2 _ e3
           subst e2 e3
           obtain ⟨g2,yy,rfl,⟨hg2,-⟩,h72,hy⟩:=hp k hlk
           obtain ⟨q0,q1,q2,q3,q4,q5,q6⟩:=qey h72
           have HT2:=ai (ckTL_take (tyD TY) own L zt k hlk)
           have HTK:=ai ((uh HT).frB (uh LK).k hSB)
           have HY:=ai hy
           have HSM:=ai (uh HSP _ (List.getElem_mem hlk))
           clear hnr hp h72 hy
           go_wp2_with fail
           go_region_with (go_at_call 151;refine (looksType_C L[k] _ wb B lv tv2 cv2 mv' TY mks' _ yy vp vc vs ((uh LK).bel ((Below.refl _ _).drewN _)).d.wd hB ((uh HY).bel ((Below.refl _ _).drewN _)) ((uh HTK).bel ((Below.refl _ _).drewN _)) hvs (uh HSM)).mono ?_;rintro e w5 ⟨rfl,k5,d5⟩;rw [←uh hown,←uh HT2] at d5;have L5:=ai (((uh LK).bel ((Below.refl _ _).drewN _)).ke hSw hxw k5 d5);have B5:=ai (((uh BK).drewN _).ke k5 hmb);clear k5 d5)
           all_goals (
            go_wp2_with fail
            go_roundg (L.length-(k+1))
            case measure=>rw [uh hgk2];omega
            case rel=>exact ⟨k+1,ai rfl,by omega,by go_num,uh L5,uh B5⟩)
          ·have hd':decide ((k:Int)<(L.length:Int))=false:=by simp;omega
           have he:L.take k=L:=List.take_of_length_le (by omega)
           rw [he] at LK
           have zw2:=(uh LK).b.z
           have zb2:=(uh LK).d.z
           obtain ⟨ca,fa,za⟩:=(uh LK).d.bx
           go_wp2_with fail
           have hbW:Below wr.heap.size wr (wr.alloc (.cells (MK.c ⟨ss,⟨kd,ss,nn',la,L.length,cap,ff,tt,aa⟩,n,j⟩) 307)).drew:=(bw _).drew
           have LW:=ai ((uh LK).bel hbW)
           have FIN:Hid (∀(w5:World) (v3:Value) (c:Value),c=.int .i64 ((j:Int)+1)→((wr.alloc (.cells (MK.c ⟨ss,⟨kd,ss,nn',la,L.length,cap,ff,tt,aa⟩,n,j⟩) 307)).drew).grownBy w5 mv'.ownBlock→w5.ownsRow (wb+1) 307 10 v3 (mks'.length+1) (mkCells mks'++MK.l ⟨ss,⟨kd,ss,nn',la,L.length,cap,ff,tt,aa⟩,n,j⟩)→(v3.ownBlock=mv'.ownBlock∨v3.ownBlock=some ((wr.alloc (.cells (MK.c ⟨ss,⟨kd,ss,nn',la,L.length,cap,ff,tt,aa⟩,n,j⟩) 307)).drew).heap.size)→MOR (SB wb tv cv mv) w wb ⟨true,rc,nm,vp,vs.length,vc,some ⟨g,0,none⟩,ms.length,mc,bd⟩ lv tv2 cv2 TY mks z2 own ms (ms.length-(j+1)) c (w5.setCell ⟨wb,3,none⟩ v3)):=ai (fun w5 v3 c hc5 hg5 hown5 hloc5=>⟨j+1,_,mks'++[⟨ss,⟨kd,ss,nn',la,L.length,cap,ff,tt,aa⟩,n,j⟩],ai rfl,by omega,hc5,by rw [uh HCM2];exact (uh LW).growM hSw hSx (by simp;omega) hmk2 hg5 hown5 hloc5,ai (by rw [uh HCM2,mkD_up,uh hm1]),ai (by rw [lqa,uh hm2];simp;omega)⟩)
           clear hbW HCM HCM2 HMM hm1 hm2 HNR HSP HT HP HM LJ LK hgk2
           go_region_law (refine qd5 rfl (.tmp 140) (.tmp 147) 98 rfl (wb+1) 307 k0 _ 10 112 mksUnderC hk0 hx0 hx1 hx2 rfl (by decide) mv' _ _ rfl (uh LW).d.mo ⟨wr.heap.size,0,none⟩ 1 1 (MK.l ⟨ss,⟨kd,ss,nn',la,L.length,cap,ff,tt,aa⟩,n,j⟩) rfl rfl (qbo _ _ _ _ (by simp)) (by intro u hu;simp [MK.l] at hu;rcases hu with rfl|rfl|rfl|rfl|rfl|rfl|rfl|rfl|rfl|rfl<;>rfl) (by unfold maxLen;omega) (by omega) (by simp;omega) ?_;intro v3 w5 hown5 hg5 hloc5;obtain ⟨g5,q5,rfl,zg5,hq5⟩:=qe3 hown5 (by omega);obtain ⟨cg,fg,zg⟩:=Bx.grown hg5 (uh LW).d.bx (fun j hj=>by have:=qai (uh LW).d.mo j hj;omega);have Hown5:=ai hown5;have Hg5:=ai hg5;have Hloc5:=ai hloc5;clear hown5 hg5 hloc5)
           all_goals (
            go_wp2_with fail
            go_roundg (ms.length-(j+1))
            case measure=>rw [uh hgj];omega
            case rel=>exact uh FIN _ _ _ (by go_num) (uh Hg5) (uh Hown5) (uh Hloc5))
       ·have hd:decide ((j:Int)<(ms.length:Int))=false:=by simp;omega
        have he:ms.take j=ms:=List.take_of_length_le (by omega)
        rw [he,←uh HQ] at LJ hm1
        have ejm:j=ms.length:=by omega
        have HLN:=ai (show mks'.length=mks.length+ms.length by rw [uh hm2,ejm])
        clear ejm
        go_wp2_with fail
        go_end0
        exact ⟨rfl,tv2,cv2,mv',mks',uh hTY▸(uh LJ).d.wd,uh hm1,uh HLN,(uh LJ).k,fun b q=>((uh LJ).o b q).elim Or.inl (fun q=>Or.inr (Nat.le_of_lt q))⟩
end
end
end Go.Proofs.YtoceemjbcgmojaaGreatDoor

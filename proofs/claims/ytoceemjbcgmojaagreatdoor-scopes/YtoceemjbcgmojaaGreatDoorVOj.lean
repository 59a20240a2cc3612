import Derived.Test.YtoceemjbcgmojaaGreatDoorVWh
import Derived.Test.YtoceemjbcgmojaaGreatDoorVYb
import Derived.Test.YtoceemjbcgmojaaGreatDoorVCj0
import Derived.Test.YtoceemjbcgmojaaGreatDoorVOe
import Derived.Test.YtoceemjbcgmojaaGreatDoorVCk
import Derived.Test.YtoceemjbcgmojaaGreatDoorVCm
set_option linter.all false
set_option maxRecDepth 100000
set_option maxHeartbeats 8000000
namespace Go.Proofs.YtoceemjbcgmojaaGreatDoor
section
open Go Go.RowKit Go.ChangeMaps Go.MapKept
section
variable {cb tb mb lb kb B:Nat} {ty mk F:BA→Option Nat} {lo:BA→Nat} {w0 w wr w' w1:World} {f f':Fl}
theorem FM.one' {b c:Nat} (h:FM w b F) (o:One c w w') (hn:b≠c):FM w' b F:=h.same (o.block b hn)
theorem declare_P (h:CK w cb tb mb lb ty mk lo f) (hk:FM w kb F) (hn:kb≠cb) (a b n:Nat) (s:BA):
 Calls Tryz.prog 312 #[cp cb,.map (some kb),.agg #[.int .i64 (a:Int),.int .i64 (b:Int),.string s],.int .i64 (n:Int)] w fun e w'=>e=.returned (.tuple #[])∧∃w1,Ke cb w w1∧CK w1 cb tb mb lb ty mk lo (qas (F s).isSome 4 a b f)∧One kb w1 w'∧FM w' kb (up2 F s n):=by
 have hbA:Below w.heap.size w (w.alloc (.cells #[.int .i64 (a:Int),.int .i64 (b:Int),.string s] 214)):=bw _
 have D1:=ai (h.bel hbA)
 have K1:=ai (Ke.of (rb:=cb) hbA)
 have M1:=ai (hk.below hbA)
 have B1:=ai (Bx.new w #[.int .i64 (a:Int),.int .i64 (b:Int),.string s] 214)
 have HC:=ai (has_P (v:=.map (some kb)) (Or.inr ⟨kb,rfl,uh M1⟩) s)
 have hz:=h.z
 obtain ⟨c1,f1,y1⟩:=uh B1
 clear h hk hbA
 go_enter Tryz.func312,Tryz.ntmps312
 go_wp2_with fail
 refine (uh HC).mono ?_
 rintro e w2 ⟨rfl,rfl⟩
 cases hF:(F s).isSome with
 |true=>
  have HC2:=ai (tell_P (uh D1) 4 a b)
  go_wp2_with fail
  refine (uh HC2).mono ?_
  rintro e w3 ⟨rfl,k3,d3⟩
  have K3:=ai ((uh K1).trans k3)
  have D3:=ai d3
  have B3:=ai ((uh B1).ke' k3 (by omega))
  obtain ⟨L,hM,hL⟩:=(uh M1).ke k3 hn
  have HM:=ai hM
  have HL:=ai hL
  clear k3 d3 HC2 c1 f1 y1 hM hL
  obtain ⟨c1,f1,y1⟩:=uh B3
  go_wp2_with (refine qbj _ rfl _ _ _ _ (Or.inr rfl) (KL.str Tryz.underlying9) Tryz.underlying302 _ _ rfl (uh HM) s (.int .i64 (n:Int)) rfl rfl trivial (fun _ _=>trivial) ?_;intro w4 H' O';have M4:=ai H';have O4:=ai O';clear H' O')
  go_end0
  exact ⟨rfl,_,uh K3,uh D3,uh O4,_,uh M4,FM.put (uh HL) s n⟩
 |false=>
  obtain ⟨L,hM,hL⟩:=uh M1
  have HM:=ai hM
  have HL:=ai hL
  clear hM hL
  go_wp2_with (refine qbj _ rfl _ _ _ _ (Or.inr rfl) (KL.str Tryz.underlying9) Tryz.underlying302 _ _ rfl (uh HM) s (.int .i64 (n:Int)) rfl rfl trivial (fun _ _=>trivial) ?_;intro w4 H' O';have M4:=ai H';have O4:=ai O';clear H' O')
  go_end0
  exact ⟨rfl,_,uh K1,uh D1,uh O4,_,uh M4,FM.put (uh HL) s n⟩
theorem CK.tyPut (h:CK w1 cb tb mb lb ty mk lo f) (o:One tb w1 w') (m:FM w' tb F):CK w' cb tb mb lb F mk lo f:=
 ⟨h.bx.one o h.ct,m,h.m.one' o h.tm.symm,h.l.same (o.block lb h.tl.symm),h.ct,h.cm,h.cl,h.tm,h.tl,h.ml⟩
theorem CK.mkPut (h:CK w1 cb tb mb lb ty mk lo f) (o:One mb w1 w') (m:FM w' mb F):CK w' cb tb mb lb ty F lo f:=
 ⟨h.bx.one o h.cm,h.t.one' o h.tm,m,h.l.same (o.block lb h.ml.symm),h.ct,h.cm,h.cl,h.tm,h.tl,h.ml⟩
end
end
section
open Go Go.RowKit Go.ChangeMaps Go.MapKept
theorem ext_list {s:BA} {r:List UInt8} (h:s.toList=39::r):(s.extract 1 s.size).toList=r:=by
 rw [ByteArray.toList_eq] at h⊢
 rw [ByteArray.data_extract]
 simp
 rw [h]
 have:s.size=(39::r).length:=by rw [←h];simp
 rw [this]
 simp
theorem ext_inj {s t:BA} (hs:∃r,s.toList=39::r) (ht:∃r,t.toList=39::r) (h:s.extract 1 s.size=t.extract 1 t.size):s=t:=by
 obtain ⟨r,hr⟩:=hs
 obtain ⟨q,hq⟩:=ht
 have:r=q:=by rw [←ext_list hr,←ext_list hq,h]
 exact toList_inj (by rw [hr,hq,this])
theorem OwnR.up {own:List BA} {F:BA→Option Nat} (h:OwnR own F) {s:BA} (hs:∃r,s.toList=39::r) (n:Nat):OwnR (own++[s]) (up2 F (s.extract 1 s.size) n):=fun x hx=>by
 have e:inL x (own++[s])=(inL x own||decide (s=x)):=by unfold inL;rw [List.any_append];simp only [List.any_cons,List.any_nil,Bool.or_false]
 rw [e]
 unfold up2
 by_cases q:s=x
 ·subst q;simp
 ·rw [if_neg (fun e=>q (ext_inj hs hx e.symm)),h x hx];simp [q]
structure CD (cb tb mb lb ob:Nat) (ty mk:BA→Option Nat) (lo:BA→Nat) (F:BA→Option Nat) (w0:World) (xb:Nat) (C:Array Value) (f:Fl) (wr:World):Prop where
 d:CK wr cb tb mb lb ty mk lo f
 k:Fr (fun b=>b=cb∨b=tb∨b=mb) w0 wr
 o:FM wr ob F
 b:Bx wr xb C
section
variable {cb tb mb lb ob B xb:Nat} {C:Array Value} {ty mk F F' mk':BA→Option Nat} {lo:BA→Nat} {w0 w wr w' w1:World} {f f':Fl}
theorem CD.bel (h:CD cb tb mb lb ob ty mk lo F w0 xb C f wr) (hb:Below wr.heap.size wr w'):CD cb tb mb lb ob ty mk lo F w0 xb C f w':=⟨h.d.bel hb,h.k.trans (Fr.of hb),h.o.below hb,h.b.below hb⟩
theorem CD.ke (h:CD cb tb mb lb ob ty mk lo F w0 xb C f wr) (hk:Ke cb wr w') (d:CK w' cb tb mb lb ty mk lo f') (ho:ob≠cb) (hx:xb≠cb):CD cb tb mb lb ob ty mk lo F w0 xb C f' w':=
 ⟨d,h.k.trans ⟨hk.os,hk.tape,hk.output,hk.size,fun b hb hn=>hk.block b hb (fun e=>hn (Or.inl e))⟩,h.o.ke hk ho,h.b.ke' hk hx⟩
theorem CD.oPut (h:CD cb tb mb lb ob ty mk lo F w0 xb C f wr) (o:One ob wr w') (m:FM w' ob F') (n:ob≠cb∧ob≠tb∧ob≠mb∧ob≠lb) (hz:w0.heap.size≤ob) (hx:xb≠ob):CD cb tb mb lb ob ty mk lo F' w0 xb C f w':=
 ⟨h.d.one o n,h.k.trans' (⟨o.os,o.tape,o.output,by rw [o.size];exact br _,fun b _ hn=>o.block b hn⟩:Fr (fun b=>b=ob) wr w') (fun b q=>Or.inr (by have q:b=ob:=q;omega)),m,h.b.one o hx⟩
theorem CD.mPut (h:CD cb tb mb lb ob ty mk lo F w0 xb C f wr) (o:One mb wr w') (m:FM w' mb mk') (ho:ob≠mb) (hx:xb≠mb):CD cb tb mb lb ob ty mk' lo F w0 xb C f w':=
 ⟨h.d.mkPut o m,h.k.trans ⟨o.os,o.tape,o.output,by rw [o.size];exact br _,fun b _ hn=>o.block b (fun e=>hn (Or.inr (Or.inr e)))⟩,h.o.one' o ho,h.b.one o hx⟩
theorem MV'.of {b:Nat} (h:FM w b F):MV' w (.map (some b)) F:=Or.inr ⟨b,rfl,h⟩
def PVR (cb tb mb lb ob:Nat) (ty mk:BA→Option Nat) (lo:BA→Nat) (w0:World) (xb:Nat) (C:Array Value) (z:Fl) (vs:List Pu.Tok) (own:List BA) (gk:Nat) (c:Value) (wr:World):Prop:=∃(i:Nat) (F:BA→Option Nat),Hid (gk=vs.length-i)∧i≤vs.length∧c=.int .i64 (i:Int)∧CD cb tb mb lb ob ty mk lo F w0 xb C (ckV [] (vs.take i) z) wr∧OwnR (own.take i) F
def PMR (cb tb mb lb ob:Nat) (ty mk:BA→Option Nat) (lo:BA→Nat) (F:BA→Option Nat) (w0:World) (xb:Nat) (C:Array Value) (z:Fl) (ms:List Nd) (own:List BA) (gk:Nat) (c:Value) (wr:World):Prop:=∃j:Nat,Hid (gk=ms.length-j)∧j≤ms.length∧c=.int .i64 (j:Int)∧CD cb tb mb lb ob ty (ckM up2 ty own (ms.take j) (mk,z)).1 lo F w0 xb C (ckM up2 ty own (ms.take j) (mk,z)).2 wr
def ckM1' (u:Upd) (ty:BA→Option Nat) (own:List BA):Nd→(BA→Option Nat)×Fl→(BA→Option Nat)×Fl
 |.mk _ s _ L _ _ a,q=>(u q.1 s L.length,ckTL ty own L (qas (q.1 s).isSome 4 a (a+s.size) q.2))
theorem ckM_app' (u:Upd) (ty:BA→Option Nat) (own:List BA):∀(l:List Nd) (m:Nd) (q:(BA→Option Nat)×Fl),ckM u ty own (l++[m]) q=ckM1' u ty own m (ckM u ty own l q)
 |[],.mk _ _ _ _ _ _ _,q=>rfl
 |.mk _ _ _ _ _ _ _::r,m,q=>ckM_app' u ty own r m _
theorem ckM_take' (u:Upd) (ty:BA→Option Nat) (own:List BA) (ms:List Nd) (q:(BA→Option Nat)×Fl) (j:Nat) (h:j<ms.length):ckM u ty own (ms.take (j+1)) q=ckM1' u ty own ms[j] (ckM u ty own (ms.take j) q):=by
 rw [List.take_succ_eq_append_getElem h,ckM_app']
theorem typeDecl_P {t:Pu.Tok} {vs:List Pu.Tok} {ms:List Nd} {vv vm:Value} {x y:Int} (h:CK w cb tb mb lb ty mk lo f) (hB:B≤cb) (hBt:B≤tb) (hBm:B≤mb) (hBl:B≤lb) (hv:RowV QName 3 w (·<B) vs vv) (hm:RowV QMaker 6 w (·<B) ms vm) (hvs:vs.length≤1000) (hms:∀m∈ms,Sm m) (hml:ms.length≤1000):
 Calls Tryz.prog 216 #[cp cb,.agg #[.int .i64 x,.int .i64 y,.int .i64 (t.frm:Int),.int .i64 (t.to:Int),.string t.text,vv,vm]] w fun e w'=>e=.returned (.tuple #[])∧Fr (fun b=>b=cb∨b=tb∨b=mb) w w'∧CK w' cb tb mb lb (up2 ty t.text vs.length) (ckM up2 (up2 ty t.text vs.length) (vs.map (·.text)) ms (mk,ckV [] vs (qas (ty t.text).isSome 4 t.frm t.to f))).1 lo (ckM up2 (up2 ty t.text vs.length) (vs.map (·.text)) ms (mk,ckV [] vs (qas (ty t.text).isSome 4 t.frm t.to f))).2:=by
 obtain ⟨va,vc,cv,rfl,hvr,hvq⟩:=hv
 obtain ⟨ma,mc,cm,rfl,hmr,hmq⟩:=hm
 obtain ⟨C,hC⟩:∃C:Array Value,Hid (C=#[.int .i64 x,.int .i64 y,.int .i64 (t.frm:Int),.int .i64 (t.to:Int),.string t.text,.slice va vs.length vc,.slice ma ms.length mc]):=⟨_,ai rfl⟩
 have hmm:= @run_makeMap Tryz.prog
 have HVR:=ai hvr
 have HVQ:=ai hvq
 have HMR:=ai hmr
 have HMQ:=ai hmq
 have HMS:=ai hms
 obtain ⟨z1,z2,z3,z4⟩:=h.lts
 have hbA:Below w.heap.size w (w.alloc (.cells #[.int .i64 x,.int .i64 y,.int .i64 (t.frm:Int),.int .i64 (t.to:Int),.string t.text,.slice va vs.length vc,.slice ma ms.length mc] 250)):=bw _
 have D1:=ai (h.bel hbA)
 have F1:Hid (Fr (fun b=>b=cb∨b=tb∨b=mb) w (w.alloc (.cells #[.int .i64 x,.int .i64 y,.int .i64 (t.frm:Int),.int .i64 (t.to:Int),.string t.text,.slice va vs.length vc,.slice ma ms.length mc] 250))):=ai (Fr.of hbA)
 have B1:=ai (Bx.new w #[.int .i64 x,.int .i64 y,.int .i64 (t.frm:Int),.int .i64 (t.to:Int),.string t.text,.slice va vs.length vc,.slice ma ms.length mc] 250)
 obtain ⟨own,hown⟩:∃own,Hid (own=vs.map (·.text)):=⟨_,ai rfl⟩
 have ho:own.length=vs.length:=by rw [uh hown];simp
 obtain ⟨TY,hTY⟩:∃TY,Hid (TY=up2 ty t.text vs.length):=⟨_,ai rfl⟩
 obtain ⟨Q,HQ⟩:∃Q,Hid (Q=ckM up2 TY own ms (mk,ckV [] vs (qas (ty t.text).isSome 4 t.frm t.to f))):=⟨_,ai rfl⟩
 rw [←uh hown,←uh hTY,←uh HQ]
 have hSB:∀b,b<B→¬(b=cb∨b=tb∨b=mb):=fun b hb q=>by omega
 have hct:=h.ct
 have htc:tb≠cb:=fun e=>h.ct e.symm
 have hmc:mb≠cb:=fun e=>h.cm e.symm
 obtain ⟨c1,f1,y1⟩:=uh B1
 obtain ⟨c2,f2,y2⟩:=(uh D1).bx
 clear h hvr hvq hmr hmq hms hbA
 go_enter Tryz.func216,Tryz.ntmps216
 go_wp2_with fail
 go_cut [] from 9 (fun wc=>CK wc cb tb mb lb TY mk lo (qas (ty t.text).isSome 4 t.frm t.to f)∧Fr (fun b=>b=cb∨b=tb∨b=mb) w wc∧Bx wc w.heap.size #[.int .i64 x,.int .i64 y,.int .i64 (t.frm:Int),.int .i64 (t.to:Int),.string t.text,.slice va vs.length vc,.slice ma ms.length mc])
 case first=>
  go_region_with (go_at_call 312;refine (declare_P ((uh D1).bel (Below.refl _ _).drew) ((uh D1).bel (Below.refl _ _).drew).t htc t.frm t.to vs.length t.text).mono ?_;rintro e w3 ⟨rfl,w2,k2,d2,o2,m2⟩;have D3:=ai (d2.tyPut o2 m2);have F3:=ai (((uh F1).drew.trans (⟨k2.os,k2.tape,k2.output,k2.size,fun b hb hn=>k2.block b hb (fun e=>hn (Or.inl e))⟩:Fr (fun b=>b=cb∨b=tb∨b=mb) _ _)).trans (⟨o2.os,o2.tape,o2.output,by rw [o2.size];exact br _,fun b _ hn=>o2.block b (fun e=>hn (Or.inr (Or.inl e)))⟩:Fr (fun b=>b=cb∨b=tb∨b=mb) _ _));have B3:=ai (((uh B1).drew'.ke' k2 (by omega)).one o2 (by omega));clear k2 d2 o2 m2)
  all_goals (
   go_wp2_with fail
   go_meet
   case rel=>exact ⟨by rw [uh hTY];exact uh D3,uh F3,uh B3⟩)
 case rest=>
  obtain ⟨hD,hF,hB2⟩:=hcut
  have D2:=ai hD
  have F2:=ai hF
  have B2:=ai hB2
  have hw2:=hF.size
  clear hD hF hB2 D1 F1 B1 c1 f1 y1 c2 f2 y2
  generalize qas (ty t.text).isSome 4 t.frm t.to f=z1' at D2 HQ
  have X3:Hid (CD cb tb mb lb wc.heap.size TY mk lo (fun _=>none) w w.heap.size #[.int .i64 x,.int .i64 y,.int .i64 (t.frm:Int),.int .i64 (t.to:Int),.string t.text,.slice va vs.length vc,.slice ma ms.length mc] z1' (wc.alloc (.map #[] 0))):=ai ⟨(uh D2).bel (bw _),(uh F2).trans (Fr.of (bw _)),⟨[],MS.new _ wc,fun x=>rfl⟩,(uh B2).alloc _⟩
  obtain ⟨zc1,zc2,zc3,zc4⟩:=(uh D2).lts
  have zB:=(uh B2).z
  have hob:wc.heap.size≠cb∧wc.heap.size≠tb∧wc.heap.size≠mb∧wc.heap.size≠lb:=⟨by omega,by omega,by omega,by omega⟩
  have hxo:w.heap.size≠wc.heap.size:=by omega
  obtain ⟨c1,f1,y1⟩:=(uh X3).b
  clear D2 F2 B2
  go_wp2_with fail
  clear c1 f1 y1
  go_loopg [24] vs.length (fun gk c wr=>PVR cb tb mb lb wc.heap.size TY mk lo w w.heap.size #[.int .i64 x,.int .i64 y,.int .i64 (t.frm:Int),.int .i64 (t.to:Int),.string t.text,.slice va vs.length vc,.slice ma ms.length mc] z1' vs own gk c wr)
  case atStart=>exact ⟨0,_,ai rfl,Nat.zero_le _,rfl,uh X3,fun s _=>by simp [inL]⟩
  case round=>
   clear X3
   obtain ⟨i,F,hgk,hi,rfl,hX,hO⟩:=hrel
   have XR:=ai hX
   have HO:=ai hO
   have hsw:=hX.k.size
   clear hX hO
   obtain ⟨c1,f1,y1⟩:=(uh XR).b
   by_cases hlt:i<vs.length
   ·have hd:(i:Int)<(vs.length:Int):=by omega
    obtain ⟨g,rfl,hgB,hg,hcc⟩:∃g,va=some ⟨g,0,none⟩∧g<B∧g<w.heap.size∧∀i,i<vs.length→∀j,j<3→w.cell? ⟨g,i*3+j,none⟩=some (cv i j):=by
     rcases uh HVR with e|e
     ·exact absurd hlt (by simp [e])
     ·exact e
    have cel:∀o,wr.cell? ⟨g,o,none⟩=w.cell? ⟨g,o,none⟩:=fun o=>World.cell?_of_block (a:=⟨g,o,none⟩) ((uh XR).k.block g hg (hSB g hgB))
    have d0:=(cel _).trans (hcc i hlt 0 (by omega))
    have d1:=(cel _).trans (hcc i hlt 1 (by omega))
    have d2:=(cel _).trans (hcc i hlt 2 (by omega))
    obtain ⟨e0,e1,e2,e3,e4⟩:=uh HVQ i hlt
    rw [e0] at d0
    rw [e1] at d1
    rw [e2] at d2
    simp only [Nat.add_zero] at d0
    have HTK:=ai (ckV_take vs z1' i hlt)
    rw [←uh hown] at HTK
    have HOS:=ai (uh HO vs[i].text e3)
    have HOU:=ai (show OwnR (own.take (i+1)) (up2 F (vs[i].text.extract 1 vs[i].text.size) 0) by
     have hlo:i<own.length:=by omega
     have eo:own[i]=vs[i].text:=by simp [uh hown]
     rw [List.take_succ_eq_append_getElem hlo,eo]
     exact (uh HO).up e3 0)
    generalize ckV [] (vs.take i) z1'=zi at XR HTK
    generalize vs[i]=v at d0 d1 d2 HTK HOS HOU
    have hbA:Below wr.heap.size wr (wr.alloc (.cells #[.int .i64 (v.frm:Int),.int .i64 (v.to:Int),.string (v.text.extract 1 v.text.size)] 214)):=bw _
    have XA:=ai ((uh XR).bel hbA)
    have BA:=ai (Bx.new wr #[.int .i64 (v.frm:Int),.int .i64 (v.to:Int),.string (v.text.extract 1 v.text.size)] 214)
    have HC:=ai (declare_P (uh XA).d (uh XA).o hob.1 v.frm v.to 0 (v.text.extract 1 v.text.size))
    rw [uh HOS,←uh HTK] at HC
    obtain ⟨c2,f2,y2⟩:=uh BA
    clear hbA e0 e1 e2 e3 e4 cel hcc
    go_wp2_with fail
    refine (uh HC).mono ?_
    rintro e w3 ⟨rfl,w2,k2,dd2,o2,m2⟩
    have X5:=ai (((uh XA).ke k2 dd2 hob.1 (by omega)).oPut o2 m2 hob (by omega) hxo)
    clear k2 dd2 o2 m2 HC
    go_wp2_with fail
    go_roundg (vs.length-(i+1))
    case measure=>rw [uh hgk];omega
    case rel=>exact ⟨i+1,_,ai rfl,by omega,by go_num,uh X5,uh HOU⟩
   ·have hd:decide ((i:Int)<(vs.length:Int))=false:=by simp;omega
    have he:vs.take i=vs:=List.take_of_length_le (by omega)
    have he2:own.take i=own:=List.take_of_length_le (by omega)
    rw [he] at XR
    rw [he2] at HO
    generalize ckV [] vs z1'=z2' at XR HQ
    go_wp2_with fail
    clear c1 f1 y1
    go_loopg [36] ms.length (fun gk c wr=>PMR cb tb mb lb wc.heap.size TY mk lo F w w.heap.size #[.int .i64 x,.int .i64 y,.int .i64 (t.frm:Int),.int .i64 (t.to:Int),.string t.text,.slice va vs.length vc,.slice ma ms.length mc] z2' ms own gk c wr)
    case atStart=>exact ⟨0,ai rfl,Nat.zero_le _,rfl,uh XR⟩
    case round=>
     clear XR
     obtain ⟨j,hgj,hj,rfl,hX⟩:=hrel
     have XJ:=ai hX
     have hsj:=hX.k.size
     clear hX
     obtain ⟨c1,f1,y1⟩:=(uh XJ).b
     by_cases hlj:j<ms.length
     ·have hd':(j:Int)<(ms.length:Int):=by omega
      obtain ⟨g,rfl,hgB,hg,hcc⟩:∃g,ma=some ⟨g,0,none⟩∧g<B∧g<w.heap.size∧∀i,i<ms.length→∀j,j<6→w.cell? ⟨g,i*6+j,none⟩=some (cm i j):=by
       rcases uh HMR with e|e
       ·exact absurd hlj (by simp [e])
       ·exact e
      have cel:∀o,wr.cell? ⟨g,o,none⟩=w.cell? ⟨g,o,none⟩:=fun o=>World.cell?_of_block (a:=⟨g,o,none⟩) ((uh XJ).k.block g hg (hSB g hgB))
      have d0:=(cel _).trans (hcc j hlj 0 (by omega))
      have d1:=(cel _).trans (hcc j hlj 1 (by omega))
      have d2:=(cel _).trans (hcc j hlj 2 (by omega))
      have d3:=(cel _).trans (hcc j hlj 3 (by omega))
      have d4:=(cel _).trans (hcc j hlj 4 (by omega))
      have d5:=(cel _).trans (hcc j hlj 5 (by omega))
      obtain ⟨ss,nn',L,mf,mt,aa,yy,vt,e0,q0,q1,q2,q3,q4,q5,hu,hyy,ta,tc,ct,rfl,htr,htq⟩:=uh HMQ j hlj
      rw [q0] at d0
      rw [q1] at d1
      rw [q2] at d2
      rw [q3] at d3
      rw [q4] at d4
      rw [q5] at d5
      simp only [Nat.add_zero] at d0
      have HSM:=ai (show Sm (.mk 2 ss nn' L mf mt aa) by rw [←e0];exact uh HMS _ (List.getElem_mem hlj))
      obtain ⟨hLl,hf4,ha4,hs4⟩:=(uh HSM).len
      have HTK:=ai (ckM_take' up2 TY own ms (mk,z2') j hlj)
      rw [e0] at HTK
      unfold ckM1' at HTK
      generalize ckM up2 TY own (ms.take j) (mk,z2')=qj at XJ HTK
      obtain ⟨mkj,zj⟩:=qj
      simp only at HTK XJ
      have HYY:=ai hyy
      have HTR:=ai htr
      have HTQ:=ai htq
      have hbA:Below wr.heap.size wr (wr.alloc (.cells #[.int .i64 (mf:Int),.int .i64 (mt:Int),.int .i64 (aa:Int),.int .i64 (yy:Int),.string ss,.slice ta L.length tc] 372)):=bw _
      have XA:=ai ((uh XJ).bel hbA)
      have BA:=ai (Bx.new wr #[.int .i64 (mf:Int),.int .i64 (mt:Int),.int .i64 (aa:Int),.int .i64 (yy:Int),.string ss,.slice ta L.length tc] 372)
      obtain ⟨zr1,zr2,zr3,zr4⟩:=(uh XJ).d.lts
      have zro:=(uh XJ).o.lt
      have zrx:=(uh XJ).b.z
      obtain ⟨c2,f2,y2⟩:=uh BA
      obtain ⟨c3,f3,y3⟩:=(uh XA).d.bx
      clear hbA q0 q1 q2 q3 q4 q5 cel hcc hyy htr htq e0 XJ c1 f1 y1
      go_wp2_with fail
      go_cut [] from 37 to 56 (fun wd=>CD cb tb mb lb wc.heap.size TY (up2 mkj ss L.length) lo F w w.heap.size #[.int .i64 x,.int .i64 y,.int .i64 (t.frm:Int),.int .i64 (t.to:Int),.string t.text,.slice va vs.length vc,.slice (some ⟨g,0,none⟩) ms.length mc] (qas (mkj ss).isSome 4 aa (aa+ss.size) zj) wd∧Bx wd wr.heap.size #[.int .i64 (mf:Int),.int .i64 (mt:Int),.int .i64 (aa:Int),.int .i64 (yy:Int),.string ss,.slice ta L.length tc])
      case first=>
       go_region_with (go_at_call 312;refine (declare_P ((uh XA).bel (Below.refl _ _).drew).d ((uh XA).bel (Below.refl _ _).drew).d.m hmc aa yy L.length ss).mono ?_;rintro e w3 ⟨rfl,w2,k2,dd2,o2,m2⟩;have X3:=ai ((((uh XA).bel (Below.refl _ _).drew).ke k2 dd2 hob.1 (by omega)).mPut o2 m2 hob.2.2.1 (by omega));have B3:=ai (((uh BA).drew'.ke' k2 (by omega)).one o2 (by omega));clear k2 dd2 o2 m2)
       all_goals (
        go_wp2_with fail
        go_meet
        case rel=>exact ⟨by rw [←uh HYY];exact uh X3,uh B3⟩)
      case rest=>
       obtain ⟨hX,hB3⟩:=hcut
       have X4:=ai hX
       have B4:=ai hB3
       clear hX hB3 XA BA c2 f2 y2 c3 f3 y3
       generalize qas (mkj ss).isSome 4 aa (aa+ss.size) zj=zt at X4 HTK
       obtain ⟨c2,f2,y2⟩:=uh B4
       have HC:=ai (typesOf_P (sa:=ta) (sc:=tc) (vs:=fun i=>ct i 0) (own:=own) (fun x _=>typeOf_P x) (uh X4).d hB (by
        rcases uh HTR with q|⟨g',e,q1,q2,q3⟩
        ·exact Or.inl q
        ·refine Or.inr ⟨g',e,q1,Nat.lt_of_lt_of_le q2 (uh X4).k.size,fun i hi=>?_⟩
         have:=q3 i hi 0 (by omega)
         rw [Nat.mul_one,Nat.add_zero] at this
         exact (World.cell?_of_block (a:=⟨g',i,none⟩) ((uh X4).k.block g' q2 (hSB g' q1))).trans this) (fun i hi=>(uh HTQ i hi:PT w (·<B) L[i] (ct i 0)).frB (uh X4).k hSB) (MV'.of (uh X4).o) (fun b q=>by cases q;exact hob.1) (uh HO) (uh HSM).part hLl)
       go_wp2_with fail
       refine (uh HC).mono ?_
       rintro e w5 ⟨rfl,k5,d5'⟩
       have X5:=ai ((uh X4).ke k5 d5' hob.1 (by omega))
       clear k5 d5' HC
       go_wp2_with fail
       go_roundg (ms.length-(j+1))
       case measure=>rw [uh hgj];omega
       case rel=>exact ⟨j+1,ai rfl,by omega,by go_num,by rw [uh HTK];exact uh X5⟩
     ·have hd':decide ((j:Int)<(ms.length:Int))=false:=by simp;omega
      have he3:ms.take j=ms:=List.take_of_length_le (by omega)
      rw [he3,←uh HQ] at XJ
      go_wp2_with fail
      go_end0
      exact ⟨rfl,(uh XJ).k,(uh XJ).d⟩
end
end
section
open Go Go.RowKit Go.ChangeMaps Go.MapKept
theorem Fr.wide {S T:Nat→Prop} {a b:World} (h:Fr S a b) (hS:∀x,S x→T x):Fr T a b:=⟨h.os,h.tape,h.output,h.size,fun k hk hn=>h.block k hk (fun q=>hn (hS k q))⟩
section
variable {cb tb mb lb B:Nat} {lo:BA→Nat} {w:World} {e0:SE}
theorem up_ty0:up2 (up2 (up2 (fun _=>none) kInt 0) kBool 0) kUnit 0=ty0:=by
 funext x
 unfold up2 ty0
 by_cases h1:x=kInt
 ·simp [h1]
 ·by_cases h2:x=kBool
  ·simp [h2]
  ·by_cases h3:x=kUnit
   ·simp [h3]
   ·simp [h1,h2,h3]
theorem newChecker_P:Calls Tryz.prog 146 #[] w fun e w'=>∃cb tb mb lb,e=.returned (cp cb)∧Below w.heap.size w w'∧(w.heap.size≤cb∧w.heap.size≤tb∧w.heap.size≤mb∧w.heap.size≤lb)∧CK w' cb tb mb lb ty0 (fun _=>none) (fun _=>0) noFl:=by
 have hmm:= @run_makeMap Tryz.prog
 have H:=ai (MS.new Value.string w)
 have HF:Hid (∀x,got x ([]:List (BA×Value))=((fun _=>none:BA→Option Nat) x).map fun (n:Nat)=>Value.int .i64 (n:Int)):=ai (fun x=>rfl)
 have HB:=ai ((Below.refl w.heap.size w).alloc (br _) (.map #[] 0))
 have hz:(w.alloc (.map #[] 0)).heap.size=w.heap.size+1:=by simp
 have HZ:=ai hz
 clear hz
 go_enter Tryz.func146,Tryz.ntmps146
 go_wp2_with (first
  |(refine qbj _ rfl _ _ _ _ (Or.inl rfl) (KL.str Tryz.underlying9) Tryz.underlying302 _ _ rfl (uh H) kInt (.int .i64 ((0:Nat):Int)) rfl rfl trivial (fun _ _=>trivial) ?_;intro w1 H' O';have H1:=ai H';have HF1:=ai (FM.put (uh HF) kInt 0);have HB1:=ai (One.below (uh HB) O' (br _));have HZ1:=ai (O'.size.trans (uh HZ));clear H' O' H HF HB HZ)
  |(refine qbj _ rfl _ _ _ _ (Or.inl rfl) (KL.str Tryz.underlying9) Tryz.underlying302 _ _ rfl (uh H1) kBool (.int .i64 ((0:Nat):Int)) rfl rfl trivial (fun _ _=>trivial) ?_;intro w2 H' O';have H2:=ai H';have HF2:=ai (FM.put (uh HF1) kBool 0);have HB2:=ai (One.below (uh HB1) O' (br _));have HZ2:=ai (O'.size.trans (uh HZ1));clear H' O' H1 HF1 HB1 HZ1)
  |(refine qbj _ rfl _ _ _ _ (Or.inl rfl) (KL.str Tryz.underlying9) Tryz.underlying302 _ _ rfl (uh H2) kUnit (.int .i64 ((0:Nat):Int)) rfl rfl trivial (fun _ _=>trivial) ?_;intro w3 H' O';have H3:=ai H';have HF3:=ai (FM.put (uh HF2) kUnit 0);have HB3:=ai (One.below (uh HB2) O' (br _));have HZ3:=ai (O'.size.trans (uh HZ2));clear H' O' H2 HF2 HB2 HZ2))
 go_ret
 have z3:=uh HZ3
 have b4:Below w3.heap.size w3 (((w3.alloc (.map #[] 0)).alloc (.map #[] 0)).alloc (.cells #[.map (some w.heap.size),.map (some w3.heap.size),.map (some (w3.heap.size+1)),.int .i64 0,.int .i64 0,.int .i64 0] 304)):=((bw _).alloc (by simp) _).alloc (by simp;omega) _
 have m1:MS Value.string (((w3.alloc (.map #[] 0)).alloc (.map #[] 0)).alloc (.cells #[.map (some w.heap.size),.map (some w3.heap.size),.map (some (w3.heap.size+1)),.int .i64 0,.int .i64 0,.int .i64 0] 304)) w3.heap.size []:=((MS.new Value.string w3).below (bw _)).below (bw _)
 have m2:MS Value.string (((w3.alloc (.map #[] 0)).alloc (.map #[] 0)).alloc (.cells #[.map (some w.heap.size),.map (some w3.heap.size),.map (some (w3.heap.size+1)),.int .i64 0,.int .i64 0,.int .i64 0] 304)) (w3.heap.size+1) []:=by
  have:=(MS.new Value.string (w3.alloc (.map #[] 0))).below (bw (.cells #[.map (some w.heap.size),.map (some w3.heap.size),.map (some (w3.heap.size+1)),.int .i64 0,.int .i64 0,.int .i64 0] 304))
  simpa using this
 have bx:Bx (((w3.alloc (.map #[] 0)).alloc (.map #[] 0)).alloc (.cells #[.map (some w.heap.size),.map (some w3.heap.size),.map (some (w3.heap.size+1)),.int .i64 0,.int .i64 0,.int .i64 0] 304)) (w3.heap.size+1+1) #[.map (some w.heap.size),.map (some w3.heap.size),.map (some (w3.heap.size+1)),.int .i64 0,.int .i64 0,.int .i64 0]:=by
  have:=Bx.new ((w3.alloc (.map #[] 0)).alloc (.map #[] 0)) #[.map (some w.heap.size),.map (some w3.heap.size),.map (some (w3.heap.size+1)),.int .i64 0,.int .i64 0,.int .i64 0] 304
  simpa using this
 have ft:=uh HF3
 rw [up_ty0] at ft
 refine ⟨w3.heap.size+1+1,w.heap.size,w3.heap.size,w3.heap.size+1,rfl,(uh HB3).trans (b4.mono (by omega)),⟨by omega,by omega,by omega,by omega⟩,bx,⟨_,(uh H3).below b4,ft⟩,⟨_,m1,fun x=>rfl⟩,⟨_,m2,fun x=>Or.inr ⟨rfl,rfl⟩⟩,by omega,by omega,by omega,by omega,by omega,by omega⟩
def DSo:Dc→Prop
 |.ty _ vs ms=>vs.length≤1000∧(∀m∈ms,Sm m)∧ms.length≤1000
 |.lt _ _ b=>Sm b∧nn b≤1000
def DeP (cb tb mb lb B:Nat) (d:Dc) (e0:SE) (lo:BA→Nat) (w:World) (e:Ending) (w':World):Prop:=e=.returned (.tuple #[])∧∃lo',CK w' cb tb mb lb (ckD up2 d e0).ty (ckD up2 d e0).mks lo' (ckD up2 d e0).f∧LoR lo' (ckD up2 d e0).nm∧(∀x,lo' x≤lo x+1)∧Fr (fun b=>b=cb∨b=tb∨b=mb∨b=lb) w w'
theorem LoR.put {l:List BA} (h:LoR lo l) (s:BA):LoR (fun x=>if x=s then lo s+1 else lo x) (l++[s]):=fun x=>by
 show (if x=s then lo s+1 else lo x)≠0↔_
 rw [List.mem_append,List.mem_singleton]
 by_cases e:x=s
 ·simp [e]
 ·simp only [e,if_false,or_false];exact h x
theorem decl_P {d:Dc} {v:Value} (h:CK w cb tb mb lb e0.ty e0.mks lo e0.f) (hl:LoR lo e0.nm) (hB:B≤cb) (hBt:B≤tb) (hBm:B≤mb) (hBl:B≤lb) (hx:PD w (·<B) d v) (hs:DSo d) (hlo:∀x,lo x≤2000):
 Calls Tryz.prog 147 #[cp cb,v] w (DeP cb tb mb lb B d e0 lo w):=by
 obtain ⟨z1,z2,z3,z4⟩:=h.lts
 cases d with
 |ty t vs ms=>
  obtain ⟨x,u,vv,vm,rfl,hu,ht,hv,hm0,hm⟩:=hx
  have t0:=qev
  have HV:=hv.move qb8 (br _) (fun _ _ _=>rfl) (fun _ p _=>p)
  have HM:=hm.move qbx (br _) (fun _ _ _=>rfl) (fun _ p _=>p)
  obtain ⟨va,vc,cv,rfl,-⟩:=hv
  obtain ⟨ma,mc,cm,rfl,-⟩:=hm
  have hbA:Below w.heap.size w (w.alloc (.cells #[.int .i64 x,.int .i64 u,.int .i64 (t.frm:Int),.int .i64 (t.to:Int),.string t.text,.slice va vs.length vc,.slice ma ms.length mc] 250)):=bw _
  have HC:=ai (typeDecl_P (t:=t) (x:=x) (y:=u) (h.bel hbA) hB hBt hBm hBl (HV.move qb8 hbA.size (fun b _ z=>hbA.block b z) (fun _ p _=>p)) (HM.move qbx hbA.size (fun b _ z=>hbA.block b z) (fun _ p _=>p)) hs.1 hs.2.1 hs.2.2)
  have B1:=ai (Bx.new w #[.int .i64 x,.int .i64 u,.int .i64 (t.frm:Int),.int .i64 (t.to:Int),.string t.text,.slice va vs.length vc,.slice ma ms.length mc] 250)
  have HB:=ai hbA
  have HL:=ai hl
  obtain ⟨c1,f1,y1⟩:=uh B1
  clear h hl hbA HV HM hs ht hu
  go_enter Tryz.func147,Tryz.ntmps147
  go_wp2_with fail
  refine (uh HC).mono ?_
  rintro e w2 ⟨rfl,k2,d2⟩
  have K2:=ai k2
  have D2:=ai d2
  clear k2 d2 HC
  go_wp2_with fail
  go_end0
  exact ⟨rfl,lo,uh D2,uh HL,fun x=>Nat.le_succ _,(Fr.of (uh HB)).trans' (uh K2) (fun b q=>Or.inl (by rcases q with q|q|q;exact Or.inl q;exact Or.inr (Or.inl q);exact Or.inr (Or.inr (Or.inl q))))⟩
 |lt r t b=>
  obtain ⟨x,u,vb,rfl,hu,ht,hb⟩:=hx
  have t0:=qfb
  have t1:=toDecl_LetDecl_LetDecl
  obtain ⟨u1,x1,rfl⟩:=hb.iface
  have hbA:Below w.heap.size w (w.alloc (.cells #[.int .i64 x,.int .i64 u,.bool r,.int .i64 (t.frm:Int),.int .i64 (t.to:Int),.string t.text,.iface u1 (.agg x1)] 220)):=bw _
  have X1:Hid (CE cb tb mb lb e0.ty e0.mks lo w e0.f (w.alloc (.cells #[.int .i64 x,.int .i64 u,.bool r,.int .i64 (t.frm:Int),.int .i64 (t.to:Int),.string t.text,.iface u1 (.agg x1)] 220))):=ai ⟨h.bel hbA,Fr.of hbA⟩
  have B1:=ai (Bx.new w #[.int .i64 x,.int .i64 u,.bool r,.int .i64 (t.frm:Int),.int .i64 (t.to:Int),.string t.text,.iface u1 (.agg x1)] 220)
  have HC:=ai (value_P (l:=e0.nm) (expr_P b) (h.bel hbA) hB hBl (hb.bel hbA) hl (fun x=>by have:=hlo x;have:=hs.2;omega) hs.1 r (t.frm:Int) (t.to:Int) t.text)
  have HL:=ai hl
  have HLO:=ai hlo
  obtain ⟨c1,f1,y1⟩:=uh B1
  clear h hl hbA hb hs hlo ht hu
  go_enter Tryz.func147,Tryz.ntmps147
  go_wp2_with fail
  refine (uh HC).mono ?_
  rintro e w2 ⟨rfl,k2,d2⟩
  have X2:=ai ((uh X1).fr k2 d2)
  have B2:=ai ((uh B1).fr k2 (fun q=>by omega))
  clear k2 d2 HC c1 f1 y1
  obtain ⟨N,hN⟩:∃N,Hid (N=lo t.text):=⟨_,ai rfl⟩
  have X3:=ai ((uh X2).bel (Below.refl _ _).drew)
  have hlk:=(uh X3).d.l.look t.text
  rw [←uh hN] at hlk
  obtain ⟨L,hM,hL⟩:=(uh X3).d.l
  obtain ⟨o,hput,hM2⟩:=hM.put (KL.str Tryz.underlying9) Tryz.underlying302 t.text (.int .i64 ((N:Int)+1)) trivial (fun _ _=>trivial)
  have HM2:=ai hM2
  have HLL:=ai hL
  have hN7:(N:Int)≤3000:=by have:=uh HLO t.text;have:=uh hN;omega
  obtain ⟨c1,f1,y1⟩:=uh B2
  obtain ⟨c2,f2,y2⟩:=(uh X2).d.bx
  clear hM hM2 hL
  go_wp2_with fail
  go_region
  all_goals (
   go_wp2_with fail
   go_end0
   have hv:(Value.int .i64 ((N:Int)+1))=.int .i64 ((N+1:Nat):Int):=rfl
   have M3:=uh HM2
   rw [hv] at M3
   have X5:=(uh X3).put (One.set w2.drew lb o) M3 (LM.put (uh HLL) t.text (N+1))
   rw [uh hN] at X5
   exact ⟨rfl,_,X5.d,(uh HL).put t.text,fun y=>by show (if y=t.text then lo t.text+1 else lo y)≤lo y+1;split;rename_i e;rw [e];exact br _;exact Nat.le_succ _,X5.k.wide (fun b q=>by rcases q with q|q;exact Or.inl q;exact Or.inr (Or.inr (Or.inr q)))⟩)
end
end
section
open Go Go.RowKit Go.ChangeMaps Go.MapKept
theorem readP_so {s:BA} {l:List Dc} (h:qc1 s=.ok l):(∀d∈l,DSo d)∧l.length≤802:=by
 obtain ⟨h1,h2⟩:=readP_sm h
 refine ⟨fun d hd=>?_,?_⟩
 ·have h3:=h1 d hd
  have h4:=ndL_mem hd
  cases d with
  |ty t vs ms=>
   simp only [nd3] at h4
   have:=nnL_len ms
   exact ⟨h3.1,h3.2,by omega⟩
  |lt r t b=>exact ⟨h3.1,h3.1.2⟩
 ·have:∀l:List Dc,l.length≤ndL l:=fun l=>by
   induction l with
   |nil=>simp [ndL]
   |cons d r ih=>
    simp only [ndL,List.map_cons,List.sum_cons,lqc] at ih⊢
    have:1≤nd3 d:=by cases d<;>simp [nd3]<;>omega
    omega
  exact Nat.le_trans (this l) h2
def FAR (w0:World) (cb tb mb lb:Nat) (l:List Dc) (gk:Nat) (c:Value) (wr:World):Prop:=∃(j:Nat) (lo:BA→Nat),Hid (gk=l.length-j)∧j≤l.length∧c=.int .i64 (j:Int)∧CK wr cb tb mb lb (ckDs up2 (l.take j) se0).ty (ckDs up2 (l.take j) se0).mks lo (ckDs up2 (l.take j) se0).f∧LoR lo (ckDs up2 (l.take j) se0).nm∧(∀x,lo x≤j)∧Fr (fun b=>b=cb∨b=tb∨b=mb∨b=lb) w0 wr
section
variable {w:World}
theorem Fault_P {l:List Dc} {u:Value} (hr:RowV QD 1 w (·<w.heap.size) l u) (hS:∀d∈l,DSo d) (hl:l.length≤802):
 Calls Tryz.prog 83 #[.agg #[u]] w fun e w'=>e=.returned (flV (ckDs up2 l se0).f)∧Below w.heap.size w w':=by
 obtain ⟨va,vc,cs,rfl,hrow,hq⟩:=hr
 have HW:=ai hrow
 have HQ:=ai hq
 have HS:=ai hS
 obtain ⟨Z,HZ⟩:∃Z,Hid (Z=(ckDs up2 l se0).f):=⟨_,ai rfl⟩
 rw [←uh HZ]
 have hb1:Below w.heap.size w ((w.alloc (.cells #[.slice va l.length vc] 49)).alloc (.cells #[.int .i64 0,.int .i64 0,.int .i64 0] 34)):=(bw _).alloc (by simp) _
 have B1:=ai ((Bx.new w #[.slice va l.length vc] 49).alloc (.cells #[.int .i64 0,.int .i64 0,.int .i64 0] 34))
 have F1:Hid (Bx ((w.alloc (.cells #[.slice va l.length vc] 49)).alloc (.cells #[.int .i64 0,.int .i64 0,.int .i64 0] 34)) (w.heap.size+1) #[.int .i64 0,.int .i64 0,.int .i64 0]):=ai (by have:=Bx.new (w.alloc (.cells #[.slice va l.length vc] 49)) #[.int .i64 0,.int .i64 0,.int .i64 0] 34;simpa using this)
 have HB1:=ai hb1
 have HC:=ai (newChecker_P (w:=(w.alloc (.cells #[.slice va l.length vc] 49)).alloc (.cells #[.int .i64 0,.int .i64 0,.int .i64 0] 34)))
 obtain ⟨c1,f1,y1⟩:=uh B1
 clear hrow hq hS hb1
 go_enter Tryz.func83,Tryz.ntmps83
 go_wp2_with fail
 refine (uh HC).mono ?_
 rintro e w2 ⟨cb,tb,mb,lb,rfl,b2,hz,d2⟩
 have hz':w.heap.size+2≤cb∧w.heap.size+2≤tb∧w.heap.size+2≤mb∧w.heap.size+2≤lb:=by simpa using hz
 have HB2:=ai ((uh HB1).trans (b2.mono (uh HB1).size))
 have B2:=ai ((uh B1).below b2)
 have F2:=ai ((uh F1).below b2)
 have D2:=ai d2
 have hw2:=(uh HB2).size
 clear HC b2 hz d2 c1 f1 y1 B1 F1 HB1
 obtain ⟨c1,f1,y1⟩:=uh B2
 go_wp2_with fail
 clear c1 f1 y1
 go_loopg [10] l.length (fun gk c wr=>FAR w2 cb tb mb lb l gk c wr)
 case atStart=>exact ⟨0,fun _=>0,ai rfl,Nat.zero_le _,rfl,uh D2,fun x=>by simp [ckDs,se0],fun x=>br _,Fr.refl _ _⟩
 case round=>
  clear D2
  obtain ⟨j,lo,hgk,hj,rfl,hD,hL,hlo,hF⟩:=hrel
  have DR':=ai hD
  have LR:=ai hL
  have HLO:=ai hlo
  have FR:=ai hF
  have hBW:Hid (Below w.heap.size w wr):=ai ⟨hF.os.trans (uh HB2).os,hF.tape.trans (uh HB2).tape,hF.output.trans (uh HB2).output,Nat.le_trans (uh HB2).size hF.size,fun b hb=>(hF.block b (Nat.lt_of_lt_of_le hb (uh HB2).size) (fun q=>by omega)).trans ((uh HB2).block b hb)⟩
  have B3:=ai ((uh B2).fr hF (fun q=>by omega))
  have F3:=ai ((uh F2).fr hF (fun q=>by omega))
  clear hD hL hlo hF
  by_cases hlt:j<l.length
  ·have hd:(j:Int)<(l.length:Int):=by omega
   obtain ⟨g,rfl,-,hg,hcc⟩:∃g,va=some ⟨g,0,none⟩∧g<w.heap.size∧g<w.heap.size∧∀i,i<l.length→∀j,j<1→w.cell? ⟨g,i*1+j,none⟩=some (cs i j):=by
    rcases uh HW with e|e
    ·exact absurd hlt (by simp [e])
    ·exact e
   have d0:=(World.cell?_of_block (a:=⟨g,j*1+0,none⟩) ((uh hBW).block g hg)).trans (hcc j hlt 0 (by omega))
   simp only [Nat.mul_one,Nat.add_zero] at d0
   have hpd:PD w (·<w.heap.size) l[j] (cs j 0):=uh HQ j hlt
   have HPD:=ai (hpd.move (uh hBW).size (fun b _ z=>(uh hBW).block b z) (Q:=(·<w.heap.size)) (fun _ p _=>p))
   obtain ⟨t1,x1,e1⟩:=hpd.iface
   rw [e1] at d0 HPD
   have HTK:=ai (ckDs_take up2 l se0 j hlt)
   generalize ckDs up2 (l.take j) se0=e0 at DR' LR HTK
   have HC:=ai (decl_P (uh DR') (uh LR) (by omega) (by omega) (by omega) (by omega) (uh HPD) (uh HS _ (List.getElem_mem hlt)) (fun x=>by have:=uh HLO x;omega))
   clear hcc hpd e1
   go_wp2_with fail
   refine (uh HC).mono ?_
   rintro e w3 ⟨rfl,lo',d3,l3,b3,k3⟩
   have D3:=ai d3
   have L3:=ai l3
   have O3:=ai b3
   have K3:=ai ((uh FR).trans k3)
   clear d3 l3 b3 k3 HC
   go_wp2_with fail
   go_roundg (l.length-(j+1))
   case measure=>rw [uh hgk];omega
   case rel=>exact ⟨j+1,lo',ai rfl,by omega,by go_num,by rw [uh HTK];exact uh D3,by rw [uh HTK];exact uh L3,fun x=>Nat.le_trans (uh O3 x) (Nat.succ_le_succ (uh HLO x)),uh K3⟩
  ·have hd:decide ((j:Int)<(l.length:Int))=false:=by simp;omega
   have he:l.take j=l:=List.take_of_length_le (by omega)
   rw [he,←uh HZ] at DR'
   obtain ⟨c4,f4,y4⟩:=(uh DR').bx
   obtain ⟨c3,f3,y3⟩:=uh F3
   have B5:=ai ((uh F3).set3' rfl (.int .i64 (Z.kind:Int)) (.int .i64 (Z.frm:Int)) (.int .i64 (Z.to:Int)))
   go_wp2_with fail
   obtain ⟨c5,f5,z5⟩:=uh B5
   refine bodyPost_ret (v:=flV Z) (by simp [results,Tryz.results83,go_sem,flV,c5]) rfl ?_
   exact ⟨rfl,(((uh hBW).setCell (p:=⟨w.heap.size+1,0,none⟩) (Nat.le_succ _) _).setCell (p:=⟨w.heap.size+1,1,none⟩) (Nat.le_succ _) _).setCell (p:=⟨w.heap.size+1,2,none⟩) (Nat.le_succ _) _⟩
end
end
end Go.Proofs.YtoceemjbcgmojaaGreatDoor

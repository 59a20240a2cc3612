import Derived.Test.YtoceemjbcgmojaaGreatDoorVRa
set_option linter.all false
set_option maxRecDepth 100000
set_option maxHeartbeats 2000000
namespace Go.Proofs.YtoceemjbcgmojaaGreatDoor
section
open Go Go.RowKit
section
variable {w:World}
abbrev zPt:Array Value:=#[.int .i64 0,.int .i64 0,.string ⟨#[]⟩,.string ⟨#[]⟩]
theorem Bx.set4 {w:World} {b:Nat} {C:Array Value} (h:Bx w b C) (hC:C.size=4) (v0 v1 v2 v3:Value):Bx ((((w.setCell ⟨b,0,none⟩ v0).setCell ⟨b,1,none⟩ v1).setCell ⟨b,2,none⟩ v2).setCell ⟨b,3,none⟩ v3) b #[v0,v1,v2,v3]:=by
 obtain ⟨a0,a1,a2,a3,rfl⟩:∃a0 a1 a2 a3,C=#[a0,a1,a2,a3]:=by
  obtain ⟨l⟩:=C
  match l,hC with
  |[a,b,c,d],_=>exact ⟨a,b,c,d,rfl⟩
 exact (((h.setS' 0 v0 #[v0,a1,a2,a3] rfl (by simp)).setS' 1 v1 #[v0,v1,a2,a3] rfl (by simp)).setS' 2 v2 #[v0,v1,v2,a3] rfl (by simp)).setS' 3 v3 #[v0,v1,v2,v3] rfl (by simp)
theorem _root_.Go.RowKit.Below.set4 {B:Nat} {a w:World} (h:Below B a w) {b:Nat} (hb:B≤b) (v0 v1 v2 v3:Value):Below B a ((((w.setCell ⟨b,0,none⟩ v0).setCell ⟨b,1,none⟩ v1).setCell ⟨b,2,none⟩ v2).setCell ⟨b,3,none⟩ v3):=
 (((h.setCell (p:=⟨b,0,none⟩) hb v0).setCell (p:=⟨b,1,none⟩) hb v1).setCell (p:=⟨b,2,none⟩) hb v2).setCell (p:=⟨b,3,none⟩) hb v3
theorem lowOrWord_C (h:Laid w) (s:BA) (i:Nat) (hi:i<s.size) (hs:s.size≤1000):
 Calls Tryz.prog 288 #[.string s,.int .i64 (i:Int)] w fun e w'=>e=.returned (qbn (if Pu.wordB (s.extract i (Pu.endTo s Pu.nameB i))=true then Pu.mkT s i 5 (Pu.endTo s Pu.nameB i) else Pu.mkT s i 1 (Pu.endTo s Pu.nameB i)))∧Below w.heap.size w w':=by
 have hle:=Pu.endTo_le (s:=s) Pu.nameB (i:=i) (by omega)
 have hge:=Pu.endTo_ge s Pu.nameB i
 have H:=ai (h.bel ((Below.refl w.heap.size w).alloc (br _) (.cells zPt 236)))
 have B0:=ai (Bx.new w zPt 236)
 have HB:=ai ((Below.refl w.heap.size w).alloc (br _) (.cells zPt 236))
 have h1:(i:Int)≤((Pu.endTo s Pu.nameB i:Nat):Int):=by omega
 have h2:((Pu.endTo s Pu.nameB i:Nat):Int)≤(s.size:Int):=by omega
 clear h
 cases hw:Pu.wordB (s.extract i (Pu.endTo s Pu.nameB i)) with
 |true=>
  go_enter Tryz.func288,Tryz.ntmps288
  go_wp2_with (first|(go_at_call 285;refine (qdx s i _ hs (by omega)).mono ?_;rintro e w' ⟨rfl,rfl⟩)|(go_at_call 348;refine (isWord_C (uh H) _).mono ?_;rintro e w' ⟨rfl,rfl⟩)|(go_at_call 290;refine (cut_C s i _ _ hge hle hs).mono ?_;rintro e w1 ⟨rfl,hb⟩;have B1:=ai ((uh B0).below hb);have HB1:=ai ((uh HB).trans (hb.mono (by simp)));obtain ⟨c1,f1,y1⟩:=uh B1;clear hb))
  have BF:=ai ((uh B1).set4 rfl (.int .i64 (i:Int)) (.int .i64 ((Pu.endTo s Pu.nameB i:Nat):Int)) (.string (s.extract i (Pu.endTo s Pu.nameB i))) (.string (s.extract i (Pu.endTo s Pu.nameB i))))
  obtain ⟨cF,fF,zF⟩:=uh BF
  refine bodyPost_ret (v:=qbn (Pu.mkT s i 5 (Pu.endTo s Pu.nameB i))) (by simp [results,Tryz.results288,go_sem,cF,qbn,Pu.mkT,qak]) rfl ⟨by simp,(uh HB1).set4 (br _) _ _ _ _⟩
 |false=>
  go_enter Tryz.func288,Tryz.ntmps288
  go_wp2_with (first|(go_at_call 285;refine (qdx s i _ hs (by omega)).mono ?_;rintro e w' ⟨rfl,rfl⟩)|(go_at_call 348;refine (isWord_C (uh H) _).mono ?_;rintro e w' ⟨rfl,rfl⟩)|(go_at_call 290;refine (cut_C s i _ _ hge hle hs).mono ?_;rintro e w1 ⟨rfl,hb⟩;have B1:=ai ((uh B0).below hb);have HB1:=ai ((uh HB).trans (hb.mono (by simp)));obtain ⟨c1,f1,y1⟩:=uh B1;clear hb))
  have BF:=ai ((uh B1).set4 rfl (.int .i64 (i:Int)) (.int .i64 ((Pu.endTo s Pu.nameB i:Nat):Int)) (.string ⟨#[108,111,119,32,110,97,109,101]⟩) (.string (s.extract i (Pu.endTo s Pu.nameB i))))
  obtain ⟨cF,fF,zF⟩:=uh BF
  refine bodyPost_ret (v:=qbn (Pu.mkT s i 1 (Pu.endTo s Pu.nameB i))) (by simp [results,Tryz.results288,go_sem,cF,qbn,Pu.mkT,qak]) rfl ⟨by simp,(uh HB1).set4 (br _) _ _ _ _⟩
def TokPost (t:Pu.Tok) (w:World) (e:Ending) (w':World):Prop:=
 Below w.heap.size w w'∧((t.kind≠6∧e=.returned (qbn t))∨(t.kind=6∧e=.panicked [{v:=.iface 231 (.agg #[.int .i64 2,.int .i64 (t.frm:Int),.int .i64 (t.to:Int)]),recovered:=false}]))
theorem number_C (s:BA) (i:Nat) (hi:i<s.size) (hs:s.size≤1000):
 Calls Tryz.prog 293 #[.string s,.int .i64 (i:Int)] w (TokPost (if Pu.endTo s Pu.digB i-i≤9 then Pu.mkT s i 4 (Pu.endTo s Pu.digB i) else Pu.mkT s i 6 (Pu.endTo s Pu.digB i)) w):=by
 have hle:=Pu.endTo_le (s:=s) Pu.digB (i:=i) (by omega)
 have hge:=Pu.endTo_ge s Pu.digB i
 have B0:=ai (Bx.new w zPt 236)
 have HB:=ai ((Below.refl w.heap.size w).alloc (br _) (.cells zPt 236))
 by_cases hd:Pu.endTo s Pu.digB i-i≤9
 ·have h1:¬(9:Int)<((Pu.endTo s Pu.digB i:Nat):Int)-(i:Int):=by omega
  rw [if_pos hd]
  clear hd
  go_enter Tryz.func293,Tryz.ntmps293
  go_wp2_with (first|(go_at_call 285;refine (endDig_any s i _ hs (by omega)).mono ?_;rintro e w' ⟨rfl,rfl⟩)|(go_at_call 290;refine (cut_C s i _ _ hge hle hs).mono ?_;rintro e w1 ⟨rfl,hb⟩;have B1:=ai ((uh B0).below hb);have HB1:=ai ((uh HB).trans (hb.mono (by simp)));obtain ⟨c1,f1,y1⟩:=uh B1;clear hb))
  have BF:=ai ((uh B1).set4 rfl (.int .i64 (i:Int)) (.int .i64 ((Pu.endTo s Pu.digB i:Nat):Int)) (.string ⟨#[97,32,110,117,109,98,101,114]⟩) (.string (s.extract i (Pu.endTo s Pu.digB i))))
  obtain ⟨cF,fF,zF⟩:=uh BF
  exact bodyPost_ret (v:=qbn (Pu.mkT s i 4 (Pu.endTo s Pu.digB i))) (by simp [results,Tryz.results293,go_sem,cF,qbn,Pu.mkT,qak]) rfl ⟨(uh HB1).set4 (br _) _ _ _ _,Or.inl ⟨by simp [Pu.mkT],rfl⟩⟩
 ·have h1:(9:Int)<((Pu.endTo s Pu.digB i:Nat):Int)-(i:Int):=by omega
  rw [if_neg hd]
  clear hd
  go_enter Tryz.func293,Tryz.ntmps293
  go_wp2_with (first|(go_at_call 285;refine (endDig_any s i _ hs (by omega)).mono ?_;rintro e w' ⟨rfl,rfl⟩)|(go_at_call 349;refine (noToken_C _ _).mono ?_;rintro e w1 ⟨rfl,hb⟩;have HB1:=ai ((uh HB).trans (hb.mono (by simp)));clear hb))
  exact ⟨rfl,uh HB1,Or.inr ⟨rfl,rfl⟩⟩
def varTok (s:BA) (i:Nat):Pu.Tok:=
 if Pu.lowB (Pu.at_ s (i+1))=true then (if Pu.wordB (s.extract (i+1) (Pu.endTo s Pu.nameB (i+1)))=true then Pu.mkT s i 6 (Pu.endTo s Pu.nameB (i+1)) else Pu.mkT s i 3 (Pu.endTo s Pu.nameB (i+1))) else Pu.mkT s i 6 (i+1)
theorem var_C (h:Laid w) (s:BA) (i:Nat) (hi:i<s.size) (hs:s.size≤1000):
 Calls Tryz.prog 294 #[.string s,.int .i64 (i:Int)] w (TokPost (varTok s i) w):=by
 have B0:=ai (Bx.new w zPt 236)
 have HB:=ai ((Below.refl w.heap.size w).alloc (br _) (.cells zPt 236))
 have H:=ai (h.bel (uh HB))
 clear h
 by_cases hn:i+1<s.size
 ·have he:(((i:Int)+1)==(s.size:Int))=false:=by simp;omega
  have hat:Pu.at_ s (i+1)=s[i+1].toNat:=Pu.at_lt hn
  cases hlo:Pu.lowB s[i+1].toNat with
  |false=>
   have ht:varTok s i=Pu.mkT s i 6 (i+1):=by unfold varTok;rw [hat,hlo];simp
   rw [ht]
   clear ht hat
   go_enter Tryz.func294,Tryz.ntmps294
   go_wp2_with (first|(go_at_call 287;refine (qcg _ _).mono ?_;rintro e w' ⟨rfl,rfl⟩)|(go_at_call 349;refine (noToken_C _ _).mono ?_;rintro e w1 ⟨rfl,hb⟩;have HB1:=ai ((uh HB).trans (hb.mono (by simp)));clear hb))
   exact ⟨rfl,uh HB1,Or.inr ⟨rfl,rfl⟩⟩
  |true=>
   have hle:=Pu.endTo_le (s:=s) Pu.nameB (i:=i+1) (by omega)
   have hge:=Pu.endTo_ge s Pu.nameB (i+1)
   have h1:(i:Int)+1≤((Pu.endTo s Pu.nameB (i+1):Nat):Int):=by omega
   have h2:((Pu.endTo s Pu.nameB (i+1):Nat):Int)≤(s.size:Int):=by omega
   cases hw:Pu.wordB (s.extract (i+1) (Pu.endTo s Pu.nameB (i+1))) with
   |true=>
    have ht:varTok s i=Pu.mkT s i 6 (Pu.endTo s Pu.nameB (i+1)):=by unfold varTok;rw [hat,hlo,hw];simp
    rw [ht]
    clear ht hat
    go_enter Tryz.func294,Tryz.ntmps294
    go_wp2_with (first|(go_at_call 287;refine (qcg _ _).mono ?_;rintro e w' ⟨rfl,rfl⟩)|(go_at_call 285;refine (qdx s (i+1) _ hs (by omega)).mono ?_;rintro e w' ⟨rfl,rfl⟩)|(go_at_call 348;refine (isWord_C (uh H) _).mono ?_;rintro e w' ⟨rfl,rfl⟩)|(go_at_call 349;refine (noToken_C _ _).mono ?_;rintro e w1 ⟨rfl,hb⟩;have HB1:=ai ((uh HB).trans (hb.mono (by simp)));clear hb))
    exact ⟨rfl,uh HB1,Or.inr ⟨rfl,rfl⟩⟩
   |false=>
    have ht:varTok s i=Pu.mkT s i 3 (Pu.endTo s Pu.nameB (i+1)):=by unfold varTok;rw [hat,hlo,hw];simp
    rw [ht]
    clear ht hat
    go_enter Tryz.func294,Tryz.ntmps294
    go_wp2_with (first|(go_at_call 287;refine (qcg _ _).mono ?_;rintro e w' ⟨rfl,rfl⟩)|(go_at_call 285;refine (qdx s (i+1) _ hs (by omega)).mono ?_;rintro e w' ⟨rfl,rfl⟩)|(go_at_call 348;refine (isWord_C (uh H) _).mono ?_;rintro e w' ⟨rfl,rfl⟩)|(go_at_call 290;refine (cut_C s i _ _ (by omega) hle hs).mono ?_;rintro e w1 ⟨rfl,hb⟩;have B1:=ai ((uh B0).below hb);have HB1:=ai ((uh HB).trans (hb.mono (by simp)));obtain ⟨c1,f1,y1⟩:=uh B1;clear hb))
    have BF:=ai ((uh B1).set4 rfl (.int .i64 (i:Int)) (.int .i64 ((Pu.endTo s Pu.nameB (i+1):Nat):Int)) (.string ⟨#[97,32,118,97,114,105,97,98,108,101]⟩) (.string (s.extract i (Pu.endTo s Pu.nameB (i+1)))))
    obtain ⟨cF,fF,zF⟩:=uh BF
    exact bodyPost_ret (v:=qbn (Pu.mkT s i 3 (Pu.endTo s Pu.nameB (i+1)))) (by simp [results,Tryz.results294,go_sem,cF,qbn,Pu.mkT,qak]) rfl ⟨(uh HB1).set4 (br _) _ _ _ _,Or.inl ⟨by simp [Pu.mkT],rfl⟩⟩
 ·have he:(((i:Int)+1)==(s.size:Int))=true:=by simp;omega
  have ht:varTok s i=Pu.mkT s i 6 (i+1):=by
   unfold varTok
   rw [Pu.at_ge (by omega)]
   rfl
  rw [ht]
  clear ht
  go_enter Tryz.func294,Tryz.ntmps294
  go_wp2_with (first|(go_at_call 349;refine (noToken_C _ _).mono ?_;rintro e w1 ⟨rfl,hb⟩;have HB1:=ai ((uh HB).trans (hb.mono (by simp)));clear hb))
  exact ⟨rfl,uh HB1,Or.inr ⟨rfl,rfl⟩⟩
end
end
section
open Go Go.RowKit
def preB (s p:BA):Bool:=decide (p.size≤s.size)&&((s.extract 0 p.size).toList==p.toList)
def hit (s:BA) (i k:Nat):Bool:=
 if k=0 then (Pu.at_ s i==45&&Pu.at_ s (i+1)==62) else Pu.at_ s i==((qab k)[0]!).toNat
def sgnTok (s:BA) (i:Nat):Pu.Tok:=
 if Pu.at_ s i=45∧Pu.at_ s (i+1)=62 then Pu.mkT s i 5 (i+2)
 else if Pu.signB (Pu.at_ s i)=true then Pu.mkT s i 5 (i+1) else Pu.mkT s i 6 (i+1)
theorem toList_injP {a b:BA} (h:(a.toList==b.toList)=true):a=b:=by
 rw [beq_iff_eq,ByteArray.toList_eq,ByteArray.toList_eq] at h
 exact ByteArray.ext (Array.toList_inj.1 h)
theorem ext1 {s:BA} {i:Nat} (h:i<s.size):s.extract i (i+1)=⟨#[s[i]]⟩:=by
 apply ByteArray.ext
 apply Array.ext
 ·simp;omega
 ·intro j h1 h2
  have:j=0:=by simp at h2;omega
  subst this
  simp [ByteArray.data_extract];rfl
theorem ext2 {s:BA} {i:Nat} (h:i+1<s.size):s.extract i (i+2)=⟨#[s[i],s[i+1]]⟩:=by
 apply ByteArray.ext
 apply Array.ext
 ·simp;omega
 ·intro j h1 h2
  have:j=0∨j=1:=by simp at h2;omega
  rcases this with rfl|rfl
  ·simp [ByteArray.data_extract];rfl
  ·simp [ByteArray.data_extract];rfl
theorem pre1 {s:BA} {i:Nat} (hi:i<s.size) (c:UInt8):preB (s.extract i s.size) ⟨#[c]⟩=(Pu.at_ s i==c.toNat):=by
 have hz:(⟨#[c]⟩:BA).size=1:=rfl
 unfold preB
 rw [hz,ByteArray.extract_extract,show min (i+1) s.size=i+1 by omega,Nat.add_zero,ext1 hi,Pu.at_lt hi,ByteArray.size_extract]
 rw [decide_eq_true (by omega),Bool.true_and,Bool.eq_iff_iff]
 constructor
 ·intro h
  have:=congrArg (fun b:BA=>b.data) (toList_injP h)
  simp at this
  simp [this]
 ·intro h
  rw [beq_iff_eq] at h
  rw [UInt8.toNat_inj.1 h]
  simp
theorem pre2 {s:BA} {i:Nat} (hi:i<s.size) (c d:UInt8):preB (s.extract i s.size) ⟨#[c,d]⟩=(Pu.at_ s i==c.toNat&&Pu.at_ s (i+1)==d.toNat):=by
 have hz:(⟨#[c,d]⟩:BA).size=2:=rfl
 unfold preB
 rw [hz]
 by_cases hn:i+1<s.size
 ·rw [ByteArray.extract_extract,show min (i+2) s.size=i+2 by omega,Nat.add_zero,ext2 hn,Pu.at_lt hi,Pu.at_lt hn,ByteArray.size_extract]
  rw [decide_eq_true (by omega),Bool.true_and,Bool.eq_iff_iff]
  constructor
  ·intro h
   have:=congrArg (fun b:BA=>b.data) (toList_injP h)
   simp at this
   simp [this]
  ·intro h
   rw [Bool.and_eq_true,beq_iff_eq,beq_iff_eq] at h
   rw [UInt8.toNat_inj.1 h.1,UInt8.toNat_inj.1 h.2]
   simp
 ·rw [ByteArray.size_extract,decide_eq_false (by omega),Pu.at_ge (s:=s) (i:=i+1) (by omega)]
  have:(256==d.toNat)=false:=by have:=UInt8.toNat_lt d;simp;omega
  rw [this];simp
theorem pre_hit {s:BA} {i:Nat} (hi:i<s.size):∀k,k<13→preB (s.extract i s.size) (qab k)=hit s i k
 |0,_=>pre2 hi 45 62
 |1,_=>pre1 hi _
 |2,_=>pre1 hi _
 |3,_=>pre1 hi _
 |4,_=>pre1 hi _
 |5,_=>pre1 hi _
 |6,_=>pre1 hi _
 |7,_=>pre1 hi _
 |8,_=>pre1 hi _
 |9,_=>pre1 hi _
 |10,_=>pre1 hi _
 |11,_=>pre1 hi _
 |12,_=>pre1 hi _
 |k+13,h=>absurd h (by omega)
theorem sgn_at {s:BA} {i:Nat}:∀k,0<k→k<13→(∀j,j<k→hit s i j=false)→hit s i k=true→sgnTok s i=Pu.mkT s i 5 (i+1):=by
 intro k h0 hk hno hh
 unfold sgnTok
 have n0:=hno 0 h0
 rw [if_neg (by intro q;simp [hit,q.1,q.2] at n0)]
 have:Pu.signB (Pu.at_ s i)=true:=by
  have hc:k=1∨k=2∨k=3∨k=4∨k=5∨k=6∨k=7∨k=8∨k=9∨k=10∨k=11∨k=12:=by omega
  unfold hit at hh
  rw [if_neg (by omega),beq_iff_eq] at hh
  rw [hh]
  rcases hc with rfl|rfl|rfl|rfl|rfl|rfl|rfl|rfl|rfl|rfl|rfl|rfl<;>decide
 rw [if_pos this]
theorem sgn_0 {s:BA} {i:Nat} (h:hit s i 0=true):sgnTok s i=Pu.mkT s i 5 (i+2):=by
 unfold sgnTok
 rw [if_pos (by simpa [hit] using h)]
theorem sgn_no {s:BA} {i:Nat} (h:∀j,j<13→hit s i j=false):sgnTok s i=Pu.mkT s i 6 (i+1):=by
 unfold sgnTok
 have n0:=h 0 (by omega)
 rw [if_neg (by intro q;simp [hit,q.1,q.2] at n0)]
 have:Pu.signB (Pu.at_ s i)=false:=by
  unfold Pu.signB
  rw [List.any_eq_false]
  intro x hx
  simp only [List.mem_cons,List.not_mem_nil,or_false] at hx
  intro q
  rw [beq_iff_eq] at q
  have H:∀k,0<k→k<13→((qab k)[0]!).toNat=x→False:=fun k h0 hk e=>by
   have:=h k hk
   unfold hit at this
   rw [if_neg (by omega),e,q] at this
   simp at this
  rcases hx with rfl|rfl|rfl|rfl|rfl|rfl|rfl|rfl|rfl|rfl|rfl|rfl
  ·exact H 1 (by omega) (by omega) rfl
  ·exact H 2 (by omega) (by omega) rfl
  ·exact H 3 (by omega) (by omega) rfl
  ·exact H 4 (by omega) (by omega) rfl
  ·exact H 5 (by omega) (by omega) rfl
  ·exact H 6 (by omega) (by omega) rfl
  ·exact H 7 (by omega) (by omega) rfl
  ·exact H 8 (by omega) (by omega) rfl
  ·exact H 9 (by omega) (by omega) rfl
  ·exact H 10 (by omega) (by omega) rfl
  ·exact H 11 (by omega) (by omega) rfl
  ·exact H 12 (by omega) (by omega) rfl
 rw [this]
 rfl
theorem qcn {s:BA} {i k:Nat} (hi:i<s.size) (hk:k<13) (h:hit s i k=true):i+(qab k).size≤s.size∧s.extract i (i+(qab k).size)=qab k:=by
 rw [←pre_hit hi k hk] at h
 unfold preB at h
 rw [Bool.and_eq_true,decide_eq_true_iff,ByteArray.size_extract] at h
 have hz:i+(qab k).size≤s.size:=by omega
 refine ⟨hz,?_⟩
 have:=toList_injP h.2
 rwa [ByteArray.extract_extract,Nat.add_zero,Nat.min_eq_left hz] at this
section
variable {w:World}
theorem lite_C (s p:BA) (hs:s.size≤1000) (hp:p.size≤2):Calls Tryz.prog 374 #[.string s,.string p] w fun e w'=>e=.returned (.bool (preB s p))∧w'=w:=by
 by_cases h:p.size≤s.size
 ·have h1:(p.size:Int)≤(s.size:Int):=by omega
  have hz:decide (p.size≤s.size)=true:=by simp [h]
  go_enter Tryz.func374,Tryz.ntmps374
  go_wp2_with fail
  go_ret
  exact ⟨qa6 (by simp [preB,hz]),rfl⟩
 ·have h1:¬(p.size:Int)≤(s.size:Int):=by omega
  have hz:decide (p.size≤s.size)=false:=by simp;omega
  go_enter Tryz.func374,Tryz.ntmps374
  go_wp2_with fail
  go_ret
  exact ⟨qa6 (by simp [preB,hz]),rfl⟩
theorem prefix_C (s p:BA) (hs:s.size≤1000) (hp:p.size≤2):Calls Tryz.prog 350 #[.string s,.string p] w fun e w'=>e=.returned (.bool (preB s p))∧w'=w:=by
 go_enter Tryz.func350,Tryz.ntmps350
 go_wp2_with (go_at_call 374;refine (lite_C s p hs hp).mono ?_;rintro e w' ⟨rfl,rfl⟩)
 go_ret
 exact ⟨qa6 rfl,rfl⟩
theorem qa4 (s:BA) (i k:Nat) (hi:i<s.size) (hs:s.size≤1000) (hk:k<13) (hz:(qab k).size≤2):Calls Tryz.prog 350 #[.string (s.extract i s.size),.string (qab k)] w fun e w'=>e=.returned (.bool (hit s i k))∧w'=w:=by
 rw [←pre_hit hi k hk]
 exact prefix_C _ _ (by rw [ByteArray.size_extract];omega) hz
theorem sign_C (h:Laid w) (s:BA) (i:Nat) (hi:i<s.size) (hs:s.size≤1000):
 Calls Tryz.prog 295 #[.string s,.int .i64 (i:Int)] w (TokPost (sgnTok s i) w):=by
 have B0:=ai (Bx.new w zPt 236)
 have HB:=ai ((Below.refl w.heap.size w).alloc (br _) (.cells zPt 236))
 have H:=h.bel (uh HB)
 have hi1:(i:Int)≤(s.size:Int):=by omega
 have g0:=H.signs 0 (by omega)
 have g1:=H.signs 1 (by omega)
 have g2:=H.signs 2 (by omega)
 have g3:=H.signs 3 (by omega)
 have g4:=H.signs 4 (by omega)
 have g5:=H.signs 5 (by omega)
 have g6:=H.signs 6 (by omega)
 have g7:=H.signs 7 (by omega)
 have g8:=H.signs 8 (by omega)
 have g9:=H.signs 9 (by omega)
 have g10:=H.signs 10 (by omega)
 have g11:=H.signs 11 (by omega)
 have g12:=H.signs 12 (by omega)
 clear h H
 go_enter Tryz.func295,Tryz.ntmps295
 go_wp2_with fail
 go_loop [8] (fun v=>∃j:Nat,j≤13∧v=.int .i64 (j:Int)∧Hid (∀m,m<j→hit s i m=false)) (fun v=>13-(intOf v).toNat)
 case atStart=>exact ⟨0,by omega,rfl,fun i h=>by omega⟩
 case round=>
  obtain ⟨j,hj,rfl,hno⟩:=hrel
  by_cases hlt:j<13
  ·have hcase:j=0∨j=1∨j=2∨j=3∨j=4∨j=5∨j=6∨j=7∨j=8∨j=9∨j=10∨j=11∨j=12:=by omega
   rcases hcase with rfl|rfl|rfl|rfl|rfl|rfl|rfl|rfl|rfl|rfl|rfl|rfl|rfl
   ·have hix:=idx13_0 (qab 0) (qab 1) (qab 2) (qab 3) (qab 4) (qab 5) (qab 6) (qab 7) (qab 8) (qab 9) (qab 10) (qab 11) (qab 12)
    have hz:(qab 0).size=2:=rfl
    cases he:hit s i 0 with
    |true=>
     have ht:=ai (sgn_0 he)
     have hx:=qcn hi (by omega) he
     rw [hz] at hx
     have hle:=hx.1
     have hxe:=ai hx.2
     clear hx
     go_wp2_with (first|(go_at_call 350;refine (qa4 s i 0 hi hs (by omega) (by omega)).mono ?_;rintro e w' ⟨rfl,rfl⟩)|(go_at_call 290;refine (cut_C s i (i+2) _ (by omega) hle hs).mono ?_;rintro e w1 ⟨rfl,hb⟩;have B1:=ai ((uh B0).below hb);have HB1:=ai ((uh HB).trans (hb.mono (by simp)));obtain ⟨c1,f1,y1⟩:=uh B1;clear hb))
     have BF:=ai ((uh B1).set4 rfl (.int .i64 (i:Int)) (.int .i64 ((i:Int)+2)) (.string (qab 0)) (.string (s.extract i (i+2))))
     obtain ⟨cF,fF,zF⟩:=uh BF
     rw [uh ht]
     refine bodyPost_ret (v:=qbn (Pu.mkT s i 5 (i+2))) ?_ rfl ⟨(uh HB1).set4 (br _) _ _ _ _,Or.inl ⟨by simp [Pu.mkT],rfl⟩⟩
     have hk:qak (Pu.mkT s i 5 (i+2))=qab 0:=uh hxe
     simp only [qbn,hk]
     simp [results,Tryz.results295,go_sem,cF,Pu.mkT]
    |false=>
     have hn2:Hid (∀m,m<1→hit s i m=false):=fun m hm=>by
      by_cases e:m=0
      ·subst e;exact he
      ·exact uh hno m (by omega)
     go_wp2_with (go_at_call 350;refine (qa4 s i 0 hi hs (by omega) (by omega)).mono ?_;rintro e w' ⟨rfl,rfl⟩)
     go_round
     case rel=>exact ⟨1,by omega,by go_num,hn2⟩
     case measure=>simp [intOf]
   ·have hix:=idx13_1 (qab 0) (qab 1) (qab 2) (qab 3) (qab 4) (qab 5) (qab 6) (qab 7) (qab 8) (qab 9) (qab 10) (qab 11) (qab 12)
    have hz:(qab 1).size=1:=rfl
    cases he:hit s i 1 with
    |true=>
     have ht:=ai (sgn_at 1 (by omega) (by omega) (uh hno) he)
     have hx:=qcn hi (by omega) he
     rw [hz] at hx
     have hle:=hx.1
     have hxe:=ai hx.2
     clear hx
     go_wp2_with (first|(go_at_call 350;refine (qa4 s i 1 hi hs (by omega) (by omega)).mono ?_;rintro e w' ⟨rfl,rfl⟩)|(go_at_call 290;refine (cut_C s i (i+1) _ (by omega) hle hs).mono ?_;rintro e w1 ⟨rfl,hb⟩;have B1:=ai ((uh B0).below hb);have HB1:=ai ((uh HB).trans (hb.mono (by simp)));obtain ⟨c1,f1,y1⟩:=uh B1;clear hb))
     have BF:=ai ((uh B1).set4 rfl (.int .i64 (i:Int)) (.int .i64 ((i:Int)+1)) (.string (qab 1)) (.string (s.extract i (i+1))))
     obtain ⟨cF,fF,zF⟩:=uh BF
     rw [uh ht]
     refine bodyPost_ret (v:=qbn (Pu.mkT s i 5 (i+1))) ?_ rfl ⟨(uh HB1).set4 (br _) _ _ _ _,Or.inl ⟨by simp [Pu.mkT],rfl⟩⟩
     have hk:qak (Pu.mkT s i 5 (i+1))=qab 1:=uh hxe
     simp only [qbn,hk]
     simp [results,Tryz.results295,go_sem,cF,Pu.mkT]
    |false=>
     have hn2:Hid (∀m,m<2→hit s i m=false):=fun m hm=>by
      by_cases e:m=1
      ·subst e;exact he
      ·exact uh hno m (by omega)
     go_wp2_with (go_at_call 350;refine (qa4 s i 1 hi hs (by omega) (by omega)).mono ?_;rintro e w' ⟨rfl,rfl⟩)
     go_round
     case rel=>exact ⟨2,by omega,by go_num,hn2⟩
     case measure=>simp [intOf]
   ·have hix:=idx13_2 (qab 0) (qab 1) (qab 2) (qab 3) (qab 4) (qab 5) (qab 6) (qab 7) (qab 8) (qab 9) (qab 10) (qab 11) (qab 12)
    have hz:(qab 2).size=1:=rfl
    cases he:hit s i 2 with
    |true=>
     have ht:=ai (sgn_at 2 (by omega) (by omega) (uh hno) he)
     have hx:=qcn hi (by omega) he
     rw [hz] at hx
     have hle:=hx.1
     have hxe:=ai hx.2
     clear hx
     go_wp2_with (first|(go_at_call 350;refine (qa4 s i 2 hi hs (by omega) (by omega)).mono ?_;rintro e w' ⟨rfl,rfl⟩)|(go_at_call 290;refine (cut_C s i (i+1) _ (by omega) hle hs).mono ?_;rintro e w1 ⟨rfl,hb⟩;have B1:=ai ((uh B0).below hb);have HB1:=ai ((uh HB).trans (hb.mono (by simp)));obtain ⟨c1,f1,y1⟩:=uh B1;clear hb))
     have BF:=ai ((uh B1).set4 rfl (.int .i64 (i:Int)) (.int .i64 ((i:Int)+1)) (.string (qab 2)) (.string (s.extract i (i+1))))
     obtain ⟨cF,fF,zF⟩:=uh BF
     rw [uh ht]
     refine bodyPost_ret (v:=qbn (Pu.mkT s i 5 (i+1))) ?_ rfl ⟨(uh HB1).set4 (br _) _ _ _ _,Or.inl ⟨by simp [Pu.mkT],rfl⟩⟩
     have hk:qak (Pu.mkT s i 5 (i+1))=qab 2:=uh hxe
     simp only [qbn,hk]
     simp [results,Tryz.results295,go_sem,cF,Pu.mkT]
    |false=>
     have hn2:Hid (∀m,m<3→hit s i m=false):=fun m hm=>by
      by_cases e:m=2
      ·subst e;exact he
      ·exact uh hno m (by omega)
     go_wp2_with (go_at_call 350;refine (qa4 s i 2 hi hs (by omega) (by omega)).mono ?_;rintro e w' ⟨rfl,rfl⟩)
     go_round
     case rel=>exact ⟨3,by omega,by go_num,hn2⟩
     case measure=>simp [intOf]
   ·have hix:=idx13_3 (qab 0) (qab 1) (qab 2) (qab 3) (qab 4) (qab 5) (qab 6) (qab 7) (qab 8) (qab 9) (qab 10) (qab 11) (qab 12)
    have hz:(qab 3).size=1:=rfl
    cases he:hit s i 3 with
    |true=>
     have ht:=ai (sgn_at 3 (by omega) (by omega) (uh hno) he)
     have hx:=qcn hi (by omega) he
     rw [hz] at hx
     have hle:=hx.1
     have hxe:=ai hx.2
     clear hx
     go_wp2_with (first|(go_at_call 350;refine (qa4 s i 3 hi hs (by omega) (by omega)).mono ?_;rintro e w' ⟨rfl,rfl⟩)|(go_at_call 290;refine (cut_C s i (i+1) _ (by omega) hle hs).mono ?_;rintro e w1 ⟨rfl,hb⟩;have B1:=ai ((uh B0).below hb);have HB1:=ai ((uh HB).trans (hb.mono (by simp)));obtain ⟨c1,f1,y1⟩:=uh B1;clear hb))
     have BF:=ai ((uh B1).set4 rfl (.int .i64 (i:Int)) (.int .i64 ((i:Int)+1)) (.string (qab 3)) (.string (s.extract i (i+1))))
     obtain ⟨cF,fF,zF⟩:=uh BF
     rw [uh ht]
     refine bodyPost_ret (v:=qbn (Pu.mkT s i 5 (i+1))) ?_ rfl ⟨(uh HB1).set4 (br _) _ _ _ _,Or.inl ⟨by simp [Pu.mkT],rfl⟩⟩
     have hk:qak (Pu.mkT s i 5 (i+1))=qab 3:=uh hxe
     simp only [qbn,hk]
     simp [results,Tryz.results295,go_sem,cF,Pu.mkT]
    |false=>
     have hn2:Hid (∀m,m<4→hit s i m=false):=fun m hm=>by
      by_cases e:m=3
      ·subst e;exact he
      ·exact uh hno m (by omega)
     go_wp2_with (go_at_call 350;refine (qa4 s i 3 hi hs (by omega) (by omega)).mono ?_;rintro e w' ⟨rfl,rfl⟩)
     go_round
     case rel=>exact ⟨4,by omega,by go_num,hn2⟩
     case measure=>simp [intOf]
   ·have hix:=idx13_4 (qab 0) (qab 1) (qab 2) (qab 3) (qab 4) (qab 5) (qab 6) (qab 7) (qab 8) (qab 9) (qab 10) (qab 11) (qab 12)
    have hz:(qab 4).size=1:=rfl
    cases he:hit s i 4 with
    |true=>
     have ht:=ai (sgn_at 4 (by omega) (by omega) (uh hno) he)
     have hx:=qcn hi (by omega) he
     rw [hz] at hx
     have hle:=hx.1
     have hxe:=ai hx.2
     clear hx
     go_wp2_with (first|(go_at_call 350;refine (qa4 s i 4 hi hs (by omega) (by omega)).mono ?_;rintro e w' ⟨rfl,rfl⟩)|(go_at_call 290;refine (cut_C s i (i+1) _ (by omega) hle hs).mono ?_;rintro e w1 ⟨rfl,hb⟩;have B1:=ai ((uh B0).below hb);have HB1:=ai ((uh HB).trans (hb.mono (by simp)));obtain ⟨c1,f1,y1⟩:=uh B1;clear hb))
     have BF:=ai ((uh B1).set4 rfl (.int .i64 (i:Int)) (.int .i64 ((i:Int)+1)) (.string (qab 4)) (.string (s.extract i (i+1))))
     obtain ⟨cF,fF,zF⟩:=uh BF
     rw [uh ht]
     refine bodyPost_ret (v:=qbn (Pu.mkT s i 5 (i+1))) ?_ rfl ⟨(uh HB1).set4 (br _) _ _ _ _,Or.inl ⟨by simp [Pu.mkT],rfl⟩⟩
     have hk:qak (Pu.mkT s i 5 (i+1))=qab 4:=uh hxe
     simp only [qbn,hk]
     simp [results,Tryz.results295,go_sem,cF,Pu.mkT]
    |false=>
     have hn2:Hid (∀m,m<5→hit s i m=false):=fun m hm=>by
      by_cases e:m=4
      ·subst e;exact he
      ·exact uh hno m (by omega)
     go_wp2_with (go_at_call 350;refine (qa4 s i 4 hi hs (by omega) (by omega)).mono ?_;rintro e w' ⟨rfl,rfl⟩)
     go_round
     case rel=>exact ⟨5,by omega,by go_num,hn2⟩
     case measure=>simp [intOf]
   ·have hix:=idx13_5 (qab 0) (qab 1) (qab 2) (qab 3) (qab 4) (qab 5) (qab 6) (qab 7) (qab 8) (qab 9) (qab 10) (qab 11) (qab 12)
    have hz:(qab 5).size=1:=rfl
    cases he:hit s i 5 with
    |true=>
     have ht:=ai (sgn_at 5 (by omega) (by omega) (uh hno) he)
     have hx:=qcn hi (by omega) he
     rw [hz] at hx
     have hle:=hx.1
     have hxe:=ai hx.2
     clear hx
     go_wp2_with (first|(go_at_call 350;refine (qa4 s i 5 hi hs (by omega) (by omega)).mono ?_;rintro e w' ⟨rfl,rfl⟩)|(go_at_call 290;refine (cut_C s i (i+1) _ (by omega) hle hs).mono ?_;rintro e w1 ⟨rfl,hb⟩;have B1:=ai ((uh B0).below hb);have HB1:=ai ((uh HB).trans (hb.mono (by simp)));obtain ⟨c1,f1,y1⟩:=uh B1;clear hb))
     have BF:=ai ((uh B1).set4 rfl (.int .i64 (i:Int)) (.int .i64 ((i:Int)+1)) (.string (qab 5)) (.string (s.extract i (i+1))))
     obtain ⟨cF,fF,zF⟩:=uh BF
     rw [uh ht]
     refine bodyPost_ret (v:=qbn (Pu.mkT s i 5 (i+1))) ?_ rfl ⟨(uh HB1).set4 (br _) _ _ _ _,Or.inl ⟨by simp [Pu.mkT],rfl⟩⟩
     have hk:qak (Pu.mkT s i 5 (i+1))=qab 5:=uh hxe
     simp only [qbn,hk]
     simp [results,Tryz.results295,go_sem,cF,Pu.mkT]
    |false=>
     have hn2:Hid (∀m,m<6→hit s i m=false):=fun m hm=>by
      by_cases e:m=5
      ·subst e;exact he
      ·exact uh hno m (by omega)
     go_wp2_with (go_at_call 350;refine (qa4 s i 5 hi hs (by omega) (by omega)).mono ?_;rintro e w' ⟨rfl,rfl⟩)
     go_round
     case rel=>exact ⟨6,by omega,by go_num,hn2⟩
     case measure=>simp [intOf]
   ·have hix:=idx13_6 (qab 0) (qab 1) (qab 2) (qab 3) (qab 4) (qab 5) (qab 6) (qab 7) (qab 8) (qab 9) (qab 10) (qab 11) (qab 12)
    have hz:(qab 6).size=1:=rfl
    cases he:hit s i 6 with
    |true=>
     have ht:=ai (sgn_at 6 (by omega) (by omega) (uh hno) he)
     have hx:=qcn hi (by omega) he
     rw [hz] at hx
     have hle:=hx.1
     have hxe:=ai hx.2
     clear hx
     go_wp2_with (first|(go_at_call 350;refine (qa4 s i 6 hi hs (by omega) (by omega)).mono ?_;rintro e w' ⟨rfl,rfl⟩)|(go_at_call 290;refine (cut_C s i (i+1) _ (by omega) hle hs).mono ?_;rintro e w1 ⟨rfl,hb⟩;have B1:=ai ((uh B0).below hb);have HB1:=ai ((uh HB).trans (hb.mono (by simp)));obtain ⟨c1,f1,y1⟩:=uh B1;clear hb))
     have BF:=ai ((uh B1).set4 rfl (.int .i64 (i:Int)) (.int .i64 ((i:Int)+1)) (.string (qab 6)) (.string (s.extract i (i+1))))
     obtain ⟨cF,fF,zF⟩:=uh BF
     rw [uh ht]
     refine bodyPost_ret (v:=qbn (Pu.mkT s i 5 (i+1))) ?_ rfl ⟨(uh HB1).set4 (br _) _ _ _ _,Or.inl ⟨by simp [Pu.mkT],rfl⟩⟩
     have hk:qak (Pu.mkT s i 5 (i+1))=qab 6:=uh hxe
     simp only [qbn,hk]
     simp [results,Tryz.results295,go_sem,cF,Pu.mkT]
    |false=>
     have hn2:Hid (∀m,m<7→hit s i m=false):=fun m hm=>by
      by_cases e:m=6
      ·subst e;exact he
      ·exact uh hno m (by omega)
     go_wp2_with (go_at_call 350;refine (qa4 s i 6 hi hs (by omega) (by omega)).mono ?_;rintro e w' ⟨rfl,rfl⟩)
     go_round
     case rel=>exact ⟨7,by omega,by go_num,hn2⟩
     case measure=>simp [intOf]
   ·have hix:=idx13_7 (qab 0) (qab 1) (qab 2) (qab 3) (qab 4) (qab 5) (qab 6) (qab 7) (qab 8) (qab 9) (qab 10) (qab 11) (qab 12)
    have hz:(qab 7).size=1:=rfl
    cases he:hit s i 7 with
    |true=>
     have ht:=ai (sgn_at 7 (by omega) (by omega) (uh hno) he)
     have hx:=qcn hi (by omega) he
     rw [hz] at hx
     have hle:=hx.1
     have hxe:=ai hx.2
     clear hx
     go_wp2_with (first|(go_at_call 350;refine (qa4 s i 7 hi hs (by omega) (by omega)).mono ?_;rintro e w' ⟨rfl,rfl⟩)|(go_at_call 290;refine (cut_C s i (i+1) _ (by omega) hle hs).mono ?_;rintro e w1 ⟨rfl,hb⟩;have B1:=ai ((uh B0).below hb);have HB1:=ai ((uh HB).trans (hb.mono (by simp)));obtain ⟨c1,f1,y1⟩:=uh B1;clear hb))
     have BF:=ai ((uh B1).set4 rfl (.int .i64 (i:Int)) (.int .i64 ((i:Int)+1)) (.string (qab 7)) (.string (s.extract i (i+1))))
     obtain ⟨cF,fF,zF⟩:=uh BF
     rw [uh ht]
     refine bodyPost_ret (v:=qbn (Pu.mkT s i 5 (i+1))) ?_ rfl ⟨(uh HB1).set4 (br _) _ _ _ _,Or.inl ⟨by simp [Pu.mkT],rfl⟩⟩
     have hk:qak (Pu.mkT s i 5 (i+1))=qab 7:=uh hxe
     simp only [qbn,hk]
     simp [results,Tryz.results295,go_sem,cF,Pu.mkT]
    |false=>
     have hn2:Hid (∀m,m<8→hit s i m=false):=fun m hm=>by
      by_cases e:m=7
      ·subst e;exact he
      ·exact uh hno m (by omega)
     go_wp2_with (go_at_call 350;refine (qa4 s i 7 hi hs (by omega) (by omega)).mono ?_;rintro e w' ⟨rfl,rfl⟩)
     go_round
     case rel=>exact ⟨8,by omega,by go_num,hn2⟩
     case measure=>simp [intOf]
   ·have hix:=idx13_8 (qab 0) (qab 1) (qab 2) (qab 3) (qab 4) (qab 5) (qab 6) (qab 7) (qab 8) (qab 9) (qab 10) (qab 11) (qab 12)
    have hz:(qab 8).size=1:=rfl
    cases he:hit s i 8 with
    |true=>
     have ht:=ai (sgn_at 8 (by omega) (by omega) (uh hno) he)
     have hx:=qcn hi (by omega) he
     rw [hz] at hx
     have hle:=hx.1
     have hxe:=ai hx.2
     clear hx
     go_wp2_with (first|(go_at_call 350;refine (qa4 s i 8 hi hs (by omega) (by omega)).mono ?_;rintro e w' ⟨rfl,rfl⟩)|(go_at_call 290;refine (cut_C s i (i+1) _ (by omega) hle hs).mono ?_;rintro e w1 ⟨rfl,hb⟩;have B1:=ai ((uh B0).below hb);have HB1:=ai ((uh HB).trans (hb.mono (by simp)));obtain ⟨c1,f1,y1⟩:=uh B1;clear hb))
     have BF:=ai ((uh B1).set4 rfl (.int .i64 (i:Int)) (.int .i64 ((i:Int)+1)) (.string (qab 8)) (.string (s.extract i (i+1))))
     obtain ⟨cF,fF,zF⟩:=uh BF
     rw [uh ht]
     refine bodyPost_ret (v:=qbn (Pu.mkT s i 5 (i+1))) ?_ rfl ⟨(uh HB1).set4 (br _) _ _ _ _,Or.inl ⟨by simp [Pu.mkT],rfl⟩⟩
     have hk:qak (Pu.mkT s i 5 (i+1))=qab 8:=uh hxe
     simp only [qbn,hk]
     simp [results,Tryz.results295,go_sem,cF,Pu.mkT]
    |false=>
     have hn2:Hid (∀m,m<9→hit s i m=false):=fun m hm=>by
      by_cases e:m=8
      ·subst e;exact he
      ·exact uh hno m (by omega)
     go_wp2_with (go_at_call 350;refine (qa4 s i 8 hi hs (by omega) (by omega)).mono ?_;rintro e w' ⟨rfl,rfl⟩)
     go_round
     case rel=>exact ⟨9,by omega,by go_num,hn2⟩
     case measure=>simp [intOf]
   ·have hix:=idx13_9 (qab 0) (qab 1) (qab 2) (qab 3) (qab 4) (qab 5) (qab 6) (qab 7) (qab 8) (qab 9) (qab 10) (qab 11) (qab 12)
    have hz:(qab 9).size=1:=rfl
    cases he:hit s i 9 with
    |true=>
     have ht:=ai (sgn_at 9 (by omega) (by omega) (uh hno) he)
     have hx:=qcn hi (by omega) he
     rw [hz] at hx
     have hle:=hx.1
     have hxe:=ai hx.2
     clear hx
     go_wp2_with (first|(go_at_call 350;refine (qa4 s i 9 hi hs (by omega) (by omega)).mono ?_;rintro e w' ⟨rfl,rfl⟩)|(go_at_call 290;refine (cut_C s i (i+1) _ (by omega) hle hs).mono ?_;rintro e w1 ⟨rfl,hb⟩;have B1:=ai ((uh B0).below hb);have HB1:=ai ((uh HB).trans (hb.mono (by simp)));obtain ⟨c1,f1,y1⟩:=uh B1;clear hb))
     have BF:=ai ((uh B1).set4 rfl (.int .i64 (i:Int)) (.int .i64 ((i:Int)+1)) (.string (qab 9)) (.string (s.extract i (i+1))))
     obtain ⟨cF,fF,zF⟩:=uh BF
     rw [uh ht]
     refine bodyPost_ret (v:=qbn (Pu.mkT s i 5 (i+1))) ?_ rfl ⟨(uh HB1).set4 (br _) _ _ _ _,Or.inl ⟨by simp [Pu.mkT],rfl⟩⟩
     have hk:qak (Pu.mkT s i 5 (i+1))=qab 9:=uh hxe
     simp only [qbn,hk]
     simp [results,Tryz.results295,go_sem,cF,Pu.mkT]
    |false=>
     have hn2:Hid (∀m,m<10→hit s i m=false):=fun m hm=>by
      by_cases e:m=9
      ·subst e;exact he
      ·exact uh hno m (by omega)
     go_wp2_with (go_at_call 350;refine (qa4 s i 9 hi hs (by omega) (by omega)).mono ?_;rintro e w' ⟨rfl,rfl⟩)
     go_round
     case rel=>exact ⟨10,by omega,by go_num,hn2⟩
     case measure=>simp [intOf]
   ·have hix:=idx13_10 (qab 0) (qab 1) (qab 2) (qab 3) (qab 4) (qab 5) (qab 6) (qab 7) (qab 8) (qab 9) (qab 10) (qab 11) (qab 12)
    have hz:(qab 10).size=1:=rfl
    cases he:hit s i 10 with
    |true=>
     have ht:=ai (sgn_at 10 (by omega) (by omega) (uh hno) he)
     have hx:=qcn hi (by omega) he
     rw [hz] at hx
     have hle:=hx.1
     have hxe:=ai hx.2
     clear hx
     go_wp2_with (first|(go_at_call 350;refine (qa4 s i 10 hi hs (by omega) (by omega)).mono ?_;rintro e w' ⟨rfl,rfl⟩)|(go_at_call 290;refine (cut_C s i (i+1) _ (by omega) hle hs).mono ?_;rintro e w1 ⟨rfl,hb⟩;have B1:=ai ((uh B0).below hb);have HB1:=ai ((uh HB).trans (hb.mono (by simp)));obtain ⟨c1,f1,y1⟩:=uh B1;clear hb))
     have BF:=ai ((uh B1).set4 rfl (.int .i64 (i:Int)) (.int .i64 ((i:Int)+1)) (.string (qab 10)) (.string (s.extract i (i+1))))
     obtain ⟨cF,fF,zF⟩:=uh BF
     rw [uh ht]
     refine bodyPost_ret (v:=qbn (Pu.mkT s i 5 (i+1))) ?_ rfl ⟨(uh HB1).set4 (br _) _ _ _ _,Or.inl ⟨by simp [Pu.mkT],rfl⟩⟩
     have hk:qak (Pu.mkT s i 5 (i+1))=qab 10:=uh hxe
     simp only [qbn,hk]
     simp [results,Tryz.results295,go_sem,cF,Pu.mkT]
    |false=>
     have hn2:Hid (∀m,m<11→hit s i m=false):=fun m hm=>by
      by_cases e:m=10
      ·subst e;exact he
      ·exact uh hno m (by omega)
     go_wp2_with (go_at_call 350;refine (qa4 s i 10 hi hs (by omega) (by omega)).mono ?_;rintro e w' ⟨rfl,rfl⟩)
     go_round
     case rel=>exact ⟨11,by omega,by go_num,hn2⟩
     case measure=>simp [intOf]
   ·have hix:=idx13_11 (qab 0) (qab 1) (qab 2) (qab 3) (qab 4) (qab 5) (qab 6) (qab 7) (qab 8) (qab 9) (qab 10) (qab 11) (qab 12)
    have hz:(qab 11).size=1:=rfl
    cases he:hit s i 11 with
    |true=>
     have ht:=ai (sgn_at 11 (by omega) (by omega) (uh hno) he)
     have hx:=qcn hi (by omega) he
     rw [hz] at hx
     have hle:=hx.1
     have hxe:=ai hx.2
     clear hx
     go_wp2_with (first|(go_at_call 350;refine (qa4 s i 11 hi hs (by omega) (by omega)).mono ?_;rintro e w' ⟨rfl,rfl⟩)|(go_at_call 290;refine (cut_C s i (i+1) _ (by omega) hle hs).mono ?_;rintro e w1 ⟨rfl,hb⟩;have B1:=ai ((uh B0).below hb);have HB1:=ai ((uh HB).trans (hb.mono (by simp)));obtain ⟨c1,f1,y1⟩:=uh B1;clear hb))
     have BF:=ai ((uh B1).set4 rfl (.int .i64 (i:Int)) (.int .i64 ((i:Int)+1)) (.string (qab 11)) (.string (s.extract i (i+1))))
     obtain ⟨cF,fF,zF⟩:=uh BF
     rw [uh ht]
     refine bodyPost_ret (v:=qbn (Pu.mkT s i 5 (i+1))) ?_ rfl ⟨(uh HB1).set4 (br _) _ _ _ _,Or.inl ⟨by simp [Pu.mkT],rfl⟩⟩
     have hk:qak (Pu.mkT s i 5 (i+1))=qab 11:=uh hxe
     simp only [qbn,hk]
     simp [results,Tryz.results295,go_sem,cF,Pu.mkT]
    |false=>
     have hn2:Hid (∀m,m<12→hit s i m=false):=fun m hm=>by
      by_cases e:m=11
      ·subst e;exact he
      ·exact uh hno m (by omega)
     go_wp2_with (go_at_call 350;refine (qa4 s i 11 hi hs (by omega) (by omega)).mono ?_;rintro e w' ⟨rfl,rfl⟩)
     go_round
     case rel=>exact ⟨12,by omega,by go_num,hn2⟩
     case measure=>simp [intOf]
   ·have hix:=idx13_12 (qab 0) (qab 1) (qab 2) (qab 3) (qab 4) (qab 5) (qab 6) (qab 7) (qab 8) (qab 9) (qab 10) (qab 11) (qab 12)
    have hz:(qab 12).size=1:=rfl
    cases he:hit s i 12 with
    |true=>
     have ht:=ai (sgn_at 12 (by omega) (by omega) (uh hno) he)
     have hx:=qcn hi (by omega) he
     rw [hz] at hx
     have hle:=hx.1
     have hxe:=ai hx.2
     clear hx
     go_wp2_with (first|(go_at_call 350;refine (qa4 s i 12 hi hs (by omega) (by omega)).mono ?_;rintro e w' ⟨rfl,rfl⟩)|(go_at_call 290;refine (cut_C s i (i+1) _ (by omega) hle hs).mono ?_;rintro e w1 ⟨rfl,hb⟩;have B1:=ai ((uh B0).below hb);have HB1:=ai ((uh HB).trans (hb.mono (by simp)));obtain ⟨c1,f1,y1⟩:=uh B1;clear hb))
     have BF:=ai ((uh B1).set4 rfl (.int .i64 (i:Int)) (.int .i64 ((i:Int)+1)) (.string (qab 12)) (.string (s.extract i (i+1))))
     obtain ⟨cF,fF,zF⟩:=uh BF
     rw [uh ht]
     refine bodyPost_ret (v:=qbn (Pu.mkT s i 5 (i+1))) ?_ rfl ⟨(uh HB1).set4 (br _) _ _ _ _,Or.inl ⟨by simp [Pu.mkT],rfl⟩⟩
     have hk:qak (Pu.mkT s i 5 (i+1))=qab 12:=uh hxe
     simp only [qbn,hk]
     simp [results,Tryz.results295,go_sem,cF,Pu.mkT]
    |false=>
     have hn2:Hid (∀m,m<13→hit s i m=false):=fun m hm=>by
      by_cases e:m=12
      ·subst e;exact he
      ·exact uh hno m (by omega)
     go_wp2_with (go_at_call 350;refine (qa4 s i 12 hi hs (by omega) (by omega)).mono ?_;rintro e w' ⟨rfl,rfl⟩)
     go_round
     case rel=>exact ⟨13,by omega,by go_num,hn2⟩
     case measure=>simp [intOf]
  ·have ht:=ai (sgn_no (s:=s) (i:=i) (fun m hm=>uh hno m (by omega)))
   go_wp2_with (go_at_call 349;refine (noToken_C _ _).mono ?_;rintro e w1 ⟨rfl,hb⟩;have HB1:=ai ((uh HB).trans (hb.mono (by simp)));clear hb)
   rw [uh ht]
   exact ⟨rfl,uh HB1,Or.inr ⟨rfl,rfl⟩⟩
end
end
section
open Go Go.RowKit
def qaq (s:BA) (i:Nat):Pu.Tok:=if Pu.endTo s blankB i<s.size then Pu.tokAt s (Pu.endTo s blankB i) else Pu.endTok s
theorem endTo_stop (s:BA) (p:Nat→Bool):∀n i,s.size-i=n→Pu.endTo s p i<s.size→p (Pu.at_ s (Pu.endTo s p i))=false:=by
 intro n
 induction n with
 |zero=>intro i h hl;rw [Pu.endTo_end (by omega)] at hl;omega
 |succ n ih=>
  intro i h hl
  cases hp:p (Pu.at_ s i) with
  |true=>rw [Pu.endTo_yes (by omega) hp] at hl⊢;exact ih (i+1) (by omega) hl
  |false=>rw [Pu.endTo_no (by omega) hp];exact hp
theorem toks_skip (s:BA):∀n i,s.size-i=n→Pu.toks s i=Pu.toks s (Pu.endTo s blankB i):=by
 intro n
 induction n with
 |zero=>intro i h;rw [Pu.endTo_end (by omega)]
 |succ n ih=>
  intro i h
  cases hp:blankB (Pu.at_ s i) with
  |true=>rw [Pu.endTo_yes (by omega) hp,Pu.toks_blank (by omega) hp];exact ih (i+1) (by omega)
  |false=>rw [Pu.endTo_no (by omega) hp]
theorem toks_next (s:BA) (i:Nat) (hi:i≤s.size):Pu.toks s i=if (qaq s i).kind=7 then [Pu.endTok s] else qaq s i::Pu.toks s (qaq s i).to:=by
 rw [toks_skip s _ i rfl]
 unfold qaq
 by_cases h:Pu.endTo s blankB i<s.size
 ·rw [if_pos h,if_neg,Pu.toks_tok h (endTo_stop s blankB _ i rfl h)]
  unfold Pu.tokAt Pu.mkT
  repeat' split
  all_goals simp
 ·rw [if_neg h,if_pos (show (Pu.endTok s).kind=7 from rfl),Pu.toks_end (by omega)]
theorem TokPost.ok {t:Pu.Tok} {w w':World} {e:Ending} (h:TokPost t w e w') (hk:t.kind≠6):e=.returned (.agg #[.int .i64 (t.frm:Int),.int .i64 (t.to:Int),.string (qak t),.string t.text])∧Below w.heap.size w w':=by
 obtain ⟨hb,⟨_,he⟩|⟨hn,_⟩⟩:=h
 ·exact ⟨he,hb⟩
 ·exact absurd hn hk
theorem TokPost.bad {t:Pu.Tok} {w w':World} {e:Ending} (h:TokPost t w e w') (hk:t.kind=6):e=.panicked [{v:=.iface 231 (.agg #[.int .i64 2,.int .i64 (t.frm:Int),.int .i64 (t.to:Int)]),recovered:=false}]∧Below w.heap.size w w':=by
 obtain ⟨hb,⟨hn,_⟩|⟨_,he⟩⟩:=h
 ·exact absurd hk hn
 ·exact ⟨he,hb⟩
theorem tokAt_dig {s:BA} {i:Nat} (hi:i<s.size) (hd:Pu.digB (Pu.at_ s i)=true):Pu.tokAt s i=(if Pu.endTo s Pu.digB i-i≤9 then Pu.mkT s i 4 (Pu.endTo s Pu.digB i) else Pu.mkT s i 6 (Pu.endTo s Pu.digB i)):=by
 have hd':=hd
 simp [Pu.digB] at hd'
 unfold Pu.tokAt
 rw [if_neg (by simp [Pu.lowB];omega),if_neg (by simp [Pu.upB];omega),if_neg (by intro q;omega),if_pos hd,Pu.endTo_yes hi hd]
theorem tokAt_var {s:BA} {i:Nat} (hd:Pu.at_ s i=39):Pu.tokAt s i=varTok s i:=by
 unfold Pu.tokAt varTok
 rw [hd,if_neg (by decide),if_neg (by decide)]
 by_cases hl:Pu.lowB (Pu.at_ s (i+1))=true
 ·rw [if_pos ⟨rfl,hl⟩,if_pos hl]
 ·rw [if_neg (fun q=>hl q.2),if_neg hl,if_neg (by decide),if_neg (by intro q;exact absurd q.1 (by decide)),if_neg (by decide)]
theorem tokAt_sgn {s:BA} {i:Nat} (h1:Pu.lowB (Pu.at_ s i)=false) (h2:Pu.upB (Pu.at_ s i)=false) (h3:Pu.digB (Pu.at_ s i)=false) (h4:Pu.at_ s i≠39):Pu.tokAt s i=sgnTok s i:=by
 unfold Pu.tokAt sgnTok
 rw [if_neg (by simp [h1]),if_neg (by simp [h2]),if_neg (fun q=>h4 q.1),if_neg (by simp [h3])]
theorem tokAt_up {s:BA} {i:Nat} (h1:Pu.lowB (Pu.at_ s i)=false) (h2:Pu.upB (Pu.at_ s i)=true):Pu.tokAt s i=Pu.mkT s i 2 (Pu.endTo s Pu.nameB i):=by
 unfold Pu.tokAt
 rw [if_neg (by simp [h1]),if_pos h2]
theorem tokAt_low {s:BA} {i:Nat} (h1:Pu.lowB (Pu.at_ s i)=true):Pu.tokAt s i=(if Pu.wordB (s.extract i (Pu.endTo s Pu.nameB i))=true then Pu.mkT s i 5 (Pu.endTo s Pu.nameB i) else Pu.mkT s i 1 (Pu.endTo s Pu.nameB i)):=by
 unfold Pu.tokAt
 rw [if_pos h1]
section
variable {w:World}
theorem behind_C (h:Laid w) (s:BA) (i:Nat) (hi:i≤s.size) (hs:s.size≤1000):
 Calls Tryz.prog 189 #[.string s,.int .i64 (i:Int)] w (TokPost (qaq s i) w):=by
 have B0:=ai (Bx.new w zPt 236)
 have HB:=ai ((Below.refl w.heap.size w).alloc (br _) (.cells zPt 236))
 have H:=ai (h.bel (uh HB))
 clear h
 have E:=fun W=>endBlank_any s i W hs hi
 have hle:=Pu.endTo_le (s:=s) blankB hi
 have hge:=Pu.endTo_ge s blankB i
 unfold qaq
 generalize Pu.endTo s blankB i=j at E hle hge⊢
 by_cases hj:j<s.size
 ·have he:((j:Int)==(s.size:Int))=false:=by simp;omega
  rw [if_pos hj]
  have hat:Pu.at_ s j=s[j].toNat:=Pu.at_lt hj
  cases h1:Pu.lowB s[j].toNat
  case true=>
   ·have a1:Pu.lowB (Pu.at_ s j)=true:=by rw [hat];exact h1
    obtain ⟨T,hT⟩:∃T,T=Pu.tokAt s j:=⟨_,rfl⟩
    have C:∀W,Laid W→Calls Tryz.prog 288 #[.string s,.int .i64 (j:Int)] W (TokPost T W):=fun W hW=>by rw [hT,tokAt_low a1];exact (lowOrWord_C hW s j hj hs).mono fun e w' q=>⟨q.2,Or.inl ⟨by split<;>simp [Pu.mkT],q.1⟩⟩
    rw [←hT]
    clear hT hat
    by_cases hk:T.kind=6
    ·go_enter Tryz.func189,Tryz.ntmps189
     go_wp2_with (first|(go_at_call 285;with_reducible refine (E _).mono ?_;rintro e w' ⟨rfl,rfl⟩)|(go_at_call 287;refine (qcg _ _).mono ?_;rintro e w' ⟨rfl,rfl⟩)|(go_at_call 289;refine (qd3 _ _).mono ?_;rintro e w' ⟨rfl,rfl⟩)|(go_at_call 292;refine (qcq _ _).mono ?_;rintro e w' ⟨rfl,rfl⟩)|(go_at_call 288;refine (C _ (uh H)).mono ?_;intro e w1 hp;obtain ⟨rfl,hb⟩:=hp.bad hk;have HB1:=ai ((uh HB).trans (hb.mono (by simp)));clear hb))
     exact ⟨rfl,uh HB1,Or.inr ⟨hk,rfl⟩⟩
    ·go_enter Tryz.func189,Tryz.ntmps189
     go_wp2_with (first|(go_at_call 285;with_reducible refine (E _).mono ?_;rintro e w' ⟨rfl,rfl⟩)|(go_at_call 287;refine (qcg _ _).mono ?_;rintro e w' ⟨rfl,rfl⟩)|(go_at_call 289;refine (qd3 _ _).mono ?_;rintro e w' ⟨rfl,rfl⟩)|(go_at_call 292;refine (qcq _ _).mono ?_;rintro e w' ⟨rfl,rfl⟩)|(go_at_call 288;refine (C _ (uh H)).mono ?_;intro e w1 hp;obtain ⟨rfl,hb⟩:=hp.ok hk;have B1:=ai ((uh B0).below hb);have HB1:=ai ((uh HB).trans (hb.mono (by simp)));obtain ⟨c1,f1,y1⟩:=uh B1;clear hb))
     have BF:=ai ((uh B1).set4 rfl (.int .i64 (T.frm:Int)) (.int .i64 (T.to:Int)) (.string (qak T)) (.string T.text))
     obtain ⟨cF,fF,zF⟩:=uh BF
     exact bodyPost_ret (v:=qbn T) (by simp [results,Tryz.results189,go_sem,cF,qbn]) rfl ⟨(uh HB1).set4 (br _) _ _ _ _,Or.inl ⟨hk,rfl⟩⟩
  case false=>
  have a1:Pu.lowB (Pu.at_ s j)=false:=by rw [hat];exact h1
  cases h2:Pu.upB s[j].toNat
  case true=>
   have hle2:=Pu.endTo_le (s:=s) Pu.nameB (i:=j) (by omega)
   have hge2:=Pu.endTo_ge s Pu.nameB j
   rw [tokAt_up a1 (by rw [hat];exact h2)]
   clear hat a1
   go_enter Tryz.func189,Tryz.ntmps189
   go_wp2_with (first|(go_at_call 285;with_reducible refine (E _).mono ?_;rintro e w' ⟨rfl,rfl⟩)|(go_at_call 285;with_reducible refine (qdx s j _ hs (by omega)).mono ?_;rintro e w' ⟨rfl,rfl⟩)|(go_at_call 285;with_reducible refine (E _).mono ?_;rintro e w' ⟨rfl,rfl⟩)|(go_at_call 287;refine (qcg _ _).mono ?_;rintro e w' ⟨rfl,rfl⟩)|(go_at_call 289;refine (qd3 _ _).mono ?_;rintro e w' ⟨rfl,rfl⟩)|(go_at_call 292;refine (qcq _ _).mono ?_;rintro e w' ⟨rfl,rfl⟩)|(go_at_call 290;refine (cut_C s j _ _ hge2 hle2 hs).mono ?_;rintro e w1 ⟨rfl,hb⟩;have B1:=ai ((uh B0).below hb);have HB1:=ai ((uh HB).trans (hb.mono (by simp)));obtain ⟨c1,f1,y1⟩:=uh B1;clear hb))
   have BF:=ai ((uh B1).set4 rfl (.int .i64 (j:Int)) (.int .i64 ((Pu.endTo s Pu.nameB j:Nat):Int)) (.string ⟨#[117,112,32,110,97,109,101]⟩) (.string (s.extract j (Pu.endTo s Pu.nameB j))))
   obtain ⟨cF,fF,zF⟩:=uh BF
   exact bodyPost_ret (v:=qbn (Pu.mkT s j 2 (Pu.endTo s Pu.nameB j))) (by simp [results,Tryz.results189,go_sem,cF,qbn,Pu.mkT,qak]) rfl ⟨(uh HB1).set4 (br _) _ _ _ _,Or.inl ⟨by simp [Pu.mkT],rfl⟩⟩
  case false=>
  have a2:Pu.upB (Pu.at_ s j)=false:=by rw [hat];exact h2
  cases h3:Pu.digB s[j].toNat
  case true=>
   ·have a3:Pu.digB (Pu.at_ s j)=true:=by rw [hat];exact h3
    obtain ⟨T,hT⟩:∃T,T=Pu.tokAt s j:=⟨_,rfl⟩
    have C:∀W,Laid W→Calls Tryz.prog 293 #[.string s,.int .i64 (j:Int)] W (TokPost T W):=fun W hW=>by rw [hT,tokAt_dig hj a3];exact number_C s j hj hs
    rw [←hT]
    clear hT hat
    by_cases hk:T.kind=6
    ·go_enter Tryz.func189,Tryz.ntmps189
     go_wp2_with (first|(go_at_call 285;with_reducible refine (E _).mono ?_;rintro e w' ⟨rfl,rfl⟩)|(go_at_call 287;refine (qcg _ _).mono ?_;rintro e w' ⟨rfl,rfl⟩)|(go_at_call 289;refine (qd3 _ _).mono ?_;rintro e w' ⟨rfl,rfl⟩)|(go_at_call 292;refine (qcq _ _).mono ?_;rintro e w' ⟨rfl,rfl⟩)|(go_at_call 293;refine (C _ (uh H)).mono ?_;intro e w1 hp;obtain ⟨rfl,hb⟩:=hp.bad hk;have HB1:=ai ((uh HB).trans (hb.mono (by simp)));clear hb))
     exact ⟨rfl,uh HB1,Or.inr ⟨hk,rfl⟩⟩
    ·go_enter Tryz.func189,Tryz.ntmps189
     go_wp2_with (first|(go_at_call 285;with_reducible refine (E _).mono ?_;rintro e w' ⟨rfl,rfl⟩)|(go_at_call 287;refine (qcg _ _).mono ?_;rintro e w' ⟨rfl,rfl⟩)|(go_at_call 289;refine (qd3 _ _).mono ?_;rintro e w' ⟨rfl,rfl⟩)|(go_at_call 292;refine (qcq _ _).mono ?_;rintro e w' ⟨rfl,rfl⟩)|(go_at_call 293;refine (C _ (uh H)).mono ?_;intro e w1 hp;obtain ⟨rfl,hb⟩:=hp.ok hk;have B1:=ai ((uh B0).below hb);have HB1:=ai ((uh HB).trans (hb.mono (by simp)));obtain ⟨c1,f1,y1⟩:=uh B1;clear hb))
     have BF:=ai ((uh B1).set4 rfl (.int .i64 (T.frm:Int)) (.int .i64 (T.to:Int)) (.string (qak T)) (.string T.text))
     obtain ⟨cF,fF,zF⟩:=uh BF
     exact bodyPost_ret (v:=qbn T) (by simp [results,Tryz.results189,go_sem,cF,qbn]) rfl ⟨(uh HB1).set4 (br _) _ _ _ _,Or.inl ⟨hk,rfl⟩⟩
  case false=>
  have a3:Pu.digB (Pu.at_ s j)=false:=by rw [hat];exact h3
  by_cases h4:s[j].toNat=39
  ·have a4:Pu.at_ s j=39:=by rw [hat];exact h4
   have e4:((s[j].toNat:Int)==39)=true:=by simp;omega
   obtain ⟨T,hT⟩:∃T,T=Pu.tokAt s j:=⟨_,rfl⟩
   have C:∀W,Laid W→Calls Tryz.prog 294 #[.string s,.int .i64 (j:Int)] W (TokPost T W):=fun W hW=>by rw [hT,tokAt_var a4];exact var_C hW s j hj hs
   rw [←hT]
   clear hT hat
   by_cases hk:T.kind=6
   ·go_enter Tryz.func189,Tryz.ntmps189
    go_wp2_with (first|(go_at_call 285;with_reducible refine (E _).mono ?_;rintro e w' ⟨rfl,rfl⟩)|(go_at_call 287;refine (qcg _ _).mono ?_;rintro e w' ⟨rfl,rfl⟩)|(go_at_call 289;refine (qd3 _ _).mono ?_;rintro e w' ⟨rfl,rfl⟩)|(go_at_call 292;refine (qcq _ _).mono ?_;rintro e w' ⟨rfl,rfl⟩)|(go_at_call 294;refine (C _ (uh H)).mono ?_;intro e w1 hp;obtain ⟨rfl,hb⟩:=hp.bad hk;have HB1:=ai ((uh HB).trans (hb.mono (by simp)));clear hb))
    exact ⟨rfl,uh HB1,Or.inr ⟨hk,rfl⟩⟩
   ·go_enter Tryz.func189,Tryz.ntmps189
    go_wp2_with (first|(go_at_call 285;with_reducible refine (E _).mono ?_;rintro e w' ⟨rfl,rfl⟩)|(go_at_call 287;refine (qcg _ _).mono ?_;rintro e w' ⟨rfl,rfl⟩)|(go_at_call 289;refine (qd3 _ _).mono ?_;rintro e w' ⟨rfl,rfl⟩)|(go_at_call 292;refine (qcq _ _).mono ?_;rintro e w' ⟨rfl,rfl⟩)|(go_at_call 294;refine (C _ (uh H)).mono ?_;intro e w1 hp;obtain ⟨rfl,hb⟩:=hp.ok hk;have B1:=ai ((uh B0).below hb);have HB1:=ai ((uh HB).trans (hb.mono (by simp)));obtain ⟨c1,f1,y1⟩:=uh B1;clear hb))
    have BF:=ai ((uh B1).set4 rfl (.int .i64 (T.frm:Int)) (.int .i64 (T.to:Int)) (.string (qak T)) (.string T.text))
    obtain ⟨cF,fF,zF⟩:=uh BF
    exact bodyPost_ret (v:=qbn T) (by simp [results,Tryz.results189,go_sem,cF,qbn]) rfl ⟨(uh HB1).set4 (br _) _ _ _ _,Or.inl ⟨hk,rfl⟩⟩
  ·have a4:Pu.at_ s j≠39:=by rw [hat];exact h4
   have e4:((s[j].toNat:Int)==39)=false:=by simp;omega
   obtain ⟨T,hT⟩:∃T,T=Pu.tokAt s j:=⟨_,rfl⟩
   have C:∀W,Laid W→Calls Tryz.prog 295 #[.string s,.int .i64 (j:Int)] W (TokPost T W):=fun W hW=>by rw [hT,tokAt_sgn a1 a2 a3 a4];exact sign_C hW s j hj hs
   rw [←hT]
   clear hT hat
   by_cases hk:T.kind=6
   ·go_enter Tryz.func189,Tryz.ntmps189
    go_wp2_with (first|(go_at_call 285;with_reducible refine (E _).mono ?_;rintro e w' ⟨rfl,rfl⟩)|(go_at_call 287;refine (qcg _ _).mono ?_;rintro e w' ⟨rfl,rfl⟩)|(go_at_call 289;refine (qd3 _ _).mono ?_;rintro e w' ⟨rfl,rfl⟩)|(go_at_call 292;refine (qcq _ _).mono ?_;rintro e w' ⟨rfl,rfl⟩)|(go_at_call 295;refine (C _ (uh H)).mono ?_;intro e w1 hp;obtain ⟨rfl,hb⟩:=hp.bad hk;have HB1:=ai ((uh HB).trans (hb.mono (by simp)));clear hb))
    exact ⟨rfl,uh HB1,Or.inr ⟨hk,rfl⟩⟩
   ·go_enter Tryz.func189,Tryz.ntmps189
    go_wp2_with (first|(go_at_call 285;with_reducible refine (E _).mono ?_;rintro e w' ⟨rfl,rfl⟩)|(go_at_call 287;refine (qcg _ _).mono ?_;rintro e w' ⟨rfl,rfl⟩)|(go_at_call 289;refine (qd3 _ _).mono ?_;rintro e w' ⟨rfl,rfl⟩)|(go_at_call 292;refine (qcq _ _).mono ?_;rintro e w' ⟨rfl,rfl⟩)|(go_at_call 295;refine (C _ (uh H)).mono ?_;intro e w1 hp;obtain ⟨rfl,hb⟩:=hp.ok hk;have B1:=ai ((uh B0).below hb);have HB1:=ai ((uh HB).trans (hb.mono (by simp)));obtain ⟨c1,f1,y1⟩:=uh B1;clear hb))
    have BF:=ai ((uh B1).set4 rfl (.int .i64 (T.frm:Int)) (.int .i64 (T.to:Int)) (.string (qak T)) (.string T.text))
    obtain ⟨cF,fF,zF⟩:=uh BF
    exact bodyPost_ret (v:=qbn T) (by simp [results,Tryz.results189,go_sem,cF,qbn]) rfl ⟨(uh HB1).set4 (br _) _ _ _ _,Or.inl ⟨hk,rfl⟩⟩
 ·have he:((j:Int)==(s.size:Int))=true:=by simp;omega
  have hjs:j=s.size:=by omega
  rw [if_neg hj]
  obtain ⟨c1,f1,y1⟩:=uh B0
  go_enter Tryz.func189,Tryz.ntmps189
  go_wp2_with (first|(go_at_call 285;with_reducible refine (E _).mono ?_;rintro e w' ⟨rfl,rfl⟩)|(go_at_call 287;refine (qcg _ _).mono ?_;rintro e w' ⟨rfl,rfl⟩)|(go_at_call 289;refine (qd3 _ _).mono ?_;rintro e w' ⟨rfl,rfl⟩)|(go_at_call 292;refine (qcq _ _).mono ?_;rintro e w' ⟨rfl,rfl⟩))
  have BF:=ai (Bx.new w #[.int .i64 (j:Int),.int .i64 (j:Int),.string ⟨#[116,104,101,32,101,110,100]⟩,.string ⟨#[]⟩] 236)
  obtain ⟨cF,fF,zF⟩:=uh BF
  subst hjs
  exact bodyPost_ret (v:=qbn (Pu.endTok s)) (by simp [results,Tryz.results189,go_sem,cF,qbn,Pu.endTok,qak]) rfl ⟨(Below.refl w.heap.size w).alloc (br _) _,Or.inl ⟨by simp [Pu.endTok],rfl⟩⟩
end
end
section
open Go Go.RowKit
theorem toList_injA {a b:BA} (h:a.toList=b.toList):a=b:=by
 rw [ByteArray.toList_eq,ByteArray.toList_eq] at h
 exact ByteArray.ext (Array.toList_inj.1 h)
abbrev Ky:=Nat×List UInt8
def keyT (t:Pu.Tok):Ky:=(t.kind,t.text.toList)
abbrev yOpen:Ky:=(5,[40])
abbrev yClose:Ky:=(5,[41])
abbrev yComma:Ky:=(5,[44])
abbrev yArrow:Ky:=(5,[45,62])
mutual
def er:Nd→Nd
 |.mk k s _ L _ _ _=>.mk k s 0 (erL L) 0 0 0
def erL:List Nd→List Nd
 |[]=>[]
 |x::l=>er x::erL l
end
theorem erL_app:∀l m,erL (l++m)=erL l++erL m
 |[],m=>rfl
 |x::l,m=>by simp [erL,erL_app l m]
def sVar (s:BA):Nd:=.mk 16 s 0 [] 0 0 0
def sUp (s:BA) (l:List Nd):Nd:=.mk 2 s 0 l 0 0 0
def sPair (x y:Nd):Nd:=.mk 6 kNo 0 [x,y] 0 0 0
def sFn (x y:Nd):Nd:=.mk 17 kNo 0 [x,y] 0 0 0
inductive Gr:Nat→List Ky→Nd→Prop where
 |var (s:BA):Gr 0 [(3,s.toList)] (sVar s)
 |up0 (s:BA):Gr 0 [(2,s.toList)] (sUp s [])
 |par {p:List Ky} {t:Nd}:Gr 2 p t→Gr 0 (yOpen::(p++[yClose])) t
 |pair {p q:List Ky} {t u:Nd}:Gr 2 p t→Gr 2 q u→Gr 0 (yOpen::(p++(yComma::(q++[yClose])))) (sPair t u)
 |up (s:BA):Gr 3 [(2,s.toList)] (sUp s [])
 |arg {p q:List Ky} {s:BA} {l:List Nd} {u:Nd}:Gr 3 p (sUp s l)→Gr 0 q u→Gr 3 (p++q) (sUp s (l++[u]))
 |app {p:List Ky} {t:Nd}:Gr 3 p t→Gr 1 p t
 |small {p:List Ky} {t:Nd}:Gr 0 p t→(∀x r,p=x::r→x.1≠2)→Gr 1 p t
 |head {p:List Ky} {t:Nd}:Gr 1 p t→Gr 2 p t
 |arrow {p q:List Ky} {t u:Nd}:Gr 1 p t→Gr 2 q u→Gr 2 (p++(yArrow::q)) (sFn t u)
theorem Gr.ne {v:Nat} {p:List Ky} {t:Nd} (h:Gr v p t):1≤p.length:=by
 induction h<;>simp_all<;>omega
theorem Gr.up1 {p:List Ky} {t:Nd} (h:Gr 0 p t):Gr 1 p t:=by
 cases h with
 |var s=>exact .small (.var s) (fun x r e=>by cases e;simp)
 |up0 s=>exact .app (.up s)
 |par h=>exact .small (.par h) (fun x r e=>by cases e;simp)
 |pair h k=>exact .small (.pair h k) (fun x r e=>by cases e;simp)
def Sits (T:List Pu.Tok) (k:Nat) (p:List Ky):Prop:=∀i (h:i<p.length),keyT (tk T (k+i))=p[i]
theorem Sits.left {T:List Pu.Tok} {k:Nat} {p q:List Ky} (h:Sits T k (p++q)):Sits T k p:=fun i hi=>by
 have:=h i (by simp;omega)
 rwa [List.getElem_append_left hi] at this
theorem Sits.right {T:List Pu.Tok} {k:Nat} {p q:List Ky} (h:Sits T k (p++q)):Sits T (k+p.length) q:=fun i hi=>by
 have:=h (p.length+i) (by simp;omega)
 rw [List.getElem_append_right (by omega)] at this
 simpa [Nat.add_assoc] using this
theorem Sits.hd {T:List Pu.Tok} {k:Nat} {x:Ky} {q:List Ky} (h:Sits T k (x::q)):keyT (tk T k)=x:=h 0 (by simp)
theorem Sits.tl {T:List Pu.Tok} {k:Nat} {x:Ky} {q:List Ky} (h:Sits T k (x::q)):Sits T (k+1) q:=fun i hi=>by
 have:=h (i+1) (by simp;omega)
 simpa [Nat.add_assoc,Nat.add_comm 1 i] using this
theorem qdz {t:Pu.Tok} {l:List UInt8}:isT t ⟨l.toArray⟩=(keyT t==(5,l)):=by
 rw [isT_mk]
 unfold keyT
 rfl
theorem qc4 (t:Pu.Tok):qah t 1=(keyT t==yOpen||(keyT t).1==3||(keyT t).1==2):=by
 unfold qah
 rw [if_pos rfl,qdz]
 have:(qa0 t==16||qa0 t==2)=((keyT t).1==3||(keyT t).1==2):=by
  unfold qa0 keyT
  simp only
  repeat' split
  all_goals simp_all
 rw [this,Bool.or_assoc]
def Ends1 (T:List Pu.Tok) (k:Nat):Prop:=qah (tk T k) 1=false
def Ends2 (T:List Pu.Tok) (k:Nat):Prop:=qah (tk T k) 1=false∧isT (tk T k) kArrow=false
def Reads (v:Nat) (p:List Ky) (t:Nd):Prop:=match v with
 |0=>∀T k n,Sits T k p→p.length≤n+1→p.length≤T.length+1→∃nd,er nd=t∧qaj T (typM T n) (typM T n) 1 k=.ok (nd,k+p.length)
 |3=>∀T k n f,Sits T k p→p.length≤n+1→p.length≤T.length+1→p.length≤f+1→∃nd f',er nd=t∧f+1≤f'+p.length∧bnd (qaj T (typM T n) (typM T n) 1) (qbe T (qaj T (typM T n) (typM T n) 1) 1 f) k=qbe T (qaj T (typM T n) (typM T n) 1) 1 f' nd (k+p.length)
 |1=>∀T k n,Sits T k p→p.length≤n+1→p.length≤T.length+1→Ends1 T (k+p.length)→∃nd,er nd=t∧qcr T (qaj T (typM T n) (typM T n) 1) 1 k=.ok (nd,k+p.length)
 |_=>∀T k n,Sits T k p→p.length≤n→p.length≤T.length+1→Ends2 T (k+p.length)→∃nd,er nd=t∧typM T n k=.ok (nd,k+p.length)
theorem headF_stopJ {T:List Pu.Tok} {small:M Nd} {f k:Nat} {x:Nd} (h:qah (tk T k) 1=false):qbe T small 1 f x k=.ok (x,k):=by
 cases f with
 |zero=>rfl
 |succ f=>simp [qbe,h]
theorem er_add (x y:Nd) (to:Nat) (s:BA) (l:List Nd) (h:er x=sUp s l):er (x.add y to)=sUp s (l++[er y]):=by
 obtain ⟨k,s',n,L,f,t,a⟩:=x
 simp only [er,sUp,Nd.mk.injEq] at h
 obtain ⟨rfl,rfl,_,rfl,_⟩:=h
 simp [Nd.add,er,erL_app,erL,sUp]
theorem Gr.begins {v:Nat} {p:List Ky} {t:Nd} (h:Gr v p t):∃x r,p=x::r∧(x==yOpen||x.1==3||x.1==2)=true:=by
 induction h with
 |var s=>exact ⟨_,_,rfl,by simp⟩
 |up0 s=>exact ⟨_,_,rfl,by simp⟩
 |par _ _=>exact ⟨_,_,rfl,by simp⟩
 |pair _ _ _ _=>exact ⟨_,_,rfl,by simp⟩
 |up s=>exact ⟨_,_,rfl,by simp⟩
 |arg _ _ i _=>obtain ⟨x,r,rfl,hx⟩:=i;exact ⟨_,_,rfl,hx⟩
 |app _ i=>exact i
 |small _ _ i=>exact i
 |head _ i=>exact i
 |arrow _ _ i _=>obtain ⟨x,r,rfl,hx⟩:=i;exact ⟨_,_,rfl,hx⟩
theorem Gr.first {p:List Ky} {t:Nd} (h:Gr 3 p t):∃(s:List UInt8) (r:List Ky),p=(2,s)::r:=by
 generalize hv:3=v at h
 induction h with
 |up s=>exact ⟨_,_,rfl⟩
 |arg _ _ i _=>obtain ⟨s,r,rfl⟩:=i hv;exact ⟨_,_,rfl⟩
 |_=>cases hv
theorem close_ok {T:List Pu.Tok} {k:Nat} (mk:Nat→Nd) (h:keyT (tk T k)=yClose):qci T mk k=.ok (mk (k+1),k+1):=by
 unfold qci bnd qaf
 rw [qdz,h]
 simp
theorem ends_sign {T:List Pu.Tok} {k:Nat} {l:List UInt8} (h:keyT (tk T k)=(5,l)) (h1:l≠[40]) (h2:l≠[45,62]):Ends2 T k:=by
 constructor
 ·rw [qc4,h];simp [h1]
 ·rw [qdz,h];simp [h2]
theorem Gr.reads {v:Nat} {p:List Ky} {t:Nd} (h:Gr v p t):Reads v p t:=by
 induction h with
 |var s=>
  intro T k n hs _ _
  have h0:=hs.hd
  refine ⟨qbt (tk T k),?_,?_⟩
  ·have e1:(tk T k).kind=3:=congrArg Prod.fst h0
   have e2:(tk T k).text=s:=toList_injA (congrArg Prod.snd h0)
   simp [qbt,qa0,e1,e2,er,erL,sVar]
  ·unfold qaj
   rw [qc4,qdz,h0]
   simp
 |up0 s=>
  intro T k n hs _ _
  have h0:=hs.hd
  refine ⟨qbt (tk T k),?_,?_⟩
  ·have e1:(tk T k).kind=2:=congrArg Prod.fst h0
   have e2:(tk T k).text=s:=toList_injA (congrArg Prod.snd h0)
   simp [qbt,qa0,e1,e2,er,erL,sUp]
  ·unfold qaj
   rw [qc4,qdz,h0]
   simp
 | @par p t _ ih=>
   intro T k n hs hn hT
   have h0:=hs.hd
   have hp:=hs.tl.left
   have hc:=hs.tl.right.hd
   simp at hn hT
   obtain ⟨nd,e,hr⟩:=ih T (k+1) n hp (by omega) (by omega) (ends_sign hc (by simp) (by simp))
   refine ⟨nd,e,?_⟩
   have c1:isT (tk T (k+1+p.length)) kComma=false:=by rw [qdz,hc];rfl
   unfold qaj
   rw [qc4,qdz,h0]
   simp only [qdj,qdc,bnd,hr,c1,close_ok _ hc]
   simp [Nat.add_assoc,Nat.add_comm 1]
 | @pair p q t u _ _ ih ih2=>
   intro T k n hs hn hT
   have h0:=hs.hd
   have hp:=hs.tl.left
   have hm:=hs.tl.right.hd
   have hq:=hs.tl.right.tl.left
   have hc:=hs.tl.right.tl.right.hd
   simp at hn hT
   obtain ⟨nd,e,hr⟩:=ih T (k+1) n hp (by omega) (by omega) (ends_sign hm (by simp) (by simp))
   obtain ⟨nd2,e2,hr2⟩:=ih2 T (k+1+p.length+1) n hq (by omega) (by omega) (ends_sign hc (by simp) (by simp))
   have c1:isT (tk T (k+1+p.length)) kComma=true:=by rw [qdz,hm];rfl
   refine ⟨.mk 6 kNo 0 [nd,nd2] (tk T k).frm (qal T (k+1+p.length+1+q.length+1)) (tk T k).frm,by simp [er,erL,e,e2,sPair],?_⟩
   unfold qaj
   rw [qc4,qdz,h0]
   simp only [qdj,qdc,bnd,hr,c1,hr2,close_ok _ hc]
   simp
   omega
 |up s=>
  intro T k n f hs _ _ _
  have h0:=hs.hd
  refine ⟨qbt (tk T k),f,?_,by simp,?_⟩
  ·have e1:(tk T k).kind=2:=congrArg Prod.fst h0
   have e2:(tk T k).text=s:=toList_injA (congrArg Prod.snd h0)
   simp [qbt,qa0,e1,e2,er,erL,sUp]
  ·unfold bnd qaj
   rw [qc4,qdz,h0]
   simp
 | @arg p q s l u h1 h2 ih ih2=>
   intro T k n f hs hn hT hf
   simp at hn hT hf
   have n2:=h2.ne
   obtain ⟨nd,f',e,hff,hr⟩:=ih T k n f hs.left (by omega) (by omega) (by omega)
   obtain ⟨nd2,e2,hr2⟩:=ih2 T (k+p.length) n hs.right (by omega) (by omega)
   obtain ⟨g,rfl⟩:∃g,f'=g+1:=⟨f'-1,by omega⟩
   obtain ⟨x,r,hx,hb⟩:=h2.begins
   have hs2:=hs.right
   rw [hx] at hs2
   have hb':qah (tk T (k+p.length)) 1=true:=by rw [qc4,hs2.hd];exact hb
   refine ⟨nd.add nd2 (qal T (k+p.length+q.length)),g,?_,by simp;omega,?_⟩
   ·rw [er_add _ _ _ s l e,e2]
   ·rw [hr]
    simp only [qbe,hb',if_true,bnd,hr2]
    simp [Nat.add_assoc]
 | @app p t h1 ih=>
   intro T k n hs hn hT hE
   obtain ⟨nd,f',e,_,hr⟩:=ih T k n T.length hs hn hT hT
   obtain ⟨x,r,hx,hb⟩:=h1.begins
   refine ⟨nd,e,?_⟩
   have h2:(tk T k).kind=2:=by
    obtain ⟨s,r',e3⟩:=h1.first
    rw [e3] at hs
    exact congrArg Prod.fst hs.hd
   unfold qcr
   rw [h2]
   simp only [beq_self_eq_true,if_true]
   rw [hr]
   exact headF_stopJ hE
 | @small p t h1 hne ih=>
   intro T k n hs hn hT hE
   obtain ⟨nd,e,hr⟩:=ih T k n hs hn hT
   obtain ⟨x,r,hx,hb⟩:=h1.begins
   refine ⟨nd,e,?_⟩
   have h2:((tk T k).kind==2)=false:=by
    rw [hx] at hs
    have h3:(tk T k).kind=x.1:=congrArg Prod.fst hs.hd
    rw [h3]
    simpa using hne x r hx
   unfold qcr
   rw [h2]
   exact hr
 | @head p t h1 ih=>
   intro T k n hs hn hT hE
   have n1:=h1.ne
   obtain ⟨m,rfl⟩:∃m,n=m+1:=⟨n-1,by omega⟩
   obtain ⟨nd,e,hr⟩:=ih T k m hs hn hT hE.1
   refine ⟨nd,e,?_⟩
   simp only [typM,bnd,hr,qdo,hE.2]
   simp
 | @arrow p q t u h1 h2 ih ih2=>
   intro T k n hs hn hT hE
   have n1:=h1.ne
   simp at hn hT hE
   obtain ⟨m,rfl⟩:∃m,n=m+1:=⟨n-1,by omega⟩
   have ha:=hs.right.hd
   have hq:=hs.right.tl
   have c0:Ends1 T (k+p.length):=by unfold Ends1;rw [qc4,ha];rfl
   have c1:isT (tk T (k+p.length)) kArrow=true:=by rw [qdz,ha];rfl
   obtain ⟨nd,e,hr⟩:=ih T k m hs.left (by omega) (by omega) c0
   obtain ⟨nd2,e2,hr2⟩:=ih2 T (k+p.length+1) m hq (by omega) (by omega) (by simpa [Nat.add_assoc,Nat.add_comm 1] using hE)
   refine ⟨.mk 17 kNo 0 [nd,nd2] (tk T k).frm (qal T (k+p.length+1+q.length)) (tk T k).frm,by simp [er,erL,e,e2,sFn],?_⟩
   simp only [typM,bnd,hr,qdo,c1,if_true,hr2]
   simp
   omega
end
end Go.Proofs.YtoceemjbcgmojaaGreatDoor

import Derived.Test.YtoceemjbcgmojaaGreatDoorQRa
set_option linter.all false
set_option maxRecDepth 100000
set_option maxHeartbeats 2000000
namespace Go.Proofs.YtoceemjbcgmojaaGreatDoor
section
open Go Go.RowKit
def qar(s:BA)(i:Nat):Pu.Tok:=if Pu.endTo s blankB i<s.size then Pu.tokAt s (Pu.endTo s blankB i)else Pu.endTok s
theorem endTo_stop(s:BA)(p:Nat->Bool):∀n i,s.size-i=n->Pu.endTo s p i<s.size->p (Pu.at_ s (Pu.endTo s p i))=false:=by
 intro n
 induction n with
 |zero=>intro i h hl;rw[Pu.endTo_end (by omega)]at hl;omega|succ n ih=>
  intro i h hl
  cases hp:p (Pu.at_ s i)with
  |true=>rw[Pu.endTo_yes (by omega) hp]at hl⊢;exact ih (i+1) (by omega) hl|false=>rw[Pu.endTo_no (by omega) hp];exact hp
theorem toks_skip(s:BA):∀n i,s.size-i=n->Pu.toks s i=Pu.toks s (Pu.endTo s blankB i):=by
 intro n
 induction n with
 |zero=>intro i h;rw[Pu.endTo_end (by omega)]|succ n ih=>
  intro i h
  cases hp:blankB (Pu.at_ s i)with
  |true=>rw[Pu.endTo_yes (by omega) hp,Pu.toks_blank (by omega) hp];exact ih (i+1) (by omega)|false=>rw[Pu.endTo_no (by omega) hp]
theorem toks_next(s:BA)(i:Nat)(hi:i<=s.size):Pu.toks s i=if(qar s i).kind=7 then[Pu.endTok s]else qar s i::Pu.toks s (qar s i).to:=by
 rw[toks_skip s _ i rfl]
 unfold qar
 by_cases h:Pu.endTo s blankB i<s.size
 .rw[if_pos h,if_neg,Pu.toks_tok h (endTo_stop s blankB _ i rfl h)]
  unfold Pu.tokAt Pu.mkT
  repeat' split
  all_goals simp
 .rw[if_neg h,if_pos (show(Pu.endTok s).kind=7 from rfl),Pu.toks_end (by omega)]
theorem TokPost.ok{t:Pu.Tok}{w w':World}{e:Ending}(h:TokPost t w e w')(hk:t.kind≠6):e=.returned (.agg #[.int .i64 (t.frm:Int),.int .i64 (t.to:Int),.string (qaj t),.string t.text])/\Below w.heap.size w w':=by
 obtain⟨hb,⟨_,he⟩|⟨hn,_⟩⟩:=h
 .exact⟨he,hb⟩
 .exact absurd hn hk
theorem TokPost.bad{t:Pu.Tok}{w w':World}{e:Ending}(h:TokPost t w e w')(hk:t.kind=6):e=.panicked [{v:=.iface 231 (.agg #[.int .i64 2,.int .i64 (t.frm:Int),.int .i64 (t.to:Int)]),recovered:=false}]/\Below w.heap.size w w':=by
 obtain⟨hb,⟨hn,_⟩|⟨_,he⟩⟩:=h
 .exact absurd hk hn
 .exact⟨he,hb⟩
theorem tokAt_dig{s:BA}{i:Nat}(hi:i<s.size)(hd:Pu.digB (Pu.at_ s i)=true):Pu.tokAt s i=(if Pu.endTo s Pu.digB i-i<=9 then Pu.mkT s i 4 (Pu.endTo s Pu.digB i)else Pu.mkT s i 6 (Pu.endTo s Pu.digB i)):=by
 have hd':=hd
 simp[Pu.digB]at hd'
 unfold Pu.tokAt
 rw[if_neg (by simp[Pu.lowB];omega),if_neg (by simp[Pu.upB];omega),if_neg (by intro q;omega),if_pos hd,Pu.endTo_yes hi hd]
theorem tokAt_var{s:BA}{i:Nat}(hd:Pu.at_ s i=39):Pu.tokAt s i=varTok s i:=by
 unfold Pu.tokAt varTok
 rw[hd,if_neg (by decide),if_neg (by decide)]
 by_cases hl:Pu.lowB (Pu.at_ s (i+1))=true
 .rw[if_pos ⟨rfl,hl⟩,if_pos hl]
 .rw[if_neg (fun q=>hl q.2),if_neg hl,if_neg (by decide),if_neg (by intro q;exact absurd q.1 (by decide)),if_neg (by decide)]
theorem tokAt_sgn{s:BA}{i:Nat}(h1:Pu.lowB (Pu.at_ s i)=false)(h2:Pu.upB (Pu.at_ s i)=false)(h3:Pu.digB (Pu.at_ s i)=false)(h4:Pu.at_ s i≠39):Pu.tokAt s i=sgnTok s i:=by
 unfold Pu.tokAt sgnTok
 rw[if_neg (by simp[h1]),if_neg (by simp[h2]),if_neg (fun q=>h4 q.1),if_neg (by simp[h3])]
theorem tokAt_up{s:BA}{i:Nat}(h1:Pu.lowB (Pu.at_ s i)=false)(h2:Pu.upB (Pu.at_ s i)=true):Pu.tokAt s i=Pu.mkT s i 2 (Pu.endTo s Pu.nameB i):=by
 unfold Pu.tokAt
 rw[if_neg (by simp[h1]),if_pos h2]
theorem tokAt_low{s:BA}{i:Nat}(h1:Pu.lowB (Pu.at_ s i)=true):Pu.tokAt s i=(if Pu.wordB (s.extract i (Pu.endTo s Pu.nameB i))=true then Pu.mkT s i 5 (Pu.endTo s Pu.nameB i)else Pu.mkT s i 1 (Pu.endTo s Pu.nameB i)):=by
 unfold Pu.tokAt
 rw[if_pos h1]
section
variable {w:World}
theorem behind_C(h:Laid w)(s:BA)(i:Nat)(hi:i<=s.size)(hs:s.size<=1000):
 Calls Tryz.prog 189 #[.string s,.int .i64 (i:Int)] w (TokPost (qar s i) w):=by
 have B0:=ai (Bx.new w zPt 236)
 have HB:=ai ((Below.refl w.heap.size w).alloc (br _) (.cells zPt 236))
 have H:=ai (h.bel (uh HB))
 clear h
 have E:=fun W=>endBlank_any s i W hs hi
 have hle:=Pu.endTo_le (s:=s) blankB hi
 have hge:=Pu.endTo_ge s blankB i
 unfold qar
 generalize Pu.endTo s blankB i=j at E hle hge⊢
 by_cases hj:j<s.size
 .have he:((j:Int)==(s.size:Int))=false:=by simp;omega
  rw[if_pos hj]
  have hat:Pu.at_ s j=s[j].toNat:=Pu.at_lt hj
  cases h1:Pu.lowB s[j].toNat
  case true=>
   .have a1:Pu.lowB (Pu.at_ s j)=true:=by rw[hat];exact h1
    obtain⟨T,hT⟩:∃T,T=Pu.tokAt s j:=⟨_,rfl⟩
    have C:∀W,Laid W->Calls Tryz.prog 288 #[.string s,.int .i64 (j:Int)] W (TokPost T W):=fun W hW=>by rw[hT,tokAt_low a1];exact(lowOrWord_C hW s j hj hs).mono fun e w' q=>⟨q.2,Or.inl ⟨by split<;>simp[Pu.mkT],q.1⟩⟩
    rw[<-hT]
    clear hT hat
    by_cases hk:T.kind=6
    .go_enter Tryz.func189,Tryz.ntmps189
     go_wp2_with(first|(go_at_call 285;with_reducible refine(E _).mono ?_;rintro e w'⟨rfl,rfl⟩)|(go_at_call 287;refine(qcn _ _).mono ?_;rintro e w'⟨rfl,rfl⟩)|(go_at_call 289;refine(qen _ _).mono ?_;rintro e w'⟨rfl,rfl⟩)|(go_at_call 292;refine(qcw _ _).mono ?_;rintro e w'⟨rfl,rfl⟩)|(go_at_call 288;refine(C _ (uh H)).mono ?_;intro e w1 hp;obtain⟨rfl,hb⟩:=hp.bad hk;have HB1:=ai ((uh HB).trans (hb.mono (by simp)));clear hb))
     exact⟨rfl,uh HB1,Or.inr ⟨hk,rfl⟩⟩
    .go_enter Tryz.func189,Tryz.ntmps189
     go_wp2_with(first|(go_at_call 285;with_reducible refine(E _).mono ?_;rintro e w'⟨rfl,rfl⟩)|(go_at_call 287;refine(qcn _ _).mono ?_;rintro e w'⟨rfl,rfl⟩)|(go_at_call 289;refine(qen _ _).mono ?_;rintro e w'⟨rfl,rfl⟩)|(go_at_call 292;refine(qcw _ _).mono ?_;rintro e w'⟨rfl,rfl⟩)|(go_at_call 288;refine(C _ (uh H)).mono ?_;intro e w1 hp;obtain⟨rfl,hb⟩:=hp.ok hk;have B1:=ai ((uh B0).below hb);have HB1:=ai ((uh HB).trans (hb.mono (by simp)));obtain⟨c1,f1,y1⟩:=uh B1;clear hb))
     have BF:=ai ((uh B1).set4 rfl (.int .i64 (T.frm:Int)) (.int .i64 (T.to:Int)) (.string (qaj T)) (.string T.text))
     obtain⟨cF,fF,zF⟩:=uh BF
     exact bodyPost_ret (v:=qbo T) (by simp[results,Tryz.results189,go_sem,cF,qbo]) rfl ⟨(uh HB1).set4 (br _) _ _ _ _,Or.inl ⟨hk,rfl⟩⟩
  case false=>
  have a1:Pu.lowB (Pu.at_ s j)=false:=by rw[hat];exact h1
  cases h2:Pu.upB s[j].toNat
  case true=>
   have hle2:=Pu.endTo_le (s:=s) Pu.nameB (i:=j) (by omega)
   have hge2:=Pu.endTo_ge s Pu.nameB j
   rw[tokAt_up a1 (by rw[hat];exact h2)]
   clear hat a1
   go_enter Tryz.func189,Tryz.ntmps189
   go_wp2_with(first|(go_at_call 285;with_reducible refine(E _).mono ?_;rintro e w'⟨rfl,rfl⟩)|(go_at_call 285;with_reducible refine(qej s j _ hs (by omega)).mono ?_;rintro e w'⟨rfl,rfl⟩)|(go_at_call 285;with_reducible refine(E _).mono ?_;rintro e w'⟨rfl,rfl⟩)|(go_at_call 287;refine(qcn _ _).mono ?_;rintro e w'⟨rfl,rfl⟩)|(go_at_call 289;refine(qen _ _).mono ?_;rintro e w'⟨rfl,rfl⟩)|(go_at_call 292;refine(qcw _ _).mono ?_;rintro e w'⟨rfl,rfl⟩)|(go_at_call 290;refine(cut_C s j _ _ hge2 hle2 hs).mono ?_;rintro e w1⟨rfl,hb⟩;have B1:=ai ((uh B0).below hb);have HB1:=ai ((uh HB).trans (hb.mono (by simp)));obtain⟨c1,f1,y1⟩:=uh B1;clear hb))
   have BF:=ai ((uh B1).set4 rfl (.int .i64 (j:Int)) (.int .i64 ((Pu.endTo s Pu.nameB j:Nat):Int)) (.string ⟨#[117,112,32,110,97,109,101]⟩) (.string (s.extract j (Pu.endTo s Pu.nameB j))))
   obtain⟨cF,fF,zF⟩:=uh BF
   exact bodyPost_ret (v:=qbo (Pu.mkT s j 2 (Pu.endTo s Pu.nameB j))) (by simp[results,Tryz.results189,go_sem,cF,qbo,Pu.mkT,qaj]) rfl ⟨(uh HB1).set4 (br _) _ _ _ _,Or.inl ⟨by simp[Pu.mkT],rfl⟩⟩
  case false=>
  have a2:Pu.upB (Pu.at_ s j)=false:=by rw[hat];exact h2
  cases h3:Pu.digB s[j].toNat
  case true=>
   .have a3:Pu.digB (Pu.at_ s j)=true:=by rw[hat];exact h3
    obtain⟨T,hT⟩:∃T,T=Pu.tokAt s j:=⟨_,rfl⟩
    have C:∀W,Laid W->Calls Tryz.prog 293 #[.string s,.int .i64 (j:Int)] W (TokPost T W):=fun W hW=>by rw[hT,tokAt_dig hj a3];exact number_C s j hj hs
    rw[<-hT]
    clear hT hat
    by_cases hk:T.kind=6
    .go_enter Tryz.func189,Tryz.ntmps189
     go_wp2_with(first|(go_at_call 285;with_reducible refine(E _).mono ?_;rintro e w'⟨rfl,rfl⟩)|(go_at_call 287;refine(qcn _ _).mono ?_;rintro e w'⟨rfl,rfl⟩)|(go_at_call 289;refine(qen _ _).mono ?_;rintro e w'⟨rfl,rfl⟩)|(go_at_call 292;refine(qcw _ _).mono ?_;rintro e w'⟨rfl,rfl⟩)|(go_at_call 293;refine(C _ (uh H)).mono ?_;intro e w1 hp;obtain⟨rfl,hb⟩:=hp.bad hk;have HB1:=ai ((uh HB).trans (hb.mono (by simp)));clear hb))
     exact⟨rfl,uh HB1,Or.inr ⟨hk,rfl⟩⟩
    .go_enter Tryz.func189,Tryz.ntmps189
     go_wp2_with(first|(go_at_call 285;with_reducible refine(E _).mono ?_;rintro e w'⟨rfl,rfl⟩)|(go_at_call 287;refine(qcn _ _).mono ?_;rintro e w'⟨rfl,rfl⟩)|(go_at_call 289;refine(qen _ _).mono ?_;rintro e w'⟨rfl,rfl⟩)|(go_at_call 292;refine(qcw _ _).mono ?_;rintro e w'⟨rfl,rfl⟩)|(go_at_call 293;refine(C _ (uh H)).mono ?_;intro e w1 hp;obtain⟨rfl,hb⟩:=hp.ok hk;have B1:=ai ((uh B0).below hb);have HB1:=ai ((uh HB).trans (hb.mono (by simp)));obtain⟨c1,f1,y1⟩:=uh B1;clear hb))
     have BF:=ai ((uh B1).set4 rfl (.int .i64 (T.frm:Int)) (.int .i64 (T.to:Int)) (.string (qaj T)) (.string T.text))
     obtain⟨cF,fF,zF⟩:=uh BF
     exact bodyPost_ret (v:=qbo T) (by simp[results,Tryz.results189,go_sem,cF,qbo]) rfl ⟨(uh HB1).set4 (br _) _ _ _ _,Or.inl ⟨hk,rfl⟩⟩
  case false=>
  have a3:Pu.digB (Pu.at_ s j)=false:=by rw[hat];exact h3
  by_cases h4:s[j].toNat=39
  .have a4:Pu.at_ s j=39:=by rw[hat];exact h4
   have e4:((s[j].toNat:Int)==39)=true:=by simp;omega
   obtain⟨T,hT⟩:∃T,T=Pu.tokAt s j:=⟨_,rfl⟩
   have C:∀W,Laid W->Calls Tryz.prog 294 #[.string s,.int .i64 (j:Int)] W (TokPost T W):=fun W hW=>by rw[hT,tokAt_var a4];exact var_C hW s j hj hs
   rw[<-hT]
   clear hT hat
   by_cases hk:T.kind=6
   .go_enter Tryz.func189,Tryz.ntmps189
    go_wp2_with(first|(go_at_call 285;with_reducible refine(E _).mono ?_;rintro e w'⟨rfl,rfl⟩)|(go_at_call 287;refine(qcn _ _).mono ?_;rintro e w'⟨rfl,rfl⟩)|(go_at_call 289;refine(qen _ _).mono ?_;rintro e w'⟨rfl,rfl⟩)|(go_at_call 292;refine(qcw _ _).mono ?_;rintro e w'⟨rfl,rfl⟩)|(go_at_call 294;refine(C _ (uh H)).mono ?_;intro e w1 hp;obtain⟨rfl,hb⟩:=hp.bad hk;have HB1:=ai ((uh HB).trans (hb.mono (by simp)));clear hb))
    exact⟨rfl,uh HB1,Or.inr ⟨hk,rfl⟩⟩
   .go_enter Tryz.func189,Tryz.ntmps189
    go_wp2_with(first|(go_at_call 285;with_reducible refine(E _).mono ?_;rintro e w'⟨rfl,rfl⟩)|(go_at_call 287;refine(qcn _ _).mono ?_;rintro e w'⟨rfl,rfl⟩)|(go_at_call 289;refine(qen _ _).mono ?_;rintro e w'⟨rfl,rfl⟩)|(go_at_call 292;refine(qcw _ _).mono ?_;rintro e w'⟨rfl,rfl⟩)|(go_at_call 294;refine(C _ (uh H)).mono ?_;intro e w1 hp;obtain⟨rfl,hb⟩:=hp.ok hk;have B1:=ai ((uh B0).below hb);have HB1:=ai ((uh HB).trans (hb.mono (by simp)));obtain⟨c1,f1,y1⟩:=uh B1;clear hb))
    have BF:=ai ((uh B1).set4 rfl (.int .i64 (T.frm:Int)) (.int .i64 (T.to:Int)) (.string (qaj T)) (.string T.text))
    obtain⟨cF,fF,zF⟩:=uh BF
    exact bodyPost_ret (v:=qbo T) (by simp[results,Tryz.results189,go_sem,cF,qbo]) rfl ⟨(uh HB1).set4 (br _) _ _ _ _,Or.inl ⟨hk,rfl⟩⟩
  .have a4:Pu.at_ s j≠39:=by rw[hat];exact h4
   have e4:((s[j].toNat:Int)==39)=false:=by simp;omega
   obtain⟨T,hT⟩:∃T,T=Pu.tokAt s j:=⟨_,rfl⟩
   have C:∀W,Laid W->Calls Tryz.prog 295 #[.string s,.int .i64 (j:Int)] W (TokPost T W):=fun W hW=>by rw[hT,tokAt_sgn a1 a2 a3 a4];exact sign_C hW s j hj hs
   rw[<-hT]
   clear hT hat
   by_cases hk:T.kind=6
   .go_enter Tryz.func189,Tryz.ntmps189
    go_wp2_with(first|(go_at_call 285;with_reducible refine(E _).mono ?_;rintro e w'⟨rfl,rfl⟩)|(go_at_call 287;refine(qcn _ _).mono ?_;rintro e w'⟨rfl,rfl⟩)|(go_at_call 289;refine(qen _ _).mono ?_;rintro e w'⟨rfl,rfl⟩)|(go_at_call 292;refine(qcw _ _).mono ?_;rintro e w'⟨rfl,rfl⟩)|(go_at_call 295;refine(C _ (uh H)).mono ?_;intro e w1 hp;obtain⟨rfl,hb⟩:=hp.bad hk;have HB1:=ai ((uh HB).trans (hb.mono (by simp)));clear hb))
    exact⟨rfl,uh HB1,Or.inr ⟨hk,rfl⟩⟩
   .go_enter Tryz.func189,Tryz.ntmps189
    go_wp2_with(first|(go_at_call 285;with_reducible refine(E _).mono ?_;rintro e w'⟨rfl,rfl⟩)|(go_at_call 287;refine(qcn _ _).mono ?_;rintro e w'⟨rfl,rfl⟩)|(go_at_call 289;refine(qen _ _).mono ?_;rintro e w'⟨rfl,rfl⟩)|(go_at_call 292;refine(qcw _ _).mono ?_;rintro e w'⟨rfl,rfl⟩)|(go_at_call 295;refine(C _ (uh H)).mono ?_;intro e w1 hp;obtain⟨rfl,hb⟩:=hp.ok hk;have B1:=ai ((uh B0).below hb);have HB1:=ai ((uh HB).trans (hb.mono (by simp)));obtain⟨c1,f1,y1⟩:=uh B1;clear hb))
    have BF:=ai ((uh B1).set4 rfl (.int .i64 (T.frm:Int)) (.int .i64 (T.to:Int)) (.string (qaj T)) (.string T.text))
    obtain⟨cF,fF,zF⟩:=uh BF
    exact bodyPost_ret (v:=qbo T) (by simp[results,Tryz.results189,go_sem,cF,qbo]) rfl ⟨(uh HB1).set4 (br _) _ _ _ _,Or.inl ⟨hk,rfl⟩⟩
 .have he:((j:Int)==(s.size:Int))=true:=by simp;omega
  have hjs:j=s.size:=by omega
  rw[if_neg hj]
  obtain⟨c1,f1,y1⟩:=uh B0
  go_enter Tryz.func189,Tryz.ntmps189
  go_wp2_with(first|(go_at_call 285;with_reducible refine(E _).mono ?_;rintro e w'⟨rfl,rfl⟩)|(go_at_call 287;refine(qcn _ _).mono ?_;rintro e w'⟨rfl,rfl⟩)|(go_at_call 289;refine(qen _ _).mono ?_;rintro e w'⟨rfl,rfl⟩)|(go_at_call 292;refine(qcw _ _).mono ?_;rintro e w'⟨rfl,rfl⟩))
  have BF:=ai (Bx.new w #[.int .i64 (j:Int),.int .i64 (j:Int),.string ⟨#[116,104,101,32,101,110,100]⟩,.string ⟨#[]⟩] 236)
  obtain⟨cF,fF,zF⟩:=uh BF
  subst hjs
  exact bodyPost_ret (v:=qbo (Pu.endTok s)) (by simp[results,Tryz.results189,go_sem,cF,qbo,Pu.endTok,qaj]) rfl ⟨(Below.refl w.heap.size w).alloc (br _) _,Or.inl ⟨by simp[Pu.endTok],rfl⟩⟩
end
end
end Go.Proofs.YtoceemjbcgmojaaGreatDoor

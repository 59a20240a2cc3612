import Derived.Deep.LoopGhost
import Derived.Test.YtoceemjbcgmojaaGreatDoorQKit
set_option linter.all false
set_option maxRecDepth 100000
set_option maxHeartbeats 1600000
namespace Go.Proofs.YtoceemjbcgmojaaGreatDoor
section
open Go Go.RowKit
theorem token_dig(s:BA)(i:Nat)(w:World)(hs:s.size<=1000)(hi:i<s.size)(hl:Pu.lowB s[i].toNat=false)(hu:Pu.upB s[i].toNat=false)(hd:Pu.digB s[i].toNat=true)(h39:s[i].toNat≠39):
 Calls Tryz.prog 114 #[.string s,.int .i64 (i:Int)] w fun e w'=>e=.returned (tokV (Pu.tokAt s i))/\Below w.heap.size w w':=by
 have e1:((s[i].toNat:Int)==39)=false:=by simp;omega
 have hT:Pu.tokAt s i=if Pu.endTo s Pu.digB (i+1)-i<=9 then Pu.mkT s i 4 (Pu.endTo s Pu.digB (i+1))else Pu.mkT s i 6 (Pu.endTo s Pu.digB (i+1)):=(by unfold Pu.tokAt;rw[Pu.at_lt hi,if_neg (by simp[hl]),if_neg (by simp[hu]),if_neg (by simp[h39]),if_pos hd])
 have HT:=ai hT
 clear hT h39
 go_enter Tryz.func114,Tryz.ntmps114
 go_wp2_with(first|(go_at_call 198;refine(qbd _ _).mono ?_;rintro e w'⟨rfl,rfl⟩)|(go_at_call 200;refine(qbp _ _).mono ?_;rintro e w'⟨rfl,rfl⟩)|(go_at_call 201;refine(qau _ _).mono ?_;rintro e w'⟨rfl,rfl⟩))
 go_loopg[] (s.size-(i+1)) (fun g wr=>∃j:Nat,i+1<=j/\j<=s.size/\g=s.size-j/\Hid (Pu.endTo s Pu.digB (i+1)=Pu.endTo s Pu.digB j)/\wr=(w.alloc (.cells #[.int .i64 0,.string ⟨#[]⟩,.int .i64 0,.int .i64 0] 58)).alloc (.cells #[.int .i64 6,.string ⟨#[]⟩,.int .i64 (i:Int),.int .i64 (j:Int)] 58))
 case atStart=>exact⟨i+1,by omega,by omega,rfl,ai rfl,by go_num⟩
 case round=>
  obtain⟨j,hj1,hj2,rfl,he,rfl⟩:=hrel
  by_cases hlt:j<s.size
  .rcases hb:Pu.digB s[j].toNat with _|_
   .have hm:=ai (he.out.trans (Pu.endTo_no hlt (by rw[Pu.at_lt hlt];exact hb)))
    clear he
    rw[uh hm]at HT
    by_cases h9:(j:Int)-(i:Int)<=9
    .have H2:=ai ((uh HT).trans (if_pos (by omega)))
     clear HT
     go_wp2_with(first|(go_at_call 201;refine(qau _ _).mono ?_;rintro e w'⟨rfl,rfl⟩))
     refine bodyPost_ret (v:=tokV (Pu.mkT s i 4 j)) (by simp[results,Tryz.results114,go_sem,tokV,Pu.mkT];try rfl) rfl ⟨by rw[uh H2],?_⟩
     exact(bw _).alloc (by simp) _
    .have H2:=ai ((uh HT).trans (if_neg (by omega)))
     clear HT
     go_wp2_with(first|(go_at_call 201;refine(qau _ _).mono ?_;rintro e w'⟨rfl,rfl⟩))
     refine bodyPost_ret (v:=tokV (Pu.mkT s i 6 j)) (by simp[results,Tryz.results114,go_sem,tokV,Pu.mkT];try rfl) rfl ⟨by rw[uh H2],?_⟩
     exact(bw _).alloc (by simp) _
   .have hm:=ai (he.out.trans (Pu.endTo_yes hlt (by rw[Pu.at_lt hlt];exact hb)))
    clear he
    go_wp2_with(first|(go_at_call 201;refine(qau _ _).mono ?_;rintro e w'⟨rfl,rfl⟩))
    go_roundg(s.size-(j+1))
    case rel=>exact⟨j+1,by omega,by omega,rfl,hm,by go_num⟩
    case measure=>omega
  .have hm:=ai (he.out.trans (Pu.endTo_end (by omega)))
   clear he
   rw[uh hm]at HT
   by_cases h9:(j:Int)-(i:Int)<=9
   .have H2:=ai ((uh HT).trans (if_pos (by omega)))
    clear HT
    go_wp2_with(first|(go_at_call 201;refine(qau _ _).mono ?_;rintro e w'⟨rfl,rfl⟩))
    refine bodyPost_ret (v:=tokV (Pu.mkT s i 4 j)) (by simp[results,Tryz.results114,go_sem,tokV,Pu.mkT];try rfl) rfl ⟨by rw[uh H2],?_⟩
    exact(bw _).alloc (by simp) _
   .have H2:=ai ((uh HT).trans (if_neg (by omega)))
    clear HT
    go_wp2_with(first|(go_at_call 201;refine(qau _ _).mono ?_;rintro e w'⟨rfl,rfl⟩))
    refine bodyPost_ret (v:=tokV (Pu.mkT s i 6 j)) (by simp[results,Tryz.results114,go_sem,tokV,Pu.mkT];try rfl) rfl ⟨by rw[uh H2],?_⟩
    exact(bw _).alloc (by simp) _
end
section
open Go Go.RowKit
theorem sign_yes{c:Nat}(hg:Pu.signB c=true):c=40\/c=41\/c=44\/c=59\/c=58\/c=61\/c=124\/c=43\/c=45\/c=42\/c=60\/c=95:=by
 unfold Pu.signB at hg
 simp at hg
 omega
theorem token_any(s:BA)(i:Nat)(w:World)(hs:s.size<=1000)(hi:i<s.size):
 Calls Tryz.prog 114 #[.string s,.int .i64 (i:Int)] w fun e w'=>e=.returned (tokV (Pu.tokAt s i))/\Below w.heap.size w w':=by
 rcases hl:Pu.lowB s[i].toNat with _|_
 case true=>exact token_low s i w hs hi hl
 rcases hu:Pu.upB s[i].toNat with _|_
 case true=>exact token_up s i w hs hi hl hu
 rcases hd:Pu.digB s[i].toNat with _|_
 case true=>
  exact token_dig s i w hs hi hl hu hd (by intro e;rw[e]at hd;exact absurd hd (by decide))
 by_cases hq:s[i].toNat=39
 .by_cases hj:i+1<s.size
  .rcases hn:Pu.lowB s[i+1].toNat with _|_
   .exact token_quote_no s i w hs hi hl hu hd hq hj hn
   .exact token_var s i w hs hi hl hu hq hj hn
  .exact token_quote_end s i w hs hi hl hu hd hq (by omega)
 rcases hg:Pu.signB s[i].toNat with _|_
 .exact token_bad s i w hs hi hl hu hd hq hg
 .rcases sign_yes hg with h|h|h|h|h|h|h|h|h|h|h|h
  .exact token_s40 s i w hs hi hl hu hd h
  .exact token_s41 s i w hs hi hl hu hd h
  .exact token_s44 s i w hs hi hl hu hd h
  .exact token_s59 s i w hs hi hl hu hd h
  .exact token_s58 s i w hs hi hl hu hd h
  .exact token_s61 s i w hs hi hl hu hd h
  .exact token_s124 s i w hs hi hl hu hd h
  .exact token_s43 s i w hs hi hl hu hd h
  .by_cases hj:i+1<s.size
   .by_cases hn:s[i+1].toNat=62
    .exact token_arrow s i w hs hi hl hu hd h hj hn
    .exact token_minus s i w hs hi hl hu hd h hj hn
   .exact token_minus_end s i w hs hi hl hu hd h (by omega)
  .exact token_s42 s i w hs hi hl hu hd h
  .exact token_s60 s i w hs hi hl hu hd h
  .exact token_s95 s i w hs hi hl hu hd h
end
section
open Go Go.RowKit
def qbu(l:List Pu.Tok):List Value:=l.flatMap fun t=>[.int .i64 (t.kind:Int),.string t.text,.int .i64 (t.frm:Int),.int .i64 (t.to:Int)]
theorem tokInfo:(Tryz.prog.info? 58).map (fun i=>(i.zero,i.size,i.bytes))=some (some (.agg #[.int .i64 0,.string ⟨#[]⟩,.int .i64 0,.int .i64 0]),4,40):=by kernel_rfl
theorem toksUnder:Tryz.prog.underlying 59=some (.slice 58):=by kernel_rfl
theorem tokens_any(s:BA)(w:World)(hs:s.size<=1000):
 Calls Tryz.prog 54 #[.string s] w fun e w'=>∃v,e=.returned v/\w'.ownsRow w.heap.size 58 4 v (Pu.toks s 0).length (qbu (Pu.toks s 0))/\Below w.heap.size w w':=by
 obtain⟨i0,hi,hz0,hz1,hz2⟩:=info_parts tokInfo
 go_enter Tryz.func54,Tryz.ntmps54
 go_wp2_with fail
 go_loopg[3,4] s.size (fun g v c wr=>∃(i:Nat)(l:List Pu.Tok),i<=s.size/\g=s.size-i/\c=.int .i64 (i:Int)/\l.length<=i/\Hid (Pu.toks s 0=l++Pu.toks s i)/\wr.ownsRow w.heap.size 58 4 v l.length (qbu l)/\Below w.heap.size w wr)
 case atStart=>exact⟨0,[],by omega,rfl,rfl,by simp,rfl,⟨rfl,Or.inl ⟨rfl,rfl⟩⟩,Below.refl _ _⟩
 case round=>
  obtain⟨i,l,hil,rfl,rfl,hll,hp,hown,hB⟩:=hrel
  by_cases hlt:i<s.size
  .rcases hb:Pu.blankB (Pu.at_ s i)with _|_
   .have hp2:=ai ((uh hp).trans (by rw[Pu.toks_tok hlt hb]))
    have ht:=Pu.tokAt_to s i hlt
    clear hp
    rw[Pu.at_lt hlt]at hb
    have h1:((s[i].toNat:Int)==32)=false:=by simp[Pu.blankB]at hb;simp;omega
    have h2:((s[i].toNat:Int)==10)=false:=by simp[Pu.blankB]at hb;simp;omega
    clear hb
    go_wp2_with(first|(go_at_call 114;refine(token_any s i _ hs hlt).mono ?_;rintro e w1⟨rfl,hb1⟩;unfold tokV)|(at_builtin;go_must(refine wpList_append_own _ rfl (.tmp 25) (.tmp 27) 59 rfl w.heap.size 58 i0 _ 4 40 toksUnder hi hz0 hz1 hz2 rfl (by decide) _ _ _ rfl (((qcj hown hb1).alloc _).alloc _) ⟨w1.heap.size+1,0,none⟩ 1 1 [.int .i64 ((Pu.tokAt s i).kind:Int),.string (Pu.tokAt s i).text,.int .i64 ((Pu.tokAt s i).frm:Int),.int .i64 ((Pu.tokAt s i).to:Int)] rfl rfl (qbw _ _ _ _ (by simp)) (by intro u hu;simp at hu;rcases hu with rfl|rfl|rfl|rfl<;>rfl) (by unfold maxLen;omega) (by omega) (by have:=hB.size;have:=hb1.size;simp<;>omega) ?_;intro v' w3 hown' hg3 hnil3;have c3:=grown_cell hg3 w1.heap.size 3 (by simp<;>omega) (fun j hj=>by have:=(qa3 hown j hj).2;have:=hb1.size;omega);simp at c3)))
    have hB3:Below w.heap.size w w3:=(((hB.trans (hb1.mono hB.size)).alloc (by have:=hB.size;have:=hb1.size;omega) _).alloc (by have:=hB.size;have:=hb1.size;simp<;>omega) _).grown hg3 (by have:=hB.size;have:=hb1.size;simp<;>omega) (fun k hk=>(qa3 hown k hk).1)
    go_roundg(s.size-(Pu.tokAt s i).to)
    case rel=>exact⟨(Pu.tokAt s i).to,l++[Pu.tokAt s i],by omega,rfl,rfl,by simp;omega,ai (by rw[uh hp2];simp),by simpa[qbu]using hown',hB3⟩
    case measure=>omega
   .have hp2:=ai ((uh hp).trans (by rw[Pu.toks_blank hlt hb]))
    clear hp
    rw[Pu.at_lt hlt]at hb
    have hb':((s[i].toNat:Int)==32)=true\/(((s[i].toNat:Int)==32)=false/\((s[i].toNat:Int)==10)=true):=by
     simp[Pu.blankB]at hb;simp;omega
    clear hb
    rcases hb' with h1|⟨h1,h2⟩
    all_goals
     go_wp2_with fail
     go_roundg(s.size-(i+1))
     case rel=>exact⟨i+1,l,by omega,rfl,by go_num,by omega,hp2,hown,hB⟩
     case measure=>omega
  .have hi0:i=s.size:=by omega
   have hp2:=ai ((uh hp).trans (by rw[Pu.toks_end (by omega)]))
   clear hp
   go_wp2_with(at_builtin;refine wpList_append_own _ rfl (.tmp 31) (.tmp 37) 59 rfl w.heap.size 58 i0 _ 4 40 toksUnder hi hz0 hz1 hz2 rfl (by decide) _ _ _ rfl (hown.alloc _) ⟨wr.heap.size,0,none⟩ 1 1 [.int .i64 7,.string ⟨#[]⟩,.int .i64 (s.size:Int),.int .i64 (s.size:Int)] rfl rfl (qbw _ _ _ _ (by simp)) (by intro u hu;simp at hu;rcases hu with rfl|rfl|rfl<;>rfl) (by unfold maxLen;omega) (by omega) (by have:=hB.size;simp<;>omega) ?_;intro v' w3 hown' hg3 hnil3)
   have hB3:Below w.heap.size w w3:=(hB.alloc hB.size _).grown hg3 (by have:=hB.size;simp<;>omega) (fun k hk=>(qa3 hown k hk).1)
   go_ret
   exact⟨_,rfl,by rw[uh hp2];simpa[qbu,Pu.endTok]using hown',hB3⟩
end
section
open Go Go.RowKit
def blankB(c:Nat):Bool:=c==32||c==10
theorem blankB_iff(c:Nat):(((c:Int)==32)||((c:Int)==10))=blankB c:=by
 rw[Bool.eq_iff_iff];simp[blankB];omega
theorem qcn(c:Nat)(w:World):Calls Tryz.prog 287 #[.int .u8 (c:Int)] w fun e w'=>e=.returned (.bool (Pu.lowB c))/\w'=w:=by
 go_enter Tryz.func287,Tryz.ntmps287
 go_wp2
 all_goals(go_ret;exact⟨qbb (by rw[lowB_iff];symm;simp;try omega),rfl⟩)
theorem qen(c:Nat)(w:World):Calls Tryz.prog 289 #[.int .u8 (c:Int)] w fun e w'=>e=.returned (.bool (Pu.upB c))/\w'=w:=by
 go_enter Tryz.func289,Tryz.ntmps289
 go_wp2
 all_goals(go_ret;exact⟨qbb (by rw[upB_iff];symm;simp;try omega),rfl⟩)
theorem qcw(c:Nat)(w:World):Calls Tryz.prog 292 #[.int .u8 (c:Int)] w fun e w'=>e=.returned (.bool (Pu.digB c))/\w'=w:=by
 go_enter Tryz.func292,Tryz.ntmps292
 go_wp2
 all_goals(go_ret;exact⟨qbb (by rw[digB_iff];symm;simp;try omega),rfl⟩)
theorem pBlank_any(c:Nat)(w:World):Calls Tryz.prog 286 #[.int .u8 (c:Int)] w fun e w'=>e=.returned (.bool (blankB c))/\w'=w:=by
 go_enter Tryz.func286,Tryz.ntmps286
 go_wp2
 all_goals(go_ret;exact⟨qbb (by rw[<-blankB_iff];try simp[*]),rfl⟩)
theorem pName_any(c:Nat)(w:World):Calls Tryz.prog 291 #[.int .u8 (c:Int)] w fun e w'=>e=.returned (.bool (Pu.nameB c))/\w'=w:=by
 have hn:Pu.nameB c=(Pu.lowB c||Pu.upB c||Pu.digB c):=rfl
 have hcase:(Pu.lowB c=true\/(Pu.lowB c=false/\Pu.upB c=true))\/(Pu.lowB c=false/\Pu.upB c=false):=by
  cases Pu.lowB c<;>cases Pu.upB c<;>simp
 rcases hcase with(h1|⟨h1,h2⟩)|⟨h1,h2⟩
 all_goals
  simp only[*,Bool.or_true,Bool.true_or,Bool.false_or]at hn
  have hn:=ai hn
  go_enter Tryz.func291,Tryz.ntmps291
  go_wp2_with(first|(go_at_call 287;refine(qcn _ _).mono ?_;rintro e w'⟨rfl,rfl⟩)|(go_at_call 289;refine(qen _ _).mono ?_;rintro e w'⟨rfl,rfl⟩)|(go_at_call 292;refine(qcw _ _).mono ?_;rintro e w'⟨rfl,rfl⟩))
  go_ret
  exact⟨qbb (uh hn).symm,rfl⟩
theorem endBlank_any(s:BA)(i:Nat)(w:World)(hs:s.size<=1000)(hi:i<=s.size):
 Calls Tryz.prog 285 #[.string s,.int .i64 (i:Int),.func (.func 286) #[] #[]] w fun e w'=>e=.returned (.int .i64 (Pu.endTo s blankB i))/\w'=w:=by
 go_enter Tryz.func285,Tryz.ntmps285
 go_wp2_with fail
 go_loop[7] (fun v=>∃j:Nat,j<=s.size/\v=.int .i64 (j:Int)/\Hid (Pu.endTo s blankB i=Pu.endTo s blankB j)) (fun v=>s.size-(intOf v).toNat)
 case atStart=>exact⟨i,hi,rfl,rfl⟩
 case round=>
  obtain⟨j,hj,rfl,he⟩:=hrel
  by_cases hlt:j<s.size
  .have hn:Pu.at_ s j=s[j].toNat:=Pu.at_lt hlt
   cases hp:blankB (Pu.at_ s j)with
   |true=>
    have hm:=qf1 hlt he hp
    rw[hn]at hp
    clear he hn
    go_wp2_with(go_at_call 286;refine(pBlank_any _ _).mono ?_;rintro e w'⟨rfl,rfl⟩)
    go_round
    case rel=>exact⟨j+1,by omega,by go_num,by simpa using hm⟩
    case measure=>simp[intOf];omega
   |false=>
    have hm:=qf1 hlt he hp
    rw[hn]at hp
    clear he hn
    go_wp2_with(go_at_call 286;refine(pBlank_any _ _).mono ?_;rintro e w'⟨rfl,rfl⟩)
    go_ret
    exact⟨retInt (congrArg Nat.cast (hm.out.symm)),rfl⟩
  .go_wp2_with fail
   go_ret
   exact⟨retInt (by rw[he.out,Pu.endTo_end (by omega)]),rfl⟩
theorem qej(s:BA)(i:Nat)(w:World)(hs:s.size<=1000)(hi:i<=s.size):
 Calls Tryz.prog 285 #[.string s,.int .i64 (i:Int),.func (.func 291) #[] #[]] w fun e w'=>e=.returned (.int .i64 (Pu.endTo s Pu.nameB i))/\w'=w:=by
 go_enter Tryz.func285,Tryz.ntmps285
 go_wp2_with fail
 go_loop[7] (fun v=>∃j:Nat,j<=s.size/\v=.int .i64 (j:Int)/\Hid (Pu.endTo s Pu.nameB i=Pu.endTo s Pu.nameB j)) (fun v=>s.size-(intOf v).toNat)
 case atStart=>exact⟨i,hi,rfl,rfl⟩
 case round=>
  obtain⟨j,hj,rfl,he⟩:=hrel
  by_cases hlt:j<s.size
  .have hn:Pu.at_ s j=s[j].toNat:=Pu.at_lt hlt
   cases hp:Pu.nameB (Pu.at_ s j)with
   |true=>
    have hm:=qf1 hlt he hp
    rw[hn]at hp
    clear he hn
    go_wp2_with(go_at_call 291;refine(pName_any _ _).mono ?_;rintro e w'⟨rfl,rfl⟩)
    go_round
    case rel=>exact⟨j+1,by omega,by go_num,by simpa using hm⟩
    case measure=>simp[intOf];omega
   |false=>
    have hm:=qf1 hlt he hp
    rw[hn]at hp
    clear he hn
    go_wp2_with(go_at_call 291;refine(pName_any _ _).mono ?_;rintro e w'⟨rfl,rfl⟩)
    go_ret
    exact⟨retInt (congrArg Nat.cast (hm.out.symm)),rfl⟩
  .go_wp2_with fail
   go_ret
   exact⟨retInt (by rw[he.out,Pu.endTo_end (by omega)]),rfl⟩
theorem endDig_any(s:BA)(i:Nat)(w:World)(hs:s.size<=1000)(hi:i<=s.size):
 Calls Tryz.prog 285 #[.string s,.int .i64 (i:Int),.func (.func 292) #[] #[]] w fun e w'=>e=.returned (.int .i64 (Pu.endTo s Pu.digB i))/\w'=w:=by
 go_enter Tryz.func285,Tryz.ntmps285
 go_wp2_with fail
 go_loop[7] (fun v=>∃j:Nat,j<=s.size/\v=.int .i64 (j:Int)/\Hid (Pu.endTo s Pu.digB i=Pu.endTo s Pu.digB j)) (fun v=>s.size-(intOf v).toNat)
 case atStart=>exact⟨i,hi,rfl,rfl⟩
 case round=>
  obtain⟨j,hj,rfl,he⟩:=hrel
  by_cases hlt:j<s.size
  .have hn:Pu.at_ s j=s[j].toNat:=Pu.at_lt hlt
   cases hp:Pu.digB (Pu.at_ s j)with
   |true=>
    have hm:=qf1 hlt he hp
    rw[hn]at hp
    clear he hn
    go_wp2_with(go_at_call 292;refine(qcw _ _).mono ?_;rintro e w'⟨rfl,rfl⟩)
    go_round
    case rel=>exact⟨j+1,by omega,by go_num,by simpa using hm⟩
    case measure=>simp[intOf];omega
   |false=>
    have hm:=qf1 hlt he hp
    rw[hn]at hp
    clear he hn
    go_wp2_with(go_at_call 292;refine(qcw _ _).mono ?_;rintro e w'⟨rfl,rfl⟩)
    go_ret
    exact⟨retInt (congrArg Nat.cast (hm.out.symm)),rfl⟩
  .go_wp2_with fail
   go_ret
   exact⟨retInt (by rw[he.out,Pu.endTo_end (by omega)]),rfl⟩
end
section
open Go Go.RowKit
theorem opsUnder:Tryz.prog.underlying 22=some (.slice 30):=by kernel_rfl
theorem opCells:Tryz.prog.cellsOf 30=4:=by kernel_rfl
def Scr(w:World)(p:Option Addr)(len:Nat)(K N:Nat->Int)(A B:Nat->BA):Prop:=
 ∀i,i<len->∃g o,p=some ⟨g,o,none⟩/\g<w.heap.size/\w.cell? ⟨g,o+i*4,none⟩=some (.int .i64 (K i))/\w.cell? ⟨g,o+i*4+1,none⟩=some (.string (A i))/\w.cell? ⟨g,o+i*4+2,none⟩=some (.string (B i))/\w.cell? ⟨g,o+i*4+3,none⟩=some (.int .i64 (N i))
def opV(k n:Int)(a b:BA):Value:=.agg #[.int .i64 k,.string a,.string b,.int .i64 n]
section
variable {w:World}
theorem upTo_C{p:Option Addr}{len cap:Nat}{K N:Nat->Int}{A B:Nat->BA}{lo hi:Int}(hlen:(len:Int)<=9223372036854775807)(hS:Scr w p len K N A B)(hP:∀i W bv,i<len->Below w.heap.size w W->lo<=K i->K i<=hi->Calls Tryz.prog 9 #[bv,opV (K i) (N i) (A i) (B i)] W fun e w'=>e=.returned (.bool true)/\Below W.heap.size W w'):
 Calls Tryz.prog 8 #[.slice p len cap,.int .i64 lo,.int .i64 hi] w fun e w'=>e=.returned (.int .i64 (-1))/\Below w.heap.size w w':=by
 have HS:=ai hS
 have HP:=ai hP
 clear hS hP
 go_enter Tryz.func8,Tryz.ntmps8
 go_wp2_with fail
 go_loopg[8] len (fun gk v wr=>∃j:Nat,Hid (gk=len-j)/\j<=len/\v=.int .i64 (j:Int)/\Below w.heap.size w wr)
 case atStart=>exact⟨0,ai rfl,Nat.zero_le _,rfl,bw _⟩
 case round=>
  obtain⟨j,hgk,hj,rfl,HB⟩:=hrel
  have HB:=ai HB
  by_cases hlt:j<len
  .have hd:(j:Int)<(len:Int):=by omega
   obtain⟨g,o,rfl,hg,k0,k1,k2,k3⟩:=uh HS j hlt
   have d0:=(World.cell?_of_block (a:=⟨g,o+j*4,none⟩) (w:=w) ((uh HB).block g hg)).trans k0
   have d1:=(World.cell?_of_block (a:=⟨g,o+j*4+1,none⟩) (w:=w) ((uh HB).block g hg)).trans k1
   have d2:=(World.cell?_of_block (a:=⟨g,o+j*4+2,none⟩) (w:=w) ((uh HB).block g hg)).trans k2
   have d3:=(World.cell?_of_block (a:=⟨g,o+j*4+3,none⟩) (w:=w) ((uh HB).block g hg)).trans k3
   clear k0 k1 k2 k3
   have hb1:=(uh HB).alloc (o:=.cells #[.int .i64 (K j),.string (A j),.string (B j),.int .i64 (N j)] 30) (uh HB).size
   by_cases hl:lo<=K j
   .by_cases hh:K j<=hi
    .have HC:=ai (uh HP j _ (.pointer (some ⟨w.heap.size,0,none⟩)) hlt hb1 hl hh)
     unfold opV at HC
     go_wp2_with fail
     refine(uh HC).mono ?_
     rintro e w2⟨rfl,hb2⟩
     have HB2:=hb1.trans (hb2.mono hb1.size)
     clear d0 d1 d2 d3 HC
     go_wp2_with fail
     go_roundg(len-(j+1))
     case measure=>rw[uh hgk];omega
     case rel=>exact⟨j+1,ai rfl,by omega,by go_num,HB2⟩
    .have hh':decide (K j<=hi)=false:=by simp;omega
     go_wp2_with fail
     go_roundg(len-(j+1))
     case measure=>rw[uh hgk];omega
     case rel=>exact⟨j+1,ai rfl,by omega,by go_num,hb1⟩
   .have hl':decide (lo<=K j)=false:=by simp;omega
    go_wp2_with fail
    go_roundg(len-(j+1))
    case measure=>rw[uh hgk];omega
    case rel=>exact⟨j+1,ai rfl,by omega,by go_num,hb1⟩
  .have hd:decide ((j:Int)<(len:Int))=false:=by simp;omega
   go_wp2_with fail
   go_ret
   exact⟨rfl,uh HB⟩
end
end
end Go.Proofs.YtoceemjbcgmojaaGreatDoor

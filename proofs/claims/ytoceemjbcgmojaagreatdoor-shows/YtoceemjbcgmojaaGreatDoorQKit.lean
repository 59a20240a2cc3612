import Derived.Test.YtoceemjbcgmojaaGreatDoorProg
import Derived.WalkLawsBesides
import Derived.WalkSpells
import Derived.Test.YtoceemjbcgmojaaGreatDoorQPure
set_option linter.all false
set_option maxRecDepth 100000
set_option maxHeartbeats 1000000
namespace Go.Proofs.YtoceemjbcgmojaaGreatDoor
section
open Go Go.RowKit
theorem cells_new(w:World)(C:List Value)(t:TypeId):∀j u,C[j]? =some u->(w.alloc (.cells C.toArray t)).cell? ((⟨w.heap.size,0,none⟩:Addr).add j)=some u:=by
 intro j u hj
 unfold Addr.add
 split
 .next h=>subst h;simpa using hj
 .simpa using hj
theorem qcj{w w':World}{base:Nat}{e:TypeId}{size:Nat}{v:Value}{n:Nat}{xs:List Value}(h:w.ownsRow base e size v n xs)(hb:Below w.heap.size w w'):w'.ownsRow base e size v n xs:=by
 obtain⟨h1,h2⟩:=h
 refine⟨h1,?_⟩
 rcases h2 with h2|⟨g,cap,cur,hv,hg,hh,r⟩
 .exact Or.inl h2
 .refine Or.inr ⟨g,cap,cur,hv,hg,?_,r⟩
  have hlt:g<w.heap.size:=by
   have:=Array.getElem?_eq_some_iff.1 hh
   exact this.1
  rw[hb.block g hlt,hh]
end
section
open Go Go.RowKit
theorem lowB_iff(c:Nat):Pu.lowB c=decide (97<=(c:Int)/\(c:Int)<=122):=by
 rw[Bool.eq_iff_iff];simp[Pu.lowB];omega
theorem upB_iff(c:Nat):Pu.upB c=decide (65<=(c:Int)/\(c:Int)<=90):=by
 rw[Bool.eq_iff_iff];simp[Pu.upB];omega
theorem digB_iff(c:Nat):Pu.digB c=decide (48<=(c:Int)/\(c:Int)<=57):=by
 rw[Bool.eq_iff_iff];simp[Pu.digB];omega
theorem ai{p:Prop}(h:p):Hid p:=h
theorem uh{p:Prop}(h:Hid p):p:=h
theorem bw{w:World}(o:Obj):Below w.heap.size w (w.alloc o):=(Below.refl _ _).alloc (Nat.le_refl _) o
theorem br(n:Nat):n<=n:=Nat.le_refl n
abbrev BA:=ByteArray
theorem lqa{α:Type}{a b:List α}:(a++b).length=a.length+b.length:=List.length_append
theorem lqc{α:Type}{a:α}{b:List α}:(a::b).length=b.length+1:=List.length_cons
theorem lqn{α:Type}:([]:List α).length=0:=List.length_nil
theorem qbb{a b:Bool}(h:a=b):Ending.returned (.bool a)=.returned (.bool b):=congrArg (fun x=>Ending.returned (.bool x)) h
theorem retInt{k:IntKind}{a b:Int}(h:a=b):Ending.returned (.int k a)=.returned (.int k b):=congrArg (fun x=>Ending.returned (.int k x)) h
theorem qbd(c:Nat)(w:World):
 Calls Tryz.prog 198 #[.int .u8 (c:Int)] w fun e w'=>e=.returned (.bool (Pu.lowB c))/\w'=w:=by
 go_enter Tryz.func198,Tryz.ntmps198
 go_wp2
 all_goals(go_ret;exact⟨qbb (by rw[lowB_iff];symm;simp;try omega),rfl⟩)
theorem qbp(c:Nat)(w:World):
 Calls Tryz.prog 200 #[.int .u8 (c:Int)] w fun e w'=>e=.returned (.bool (Pu.upB c))/\w'=w:=by
 go_enter Tryz.func200,Tryz.ntmps200
 go_wp2
 all_goals(go_ret;exact⟨qbb (by rw[upB_iff];symm;simp;try omega),rfl⟩)
theorem qau(c:Nat)(w:World):
 Calls Tryz.prog 201 #[.int .u8 (c:Int)] w fun e w'=>e=.returned (.bool (Pu.digB c))/\w'=w:=by
 go_enter Tryz.func201,Tryz.ntmps201
 go_wp2
 all_goals(go_ret;exact⟨qbb (by rw[digB_iff];symm;simp;try omega),rfl⟩)
end
section
open Go Go.RowKit
theorem qf1{s:ByteArray}{p:Nat->Bool}{i j:Nat}{b:Bool}(hlt:j<s.size)(he:Hid (Pu.endTo s p i=Pu.endTo s p j))(hb:p (Pu.at_ s j)=b):
 Hid (Pu.endTo s p i=if b=true then Pu.endTo s p (j+1)else j):=by
 cases b
 .show _=_;rw[he.out,Pu.endTo_no hlt hb];rfl
 .show _=_;rw[he.out,Pu.endTo_yes hlt hb];rfl
theorem runs_any(s:ByteArray)(i:Nat)(w:World)(hs:s.size<=1000)(hi:i<=s.size):
 Calls Tryz.prog 199 #[.string s,.int .i64 (i:Int)] w fun e w'=>e=.returned (.int .i64 (Pu.endTo s Pu.nameB i))/\w'=w:=by
 go_enter Tryz.func199,Tryz.ntmps199
 go_wp2
 go_loop[1] (fun v=>∃j:Nat,j<=s.size/\v=.int .i64 (j:Int)/\Hid (Pu.endTo s Pu.nameB i=Pu.endTo s Pu.nameB j)) (fun v=>s.size-(intOf v).toNat)
 case atStart=>exact⟨i,hi,rfl,rfl⟩
 case round=>
  obtain⟨j,hj,rfl,he⟩:=hrel
  by_cases hlt:j<s.size
  .have hn:Pu.nameB (Pu.at_ s j)=(Pu.lowB s[j].toNat||Pu.upB s[j].toNat||Pu.digB s[j].toNat):=by rw[Pu.at_lt hlt];rfl
   have hcase:(Pu.lowB s[j].toNat=true\/(Pu.lowB s[j].toNat=false/\Pu.upB s[j].toNat=true))\/((Pu.lowB s[j].toNat=false/\Pu.upB s[j].toNat=false/\Pu.digB s[j].toNat=true)\/(Pu.lowB s[j].toNat=false/\Pu.upB s[j].toNat=false/\Pu.digB s[j].toNat=false)):=by
    cases Pu.lowB s[j].toNat<;>cases Pu.upB s[j].toNat<;>cases Pu.digB s[j].toNat<;>simp
   rcases hcase with(h1|⟨h1,h2⟩)|(⟨h1,h2,h3⟩|⟨h1,h2,h3⟩)
   all_goals
    simp only[*,Bool.or_true,Bool.true_or,Bool.or_false]at hn
    have hm:=qf1 hlt he hn
    clear he hn
    go_wp2_with(first|(go_at_call 198;refine(qbd _ _).mono ?_;rintro e w'⟨rfl,rfl⟩)|(go_at_call 200;refine(qbp _ _).mono ?_;rintro e w'⟨rfl,rfl⟩)|(go_at_call 201;refine(qau _ _).mono ?_;rintro e w'⟨rfl,rfl⟩))
    first
    |(go_ret;exact⟨retInt (congrArg Nat.cast (hm.out.symm)),rfl⟩)
    |(go_round
      case rel=>exact⟨j+1,by omega,by go_num,by simpa using hm⟩
      case measure=>simp[intOf];omega)
  .go_wp2_with fail
   go_ret
   exact⟨retInt (by rw[he.out,Pu.endTo_end (by omega)]),rfl⟩
end
section
open Go Go.RowKit
theorem words_cell(w:World)(k:Nat)(hk:k<13):(w.alloc (Obj.cells #[.string ⟨#[116,121,112,101]⟩,.string ⟨#[108,101,116]⟩,.string ⟨#[114,101,99]⟩,.string ⟨#[105,110]⟩,.string ⟨#[102,117,110]⟩,.string ⟨#[105,102]⟩,.string ⟨#[116,104,101,110]⟩,.string ⟨#[101,108,115,101]⟩,.string ⟨#[109,97,116,99,104]⟩,.string ⟨#[119,105,116,104]⟩,.string ⟨#[101,110,100]⟩,.string ⟨#[116,114,117,101]⟩,.string ⟨#[102,97,108,115,101]⟩] 9)).cell? ⟨w.heap.size,k,none⟩=some (.string (Pu.wordAt k)):=by
 simp only[World.cell?,World.alloc,Array.getElem?_push_size]
 match k,hk with
 |0,_|1,_|2,_|3,_|4,_|5,_|6,_|7,_|8,_|9,_|10,_|11,_|12,_=>rfl
theorem word_any(s:ByteArray)(w:World):
 Calls Tryz.prog 202 #[.string s] w fun e w'=>e=.returned (.bool (Pu.wordB s))/\Below w.heap.size w w':=by
 go_enter Tryz.func202,Tryz.ntmps202
 go_wp2
 have hc:=words_cell w
 go_loop[4] (fun v=>∃k:Nat,k<=13/\v=.int .i64 (k:Int)/\Hid (∀j,j<k->((Pu.wordAt j).toList==s.toList)=false)) (fun v=>13-(intOf v).toNat)
 case atStart=>exact⟨0,by omega,rfl,fun j h=>absurd h (by omega)⟩
 case round=>
  obtain⟨k,hk,rfl,he⟩:=hrel
  by_cases hlt:k<13
  .have hck:=hc k hlt
   clear hc
   go_wp2
   .go_ret
    exact⟨qbb (Pu.wordB_at hlt ‹_›).symm,(Below.refl _ _).alloc (Nat.le_refl _) _⟩
   .refine⟨⟨k+1,by omega,by go_num,fun j hj=>?_⟩,by simp[intOf];omega⟩
    by_cases e:j=k
    .subst e;assumption
    .exact he.out j (by omega)
  .clear hc
   go_wp2
   go_ret
   exact⟨qbb (Pu.wordB_none fun j hj=>he.out j (by omega)).symm,(Below.refl _ _).alloc (Nat.le_refl _) _⟩
end
section
open Go Go.RowKit
def tokV(t:Pu.Tok):Value:=.agg #[.int .i64 (t.kind:Int),.string t.text,.int .i64 (t.frm:Int),.int .i64 (t.to:Int)]
theorem oldCell{w u:World}(h:Below w.heap.size w u)(b o:Nat)(hb:b<w.heap.size):u.cell? ⟨b,o,none⟩=w.cell? ⟨b,o,none⟩:=World.cell?_of_block (a:=⟨b,o,none⟩) (h.block b hb)
theorem oldMark{w u:World}(h:Below w.heap.size w u)(b o:Nat)(hb:b<w.heap.size):u.frozen? ⟨b,o,none⟩=w.frozen? ⟨b,o,none⟩:=World.frozen?_of_block (a:=⟨b,o,none⟩) (h.block b hb)
theorem boxes2{w w1:World}{A B:Array Value}{t t':TypeId}(hb:Below ((w.alloc (.cells A t)).alloc (.cells B t')).heap.size ((w.alloc (.cells A t)).alloc (.cells B t')) w1):
 (∀o,w1.cell? ⟨w.heap.size,o,none⟩=A[o]?)/\(∀o,w1.cell? ⟨w.heap.size+1,o,none⟩=B[o]?)/\
 (∀o,w1.frozen? ⟨w.heap.size,o,none⟩=false)/\(∀o,w1.frozen? ⟨w.heap.size+1,o,none⟩=false)/\w.heap.size+1<w1.heap.size/\Below w.heap.size w w1:=by
 have hc:=oldCell hb
 have hf:=oldMark hb
 have hsz:=hb.size
 simp at hsz
 refine⟨fun o=>?_,fun o=>?_,fun o=>?_,fun o=>?_,by omega,?_⟩
 .rw[hc _ _ (by simp;try omega)];simp
 .rw[hc _ _ (by simp;try omega)];simp
 .rw[hf _ _ (by simp;try omega)];simp
 .rw[hf _ _ (by simp;try omega)];simp
 .exact(((Below.refl _ _).alloc (Nat.le_refl _) _).alloc (by simp) _).trans (hb.mono (by simp;omega))
theorem token_low(s:ByteArray)(i:Nat)(w:World)(hs:s.size<=1000)(hi:i<s.size)(hl:Pu.lowB s[i].toNat=true):
 Calls Tryz.prog 114 #[.string s,.int .i64 (i:Int)] w fun e w'=>e=.returned (tokV (Pu.tokAt s i))/\Below w.heap.size w w':=by
 have hto:=Pu.endTo_le (s:=s) Pu.nameB (i:=i) (by omega)
 have hfr:=Pu.endTo_ge s Pu.nameB i
 rcases hwd:Pu.wordB (s.extract i (Pu.endTo s Pu.nameB i))with _|_
 all_goals
  have hT:Pu.tokAt s i=Pu.mkT s i _ _:=(by unfold Pu.tokAt;rw[Pu.at_lt hi,if_pos hl];simp only[hwd];rfl)
  have HT:=ai hT
  clear hT
  go_enter Tryz.func114,Tryz.ntmps114
  go_wp2_with(first|(go_at_call 198;refine(qbd _ _).mono ?_;rintro e w'⟨rfl,rfl⟩)|(go_at_call 199;refine(runs_any _ _ _ hs (by omega)).mono ?_;rintro e w'⟨rfl,rfl⟩)|(go_at_call 202;refine(word_any _ _).mono ?_;rintro e w1⟨rfl,hb⟩;obtain⟨c0,c1,f0,f1,hz,hB⟩:=boxes2 hb;clear hb))
  refine bodyPost_ret (v:=tokV (Pu.mkT s i _ (Pu.endTo s Pu.nameB i))) (by simp[results,Tryz.results114,go_sem,c0,c1,hz,tokV,Pu.mkT];rfl) rfl ⟨by rw[uh HT],?_⟩
  repeat(first|exact hB|refine Below.setCell ?_ (by simp) _)
end
section
open Go Go.RowKit
theorem ne_int{n m:Nat}(h:n≠m):((n:Int)==(m:Int))=false:=by simp;omega
theorem sign_no{c:Nat}(hg:Pu.signB c=false):((c:Int)==40)=false/\((c:Int)==41)=false/\((c:Int)==44)=false/\((c:Int)==59)=false/\((c:Int)==58)=false/\((c:Int)==61)=false/\((c:Int)==124)=false/\((c:Int)==43)=false/\((c:Int)==45)=false/\((c:Int)==42)=false/\((c:Int)==60)=false/\((c:Int)==95)=false:=by
 unfold Pu.signB at hg
 simp at hg
 simp
 omega
theorem token_up(s:ByteArray)(i:Nat)(w:World)(hs:s.size<=1000)(hi:i<s.size)(hl:Pu.lowB s[i].toNat=false)(hu:Pu.upB s[i].toNat=true):
 Calls Tryz.prog 114 #[.string s,.int .i64 (i:Int)] w fun e w'=>e=.returned (tokV (Pu.tokAt s i))/\Below w.heap.size w w':=by
 have hto:=Pu.endTo_le (s:=s) Pu.nameB (i:=i) (by omega)
 have hfr:=Pu.endTo_ge s Pu.nameB i
 have hT:Pu.tokAt s i=Pu.mkT s i 2 (Pu.endTo s Pu.nameB i):=(by unfold Pu.tokAt;rw[Pu.at_lt hi,if_neg (by simp[hl]),if_pos hu])
 have HT:=ai hT
 clear hT
 go_enter Tryz.func114,Tryz.ntmps114
 go_wp2_with(first|(go_at_call 198;refine(qbd _ _).mono ?_;rintro e w'⟨rfl,rfl⟩)|(go_at_call 200;refine(qbp _ _).mono ?_;rintro e w'⟨rfl,rfl⟩)|(go_at_call 199;refine(runs_any _ _ _ hs (by omega)).mono ?_;rintro e w'⟨rfl,rfl⟩))
 refine bodyPost_ret (v:=tokV (Pu.mkT s i 2 (Pu.endTo s Pu.nameB i))) (by simp[results,Tryz.results114,go_sem,tokV,Pu.mkT];try rfl) rfl ⟨by rw[uh HT],?_⟩
 exact((Below.refl _ _).alloc (Nat.le_refl _) _).alloc (by simp) _
theorem token_bad(s:ByteArray)(i:Nat)(w:World)(hs:s.size<=1000)(hi:i<s.size)(hl:Pu.lowB s[i].toNat=false)(hu:Pu.upB s[i].toNat=false)(hd:Pu.digB s[i].toNat=false)(h39:s[i].toNat≠39)(hg:Pu.signB s[i].toNat=false):
 Calls Tryz.prog 114 #[.string s,.int .i64 (i:Int)] w fun e w'=>e=.returned (tokV (Pu.tokAt s i))/\Below w.heap.size w w':=by
 obtain⟨e1,e2,e3,e4,e5,e6,e7,e8,e9,e10,e11,e12⟩:=sign_no hg
 have h45:s[i].toNat≠45:=by simp at e9;omega
 have hT:Pu.tokAt s i=Pu.mkT s i 6 (i+1):=(by unfold Pu.tokAt;rw[Pu.at_lt hi,if_neg (by simp[hl]),if_neg (by simp[hu]),if_neg (by simp[h39]),if_neg (by simp[hd]),if_neg (by simp[h45]),if_neg (by simp[hg])])
 have HT:=ai hT
 have e39:((s[i].toNat:Int)==39)=false:=ne_int h39
 clear hT h39 h45
 go_enter Tryz.func114,Tryz.ntmps114
 go_wp2_with(first|(go_at_call 198;refine(qbd _ _).mono ?_;rintro e w'⟨rfl,rfl⟩)|(go_at_call 200;refine(qbp _ _).mono ?_;rintro e w'⟨rfl,rfl⟩)|(go_at_call 201;refine(qau _ _).mono ?_;rintro e w'⟨rfl,rfl⟩))
 refine bodyPost_ret (v:=tokV (Pu.mkT s i 6 (i+1))) (by simp[results,Tryz.results114,go_sem,tokV,Pu.mkT];try rfl) rfl ⟨by rw[uh HT],?_⟩
 exact((Below.refl _ _).alloc (Nat.le_refl _) _).alloc (by simp) _
end
section
open Go Go.RowKit
theorem token_s40(s:ByteArray)(i:Nat)(w:World)(hs:s.size<=1000)(hi:i<s.size)(hl:Pu.lowB s[i].toNat=false)(hu:Pu.upB s[i].toNat=false)(hd:Pu.digB s[i].toNat=false)(hc:s[i].toNat=40):
 Calls Tryz.prog 114 #[.string s,.int .i64 (i:Int)] w fun e w'=>e=.returned (tokV (Pu.tokAt s i))/\Below w.heap.size w w':=by
 have hT:Pu.tokAt s i=Pu.mkT s i 5 (i+1):=(by unfold Pu.tokAt;rw[Pu.at_lt hi,if_neg (by simp[hl]),if_neg (by simp[hu]),if_neg (by omega),if_neg (by simp[hd]),if_neg (by omega),if_pos (by rw[hc];rfl)])
 have HT:=ai hT
 have e39:((s[i].toNat:Int)==39)=false:=by rw[hc];rfl
 have e45:((s[i].toNat:Int)==45)=false:=by rw[hc];rfl
 have ec:((s[i].toNat:Int)==40)=true:=by rw[hc];rfl
 clear hT hc
 go_enter Tryz.func114,Tryz.ntmps114
 go_wp2_with(first|(go_at_call 198;refine(qbd _ _).mono ?_;rintro e w'⟨rfl,rfl⟩)|(go_at_call 200;refine(qbp _ _).mono ?_;rintro e w'⟨rfl,rfl⟩)|(go_at_call 201;refine(qau _ _).mono ?_;rintro e w'⟨rfl,rfl⟩))
 refine bodyPost_ret (v:=tokV (Pu.mkT s i 5 (i+1))) (by simp[results,Tryz.results114,go_sem,tokV,Pu.mkT];try rfl) rfl ⟨by rw[uh HT],?_⟩
 exact((Below.refl _ _).alloc (Nat.le_refl _) _).alloc (by simp) _
theorem token_s41(s:ByteArray)(i:Nat)(w:World)(hs:s.size<=1000)(hi:i<s.size)(hl:Pu.lowB s[i].toNat=false)(hu:Pu.upB s[i].toNat=false)(hd:Pu.digB s[i].toNat=false)(hc:s[i].toNat=41):
 Calls Tryz.prog 114 #[.string s,.int .i64 (i:Int)] w fun e w'=>e=.returned (tokV (Pu.tokAt s i))/\Below w.heap.size w w':=by
 have hT:Pu.tokAt s i=Pu.mkT s i 5 (i+1):=(by unfold Pu.tokAt;rw[Pu.at_lt hi,if_neg (by simp[hl]),if_neg (by simp[hu]),if_neg (by omega),if_neg (by simp[hd]),if_neg (by omega),if_pos (by rw[hc];rfl)])
 have HT:=ai hT
 have e39:((s[i].toNat:Int)==39)=false:=by rw[hc];rfl
 have e45:((s[i].toNat:Int)==45)=false:=by rw[hc];rfl
 have e40:((s[i].toNat:Int)==40)=false:=by rw[hc];rfl
 have ec:((s[i].toNat:Int)==41)=true:=by rw[hc];rfl
 clear hT hc
 go_enter Tryz.func114,Tryz.ntmps114
 go_wp2_with(first|(go_at_call 198;refine(qbd _ _).mono ?_;rintro e w'⟨rfl,rfl⟩)|(go_at_call 200;refine(qbp _ _).mono ?_;rintro e w'⟨rfl,rfl⟩)|(go_at_call 201;refine(qau _ _).mono ?_;rintro e w'⟨rfl,rfl⟩))
 refine bodyPost_ret (v:=tokV (Pu.mkT s i 5 (i+1))) (by simp[results,Tryz.results114,go_sem,tokV,Pu.mkT];try rfl) rfl ⟨by rw[uh HT],?_⟩
 exact((Below.refl _ _).alloc (Nat.le_refl _) _).alloc (by simp) _
theorem token_s44(s:ByteArray)(i:Nat)(w:World)(hs:s.size<=1000)(hi:i<s.size)(hl:Pu.lowB s[i].toNat=false)(hu:Pu.upB s[i].toNat=false)(hd:Pu.digB s[i].toNat=false)(hc:s[i].toNat=44):
 Calls Tryz.prog 114 #[.string s,.int .i64 (i:Int)] w fun e w'=>e=.returned (tokV (Pu.tokAt s i))/\Below w.heap.size w w':=by
 have hT:Pu.tokAt s i=Pu.mkT s i 5 (i+1):=(by unfold Pu.tokAt;rw[Pu.at_lt hi,if_neg (by simp[hl]),if_neg (by simp[hu]),if_neg (by omega),if_neg (by simp[hd]),if_neg (by omega),if_pos (by rw[hc];rfl)])
 have HT:=ai hT
 have e39:((s[i].toNat:Int)==39)=false:=by rw[hc];rfl
 have e45:((s[i].toNat:Int)==45)=false:=by rw[hc];rfl
 have e40:((s[i].toNat:Int)==40)=false:=by rw[hc];rfl
 have e41:((s[i].toNat:Int)==41)=false:=by rw[hc];rfl
 have ec:((s[i].toNat:Int)==44)=true:=by rw[hc];rfl
 clear hT hc
 go_enter Tryz.func114,Tryz.ntmps114
 go_wp2_with(first|(go_at_call 198;refine(qbd _ _).mono ?_;rintro e w'⟨rfl,rfl⟩)|(go_at_call 200;refine(qbp _ _).mono ?_;rintro e w'⟨rfl,rfl⟩)|(go_at_call 201;refine(qau _ _).mono ?_;rintro e w'⟨rfl,rfl⟩))
 refine bodyPost_ret (v:=tokV (Pu.mkT s i 5 (i+1))) (by simp[results,Tryz.results114,go_sem,tokV,Pu.mkT];try rfl) rfl ⟨by rw[uh HT],?_⟩
 exact((Below.refl _ _).alloc (Nat.le_refl _) _).alloc (by simp) _
theorem token_s59(s:ByteArray)(i:Nat)(w:World)(hs:s.size<=1000)(hi:i<s.size)(hl:Pu.lowB s[i].toNat=false)(hu:Pu.upB s[i].toNat=false)(hd:Pu.digB s[i].toNat=false)(hc:s[i].toNat=59):
 Calls Tryz.prog 114 #[.string s,.int .i64 (i:Int)] w fun e w'=>e=.returned (tokV (Pu.tokAt s i))/\Below w.heap.size w w':=by
 have hT:Pu.tokAt s i=Pu.mkT s i 5 (i+1):=(by unfold Pu.tokAt;rw[Pu.at_lt hi,if_neg (by simp[hl]),if_neg (by simp[hu]),if_neg (by omega),if_neg (by simp[hd]),if_neg (by omega),if_pos (by rw[hc];rfl)])
 have HT:=ai hT
 have e39:((s[i].toNat:Int)==39)=false:=by rw[hc];rfl
 have e45:((s[i].toNat:Int)==45)=false:=by rw[hc];rfl
 have e40:((s[i].toNat:Int)==40)=false:=by rw[hc];rfl
 have e41:((s[i].toNat:Int)==41)=false:=by rw[hc];rfl
 have e44:((s[i].toNat:Int)==44)=false:=by rw[hc];rfl
 have ec:((s[i].toNat:Int)==59)=true:=by rw[hc];rfl
 clear hT hc
 go_enter Tryz.func114,Tryz.ntmps114
 go_wp2_with(first|(go_at_call 198;refine(qbd _ _).mono ?_;rintro e w'⟨rfl,rfl⟩)|(go_at_call 200;refine(qbp _ _).mono ?_;rintro e w'⟨rfl,rfl⟩)|(go_at_call 201;refine(qau _ _).mono ?_;rintro e w'⟨rfl,rfl⟩))
 refine bodyPost_ret (v:=tokV (Pu.mkT s i 5 (i+1))) (by simp[results,Tryz.results114,go_sem,tokV,Pu.mkT];try rfl) rfl ⟨by rw[uh HT],?_⟩
 exact((Below.refl _ _).alloc (Nat.le_refl _) _).alloc (by simp) _
theorem token_s58(s:ByteArray)(i:Nat)(w:World)(hs:s.size<=1000)(hi:i<s.size)(hl:Pu.lowB s[i].toNat=false)(hu:Pu.upB s[i].toNat=false)(hd:Pu.digB s[i].toNat=false)(hc:s[i].toNat=58):
 Calls Tryz.prog 114 #[.string s,.int .i64 (i:Int)] w fun e w'=>e=.returned (tokV (Pu.tokAt s i))/\Below w.heap.size w w':=by
 have hT:Pu.tokAt s i=Pu.mkT s i 5 (i+1):=(by unfold Pu.tokAt;rw[Pu.at_lt hi,if_neg (by simp[hl]),if_neg (by simp[hu]),if_neg (by omega),if_neg (by simp[hd]),if_neg (by omega),if_pos (by rw[hc];rfl)])
 have HT:=ai hT
 have e39:((s[i].toNat:Int)==39)=false:=by rw[hc];rfl
 have e45:((s[i].toNat:Int)==45)=false:=by rw[hc];rfl
 have e40:((s[i].toNat:Int)==40)=false:=by rw[hc];rfl
 have e41:((s[i].toNat:Int)==41)=false:=by rw[hc];rfl
 have e44:((s[i].toNat:Int)==44)=false:=by rw[hc];rfl
 have e59:((s[i].toNat:Int)==59)=false:=by rw[hc];rfl
 have ec:((s[i].toNat:Int)==58)=true:=by rw[hc];rfl
 clear hT hc
 go_enter Tryz.func114,Tryz.ntmps114
 go_wp2_with(first|(go_at_call 198;refine(qbd _ _).mono ?_;rintro e w'⟨rfl,rfl⟩)|(go_at_call 200;refine(qbp _ _).mono ?_;rintro e w'⟨rfl,rfl⟩)|(go_at_call 201;refine(qau _ _).mono ?_;rintro e w'⟨rfl,rfl⟩))
 refine bodyPost_ret (v:=tokV (Pu.mkT s i 5 (i+1))) (by simp[results,Tryz.results114,go_sem,tokV,Pu.mkT];try rfl) rfl ⟨by rw[uh HT],?_⟩
 exact((Below.refl _ _).alloc (Nat.le_refl _) _).alloc (by simp) _
theorem token_s61(s:ByteArray)(i:Nat)(w:World)(hs:s.size<=1000)(hi:i<s.size)(hl:Pu.lowB s[i].toNat=false)(hu:Pu.upB s[i].toNat=false)(hd:Pu.digB s[i].toNat=false)(hc:s[i].toNat=61):
 Calls Tryz.prog 114 #[.string s,.int .i64 (i:Int)] w fun e w'=>e=.returned (tokV (Pu.tokAt s i))/\Below w.heap.size w w':=by
 have hT:Pu.tokAt s i=Pu.mkT s i 5 (i+1):=(by unfold Pu.tokAt;rw[Pu.at_lt hi,if_neg (by simp[hl]),if_neg (by simp[hu]),if_neg (by omega),if_neg (by simp[hd]),if_neg (by omega),if_pos (by rw[hc];rfl)])
 have HT:=ai hT
 have e39:((s[i].toNat:Int)==39)=false:=by rw[hc];rfl
 have e45:((s[i].toNat:Int)==45)=false:=by rw[hc];rfl
 have e40:((s[i].toNat:Int)==40)=false:=by rw[hc];rfl
 have e41:((s[i].toNat:Int)==41)=false:=by rw[hc];rfl
 have e44:((s[i].toNat:Int)==44)=false:=by rw[hc];rfl
 have e59:((s[i].toNat:Int)==59)=false:=by rw[hc];rfl
 have e58:((s[i].toNat:Int)==58)=false:=by rw[hc];rfl
 have ec:((s[i].toNat:Int)==61)=true:=by rw[hc];rfl
 clear hT hc
 go_enter Tryz.func114,Tryz.ntmps114
 go_wp2_with(first|(go_at_call 198;refine(qbd _ _).mono ?_;rintro e w'⟨rfl,rfl⟩)|(go_at_call 200;refine(qbp _ _).mono ?_;rintro e w'⟨rfl,rfl⟩)|(go_at_call 201;refine(qau _ _).mono ?_;rintro e w'⟨rfl,rfl⟩))
 refine bodyPost_ret (v:=tokV (Pu.mkT s i 5 (i+1))) (by simp[results,Tryz.results114,go_sem,tokV,Pu.mkT];try rfl) rfl ⟨by rw[uh HT],?_⟩
 exact((Below.refl _ _).alloc (Nat.le_refl _) _).alloc (by simp) _
theorem token_s124(s:ByteArray)(i:Nat)(w:World)(hs:s.size<=1000)(hi:i<s.size)(hl:Pu.lowB s[i].toNat=false)(hu:Pu.upB s[i].toNat=false)(hd:Pu.digB s[i].toNat=false)(hc:s[i].toNat=124):
 Calls Tryz.prog 114 #[.string s,.int .i64 (i:Int)] w fun e w'=>e=.returned (tokV (Pu.tokAt s i))/\Below w.heap.size w w':=by
 have hT:Pu.tokAt s i=Pu.mkT s i 5 (i+1):=(by unfold Pu.tokAt;rw[Pu.at_lt hi,if_neg (by simp[hl]),if_neg (by simp[hu]),if_neg (by omega),if_neg (by simp[hd]),if_neg (by omega),if_pos (by rw[hc];rfl)])
 have HT:=ai hT
 have e39:((s[i].toNat:Int)==39)=false:=by rw[hc];rfl
 have e45:((s[i].toNat:Int)==45)=false:=by rw[hc];rfl
 have e40:((s[i].toNat:Int)==40)=false:=by rw[hc];rfl
 have e41:((s[i].toNat:Int)==41)=false:=by rw[hc];rfl
 have e44:((s[i].toNat:Int)==44)=false:=by rw[hc];rfl
 have e59:((s[i].toNat:Int)==59)=false:=by rw[hc];rfl
 have e58:((s[i].toNat:Int)==58)=false:=by rw[hc];rfl
 have e61:((s[i].toNat:Int)==61)=false:=by rw[hc];rfl
 have ec:((s[i].toNat:Int)==124)=true:=by rw[hc];rfl
 clear hT hc
 go_enter Tryz.func114,Tryz.ntmps114
 go_wp2_with(first|(go_at_call 198;refine(qbd _ _).mono ?_;rintro e w'⟨rfl,rfl⟩)|(go_at_call 200;refine(qbp _ _).mono ?_;rintro e w'⟨rfl,rfl⟩)|(go_at_call 201;refine(qau _ _).mono ?_;rintro e w'⟨rfl,rfl⟩))
 refine bodyPost_ret (v:=tokV (Pu.mkT s i 5 (i+1))) (by simp[results,Tryz.results114,go_sem,tokV,Pu.mkT];try rfl) rfl ⟨by rw[uh HT],?_⟩
 exact((Below.refl _ _).alloc (Nat.le_refl _) _).alloc (by simp) _
theorem token_s43(s:ByteArray)(i:Nat)(w:World)(hs:s.size<=1000)(hi:i<s.size)(hl:Pu.lowB s[i].toNat=false)(hu:Pu.upB s[i].toNat=false)(hd:Pu.digB s[i].toNat=false)(hc:s[i].toNat=43):
 Calls Tryz.prog 114 #[.string s,.int .i64 (i:Int)] w fun e w'=>e=.returned (tokV (Pu.tokAt s i))/\Below w.heap.size w w':=by
 have hT:Pu.tokAt s i=Pu.mkT s i 5 (i+1):=(by unfold Pu.tokAt;rw[Pu.at_lt hi,if_neg (by simp[hl]),if_neg (by simp[hu]),if_neg (by omega),if_neg (by simp[hd]),if_neg (by omega),if_pos (by rw[hc];rfl)])
 have HT:=ai hT
 have e39:((s[i].toNat:Int)==39)=false:=by rw[hc];rfl
 have e45:((s[i].toNat:Int)==45)=false:=by rw[hc];rfl
 have e40:((s[i].toNat:Int)==40)=false:=by rw[hc];rfl
 have e41:((s[i].toNat:Int)==41)=false:=by rw[hc];rfl
 have e44:((s[i].toNat:Int)==44)=false:=by rw[hc];rfl
 have e59:((s[i].toNat:Int)==59)=false:=by rw[hc];rfl
 have e58:((s[i].toNat:Int)==58)=false:=by rw[hc];rfl
 have e61:((s[i].toNat:Int)==61)=false:=by rw[hc];rfl
 have e124:((s[i].toNat:Int)==124)=false:=by rw[hc];rfl
 have ec:((s[i].toNat:Int)==43)=true:=by rw[hc];rfl
 clear hT hc
 go_enter Tryz.func114,Tryz.ntmps114
 go_wp2_with(first|(go_at_call 198;refine(qbd _ _).mono ?_;rintro e w'⟨rfl,rfl⟩)|(go_at_call 200;refine(qbp _ _).mono ?_;rintro e w'⟨rfl,rfl⟩)|(go_at_call 201;refine(qau _ _).mono ?_;rintro e w'⟨rfl,rfl⟩))
 refine bodyPost_ret (v:=tokV (Pu.mkT s i 5 (i+1))) (by simp[results,Tryz.results114,go_sem,tokV,Pu.mkT];try rfl) rfl ⟨by rw[uh HT],?_⟩
 exact((Below.refl _ _).alloc (Nat.le_refl _) _).alloc (by simp) _
theorem token_s42(s:ByteArray)(i:Nat)(w:World)(hs:s.size<=1000)(hi:i<s.size)(hl:Pu.lowB s[i].toNat=false)(hu:Pu.upB s[i].toNat=false)(hd:Pu.digB s[i].toNat=false)(hc:s[i].toNat=42):
 Calls Tryz.prog 114 #[.string s,.int .i64 (i:Int)] w fun e w'=>e=.returned (tokV (Pu.tokAt s i))/\Below w.heap.size w w':=by
 have hT:Pu.tokAt s i=Pu.mkT s i 5 (i+1):=(by unfold Pu.tokAt;rw[Pu.at_lt hi,if_neg (by simp[hl]),if_neg (by simp[hu]),if_neg (by omega),if_neg (by simp[hd]),if_neg (by omega),if_pos (by rw[hc];rfl)])
 have HT:=ai hT
 have e39:((s[i].toNat:Int)==39)=false:=by rw[hc];rfl
 have e45:((s[i].toNat:Int)==45)=false:=by rw[hc];rfl
 have e40:((s[i].toNat:Int)==40)=false:=by rw[hc];rfl
 have e41:((s[i].toNat:Int)==41)=false:=by rw[hc];rfl
 have e44:((s[i].toNat:Int)==44)=false:=by rw[hc];rfl
 have e59:((s[i].toNat:Int)==59)=false:=by rw[hc];rfl
 have e58:((s[i].toNat:Int)==58)=false:=by rw[hc];rfl
 have e61:((s[i].toNat:Int)==61)=false:=by rw[hc];rfl
 have e124:((s[i].toNat:Int)==124)=false:=by rw[hc];rfl
 have e43:((s[i].toNat:Int)==43)=false:=by rw[hc];rfl
 have ec:((s[i].toNat:Int)==42)=true:=by rw[hc];rfl
 clear hT hc
 go_enter Tryz.func114,Tryz.ntmps114
 go_wp2_with(first|(go_at_call 198;refine(qbd _ _).mono ?_;rintro e w'⟨rfl,rfl⟩)|(go_at_call 200;refine(qbp _ _).mono ?_;rintro e w'⟨rfl,rfl⟩)|(go_at_call 201;refine(qau _ _).mono ?_;rintro e w'⟨rfl,rfl⟩))
 refine bodyPost_ret (v:=tokV (Pu.mkT s i 5 (i+1))) (by simp[results,Tryz.results114,go_sem,tokV,Pu.mkT];try rfl) rfl ⟨by rw[uh HT],?_⟩
 exact((Below.refl _ _).alloc (Nat.le_refl _) _).alloc (by simp) _
theorem token_s60(s:ByteArray)(i:Nat)(w:World)(hs:s.size<=1000)(hi:i<s.size)(hl:Pu.lowB s[i].toNat=false)(hu:Pu.upB s[i].toNat=false)(hd:Pu.digB s[i].toNat=false)(hc:s[i].toNat=60):
 Calls Tryz.prog 114 #[.string s,.int .i64 (i:Int)] w fun e w'=>e=.returned (tokV (Pu.tokAt s i))/\Below w.heap.size w w':=by
 have hT:Pu.tokAt s i=Pu.mkT s i 5 (i+1):=(by unfold Pu.tokAt;rw[Pu.at_lt hi,if_neg (by simp[hl]),if_neg (by simp[hu]),if_neg (by omega),if_neg (by simp[hd]),if_neg (by omega),if_pos (by rw[hc];rfl)])
 have HT:=ai hT
 have e39:((s[i].toNat:Int)==39)=false:=by rw[hc];rfl
 have e45:((s[i].toNat:Int)==45)=false:=by rw[hc];rfl
 have e40:((s[i].toNat:Int)==40)=false:=by rw[hc];rfl
 have e41:((s[i].toNat:Int)==41)=false:=by rw[hc];rfl
 have e44:((s[i].toNat:Int)==44)=false:=by rw[hc];rfl
 have e59:((s[i].toNat:Int)==59)=false:=by rw[hc];rfl
 have e58:((s[i].toNat:Int)==58)=false:=by rw[hc];rfl
 have e61:((s[i].toNat:Int)==61)=false:=by rw[hc];rfl
 have e124:((s[i].toNat:Int)==124)=false:=by rw[hc];rfl
 have e43:((s[i].toNat:Int)==43)=false:=by rw[hc];rfl
 have e42:((s[i].toNat:Int)==42)=false:=by rw[hc];rfl
 have ec:((s[i].toNat:Int)==60)=true:=by rw[hc];rfl
 clear hT hc
 go_enter Tryz.func114,Tryz.ntmps114
 go_wp2_with(first|(go_at_call 198;refine(qbd _ _).mono ?_;rintro e w'⟨rfl,rfl⟩)|(go_at_call 200;refine(qbp _ _).mono ?_;rintro e w'⟨rfl,rfl⟩)|(go_at_call 201;refine(qau _ _).mono ?_;rintro e w'⟨rfl,rfl⟩))
 refine bodyPost_ret (v:=tokV (Pu.mkT s i 5 (i+1))) (by simp[results,Tryz.results114,go_sem,tokV,Pu.mkT];try rfl) rfl ⟨by rw[uh HT],?_⟩
 exact((Below.refl _ _).alloc (Nat.le_refl _) _).alloc (by simp) _
theorem token_s95(s:ByteArray)(i:Nat)(w:World)(hs:s.size<=1000)(hi:i<s.size)(hl:Pu.lowB s[i].toNat=false)(hu:Pu.upB s[i].toNat=false)(hd:Pu.digB s[i].toNat=false)(hc:s[i].toNat=95):
 Calls Tryz.prog 114 #[.string s,.int .i64 (i:Int)] w fun e w'=>e=.returned (tokV (Pu.tokAt s i))/\Below w.heap.size w w':=by
 have hT:Pu.tokAt s i=Pu.mkT s i 5 (i+1):=(by unfold Pu.tokAt;rw[Pu.at_lt hi,if_neg (by simp[hl]),if_neg (by simp[hu]),if_neg (by omega),if_neg (by simp[hd]),if_neg (by omega),if_pos (by rw[hc];rfl)])
 have HT:=ai hT
 have e39:((s[i].toNat:Int)==39)=false:=by rw[hc];rfl
 have e45:((s[i].toNat:Int)==45)=false:=by rw[hc];rfl
 have e40:((s[i].toNat:Int)==40)=false:=by rw[hc];rfl
 have e41:((s[i].toNat:Int)==41)=false:=by rw[hc];rfl
 have e44:((s[i].toNat:Int)==44)=false:=by rw[hc];rfl
 have e59:((s[i].toNat:Int)==59)=false:=by rw[hc];rfl
 have e58:((s[i].toNat:Int)==58)=false:=by rw[hc];rfl
 have e61:((s[i].toNat:Int)==61)=false:=by rw[hc];rfl
 have e124:((s[i].toNat:Int)==124)=false:=by rw[hc];rfl
 have e43:((s[i].toNat:Int)==43)=false:=by rw[hc];rfl
 have e42:((s[i].toNat:Int)==42)=false:=by rw[hc];rfl
 have e60:((s[i].toNat:Int)==60)=false:=by rw[hc];rfl
 have ec:((s[i].toNat:Int)==95)=true:=by rw[hc];rfl
 clear hT hc
 go_enter Tryz.func114,Tryz.ntmps114
 go_wp2_with(first|(go_at_call 198;refine(qbd _ _).mono ?_;rintro e w'⟨rfl,rfl⟩)|(go_at_call 200;refine(qbp _ _).mono ?_;rintro e w'⟨rfl,rfl⟩)|(go_at_call 201;refine(qau _ _).mono ?_;rintro e w'⟨rfl,rfl⟩))
 refine bodyPost_ret (v:=tokV (Pu.mkT s i 5 (i+1))) (by simp[results,Tryz.results114,go_sem,tokV,Pu.mkT];try rfl) rfl ⟨by rw[uh HT],?_⟩
 exact((Below.refl _ _).alloc (Nat.le_refl _) _).alloc (by simp) _
end
section
open Go Go.RowKit
theorem token_arrow(s:ByteArray)(i:Nat)(w:World)(hs:s.size<=1000)(hi:i<s.size)(hl:Pu.lowB s[i].toNat=false)(hu:Pu.upB s[i].toNat=false)(hd:Pu.digB s[i].toNat=false)(hc:s[i].toNat=45)(hj:i+1<s.size)(hn:s[i+1].toNat=62):
 Calls Tryz.prog 114 #[.string s,.int .i64 (i:Int)] w fun e w'=>e=.returned (tokV (Pu.tokAt s i))/\Below w.heap.size w w':=by
 have hT:Pu.tokAt s i=Pu.mkT s i 5 (i+2):=(by unfold Pu.tokAt;rw[Pu.at_lt hi,Pu.at_lt hj,if_neg (by simp[hl]),if_neg (by simp[hu]),if_neg (by omega),if_neg (by simp[hd]),if_pos ⟨hc,hn⟩])
 have HT:=ai hT
 have e1:((s[i].toNat:Int)==39)=false:=by rw[hc];rfl
 have e2:((s[i].toNat:Int)==45)=true:=by rw[hc];rfl
 have e3:((s[i+1].toNat:Int)==62)=true:=by rw[hn];rfl
 clear hT hc hn
 go_enter Tryz.func114,Tryz.ntmps114
 go_wp2_with(first|(go_at_call 198;refine(qbd _ _).mono ?_;rintro e w'⟨rfl,rfl⟩)|(go_at_call 200;refine(qbp _ _).mono ?_;rintro e w'⟨rfl,rfl⟩)|(go_at_call 201;refine(qau _ _).mono ?_;rintro e w'⟨rfl,rfl⟩))
 refine bodyPost_ret (v:=tokV (Pu.mkT s i 5 (i+2))) (by simp[results,Tryz.results114,go_sem,tokV,Pu.mkT];try rfl) rfl ⟨by rw[uh HT],?_⟩
 exact((Below.refl _ _).alloc (Nat.le_refl _) _).alloc (by simp) _
theorem token_minus_end(s:ByteArray)(i:Nat)(w:World)(hs:s.size<=1000)(hi:i<s.size)(hl:Pu.lowB s[i].toNat=false)(hu:Pu.upB s[i].toNat=false)(hd:Pu.digB s[i].toNat=false)(hc:s[i].toNat=45)(hj:s.size<=i+1):
 Calls Tryz.prog 114 #[.string s,.int .i64 (i:Int)] w fun e w'=>e=.returned (tokV (Pu.tokAt s i))/\Below w.heap.size w w':=by
 have hT:Pu.tokAt s i=Pu.mkT s i 5 (i+1):=(by unfold Pu.tokAt;rw[Pu.at_lt hi,Pu.at_ge hj,if_neg (by simp[hl]),if_neg (by simp[hu]),if_neg (by omega),if_neg (by simp[hd]),if_neg (by omega),if_pos (by rw[hc];rfl)])
 have HT:=ai hT
 have e1:((s[i].toNat:Int)==39)=false:=by rw[hc];rfl
 have e2:((s[i].toNat:Int)==45)=true:=by rw[hc];rfl
 have g40:((s[i].toNat:Int)==40)=false:=by rw[hc];rfl
 have g41:((s[i].toNat:Int)==41)=false:=by rw[hc];rfl
 have g44:((s[i].toNat:Int)==44)=false:=by rw[hc];rfl
 have g59:((s[i].toNat:Int)==59)=false:=by rw[hc];rfl
 have g58:((s[i].toNat:Int)==58)=false:=by rw[hc];rfl
 have g61:((s[i].toNat:Int)==61)=false:=by rw[hc];rfl
 have g124:((s[i].toNat:Int)==124)=false:=by rw[hc];rfl
 have g43:((s[i].toNat:Int)==43)=false:=by rw[hc];rfl
 clear hT hc
 go_enter Tryz.func114,Tryz.ntmps114
 go_wp2_with(first|(go_at_call 198;refine(qbd _ _).mono ?_;rintro e w'⟨rfl,rfl⟩)|(go_at_call 200;refine(qbp _ _).mono ?_;rintro e w'⟨rfl,rfl⟩)|(go_at_call 201;refine(qau _ _).mono ?_;rintro e w'⟨rfl,rfl⟩))
 refine bodyPost_ret (v:=tokV (Pu.mkT s i 5 (i+1))) (by simp[results,Tryz.results114,go_sem,tokV,Pu.mkT];try rfl) rfl ⟨by rw[uh HT],?_⟩
 exact((Below.refl _ _).alloc (Nat.le_refl _) _).alloc (by simp) _
theorem token_minus(s:ByteArray)(i:Nat)(w:World)(hs:s.size<=1000)(hi:i<s.size)(hl:Pu.lowB s[i].toNat=false)(hu:Pu.upB s[i].toNat=false)(hd:Pu.digB s[i].toNat=false)(hc:s[i].toNat=45)(hj:i+1<s.size)(hn:s[i+1].toNat≠62):
 Calls Tryz.prog 114 #[.string s,.int .i64 (i:Int)] w fun e w'=>e=.returned (tokV (Pu.tokAt s i))/\Below w.heap.size w w':=by
 have hT:Pu.tokAt s i=Pu.mkT s i 5 (i+1):=(by unfold Pu.tokAt;rw[Pu.at_lt hi,Pu.at_lt hj,if_neg (by simp[hl]),if_neg (by simp[hu]),if_neg (by omega),if_neg (by simp[hd]),if_neg (by omega),if_pos (by rw[hc];rfl)])
 have HT:=ai hT
 have e1:((s[i].toNat:Int)==39)=false:=by rw[hc];rfl
 have e2:((s[i].toNat:Int)==45)=true:=by rw[hc];rfl
 have e3:((s[i+1].toNat:Int)==62)=false:=by simp;omega
 have g40:((s[i].toNat:Int)==40)=false:=by rw[hc];rfl
 have g41:((s[i].toNat:Int)==41)=false:=by rw[hc];rfl
 have g44:((s[i].toNat:Int)==44)=false:=by rw[hc];rfl
 have g59:((s[i].toNat:Int)==59)=false:=by rw[hc];rfl
 have g58:((s[i].toNat:Int)==58)=false:=by rw[hc];rfl
 have g61:((s[i].toNat:Int)==61)=false:=by rw[hc];rfl
 have g124:((s[i].toNat:Int)==124)=false:=by rw[hc];rfl
 have g43:((s[i].toNat:Int)==43)=false:=by rw[hc];rfl
 clear hT hc hn
 go_enter Tryz.func114,Tryz.ntmps114
 go_wp2_with(first|(go_at_call 198;refine(qbd _ _).mono ?_;rintro e w'⟨rfl,rfl⟩)|(go_at_call 200;refine(qbp _ _).mono ?_;rintro e w'⟨rfl,rfl⟩)|(go_at_call 201;refine(qau _ _).mono ?_;rintro e w'⟨rfl,rfl⟩))
 refine bodyPost_ret (v:=tokV (Pu.mkT s i 5 (i+1))) (by simp[results,Tryz.results114,go_sem,tokV,Pu.mkT];try rfl) rfl ⟨by rw[uh HT],?_⟩
 exact((Below.refl _ _).alloc (Nat.le_refl _) _).alloc (by simp) _
theorem token_quote_end(s:ByteArray)(i:Nat)(w:World)(hs:s.size<=1000)(hi:i<s.size)(hl:Pu.lowB s[i].toNat=false)(hu:Pu.upB s[i].toNat=false)(hd:Pu.digB s[i].toNat=false)(hc:s[i].toNat=39)(hj:s.size<=i+1):
 Calls Tryz.prog 114 #[.string s,.int .i64 (i:Int)] w fun e w'=>e=.returned (tokV (Pu.tokAt s i))/\Below w.heap.size w w':=by
 have hT:Pu.tokAt s i=Pu.mkT s i 6 (i+1):=(by unfold Pu.tokAt;rw[Pu.at_lt hi,Pu.at_ge hj,if_neg (by simp[hl]),if_neg (by simp[hu]),if_neg (by simp[Pu.lowB]),if_neg (by simp[hd]),if_neg (by omega),if_neg (by rw[hc];decide)])
 have HT:=ai hT
 have e1:((s[i].toNat:Int)==39)=true:=by rw[hc];rfl
 have g40:((s[i].toNat:Int)==40)=false:=by rw[hc];rfl
 have g41:((s[i].toNat:Int)==41)=false:=by rw[hc];rfl
 have g44:((s[i].toNat:Int)==44)=false:=by rw[hc];rfl
 have g59:((s[i].toNat:Int)==59)=false:=by rw[hc];rfl
 have g58:((s[i].toNat:Int)==58)=false:=by rw[hc];rfl
 have g61:((s[i].toNat:Int)==61)=false:=by rw[hc];rfl
 have g124:((s[i].toNat:Int)==124)=false:=by rw[hc];rfl
 have g43:((s[i].toNat:Int)==43)=false:=by rw[hc];rfl
 have g45:((s[i].toNat:Int)==45)=false:=by rw[hc];rfl
 have g42:((s[i].toNat:Int)==42)=false:=by rw[hc];rfl
 have g60:((s[i].toNat:Int)==60)=false:=by rw[hc];rfl
 have g95:((s[i].toNat:Int)==95)=false:=by rw[hc];rfl
 clear hT hc
 go_enter Tryz.func114,Tryz.ntmps114
 go_wp2_with(first|(go_at_call 198;refine(qbd _ _).mono ?_;rintro e w'⟨rfl,rfl⟩)|(go_at_call 200;refine(qbp _ _).mono ?_;rintro e w'⟨rfl,rfl⟩)|(go_at_call 201;refine(qau _ _).mono ?_;rintro e w'⟨rfl,rfl⟩))
 refine bodyPost_ret (v:=tokV (Pu.mkT s i 6 (i+1))) (by simp[results,Tryz.results114,go_sem,tokV,Pu.mkT];try rfl) rfl ⟨by rw[uh HT],?_⟩
 exact((Below.refl _ _).alloc (Nat.le_refl _) _).alloc (by simp) _
theorem token_quote_no(s:ByteArray)(i:Nat)(w:World)(hs:s.size<=1000)(hi:i<s.size)(hl:Pu.lowB s[i].toNat=false)(hu:Pu.upB s[i].toNat=false)(hd:Pu.digB s[i].toNat=false)(hc:s[i].toNat=39)(hj:i+1<s.size)(hn:Pu.lowB s[i+1].toNat=false):
 Calls Tryz.prog 114 #[.string s,.int .i64 (i:Int)] w fun e w'=>e=.returned (tokV (Pu.tokAt s i))/\Below w.heap.size w w':=by
 have hT:Pu.tokAt s i=Pu.mkT s i 6 (i+1):=(by unfold Pu.tokAt;rw[Pu.at_lt hi,Pu.at_lt hj,if_neg (by simp[hl]),if_neg (by simp[hu]),if_neg (by simp[hn]),if_neg (by simp[hd]),if_neg (by omega),if_neg (by rw[hc];decide)])
 have HT:=ai hT
 have e1:((s[i].toNat:Int)==39)=true:=by rw[hc];rfl
 have g40:((s[i].toNat:Int)==40)=false:=by rw[hc];rfl
 have g41:((s[i].toNat:Int)==41)=false:=by rw[hc];rfl
 have g44:((s[i].toNat:Int)==44)=false:=by rw[hc];rfl
 have g59:((s[i].toNat:Int)==59)=false:=by rw[hc];rfl
 have g58:((s[i].toNat:Int)==58)=false:=by rw[hc];rfl
 have g61:((s[i].toNat:Int)==61)=false:=by rw[hc];rfl
 have g124:((s[i].toNat:Int)==124)=false:=by rw[hc];rfl
 have g43:((s[i].toNat:Int)==43)=false:=by rw[hc];rfl
 have g45:((s[i].toNat:Int)==45)=false:=by rw[hc];rfl
 have g42:((s[i].toNat:Int)==42)=false:=by rw[hc];rfl
 have g60:((s[i].toNat:Int)==60)=false:=by rw[hc];rfl
 have g95:((s[i].toNat:Int)==95)=false:=by rw[hc];rfl
 clear hT hc
 go_enter Tryz.func114,Tryz.ntmps114
 go_wp2_with(first|(go_at_call 198;refine(qbd _ _).mono ?_;rintro e w'⟨rfl,rfl⟩)|(go_at_call 200;refine(qbp _ _).mono ?_;rintro e w'⟨rfl,rfl⟩)|(go_at_call 201;refine(qau _ _).mono ?_;rintro e w'⟨rfl,rfl⟩))
 refine bodyPost_ret (v:=tokV (Pu.mkT s i 6 (i+1))) (by simp[results,Tryz.results114,go_sem,tokV,Pu.mkT];try rfl) rfl ⟨by rw[uh HT],?_⟩
 exact((Below.refl _ _).alloc (Nat.le_refl _) _).alloc (by simp) _
theorem ext_tail(s:ByteArray)(i to:Nat)(h:i+1<=to):(s.extract i to).extract 1 (to-i)=s.extract (i+1) to:=by
 rw[ByteArray.extract_extract,show min (i+(to-i)) to=to by omega]
theorem token_var(s:ByteArray)(i:Nat)(w:World)(hs:s.size<=1000)(hi:i<s.size)(hl:Pu.lowB s[i].toNat=false)(hu:Pu.upB s[i].toNat=false)(hc:s[i].toNat=39)(hj:i+1<s.size)(hn:Pu.lowB s[i+1].toNat=true):
 Calls Tryz.prog 114 #[.string s,.int .i64 (i:Int)] w fun e w'=>e=.returned (tokV (Pu.tokAt s i))/\Below w.heap.size w w':=by
 have hto:=Pu.endTo_le (s:=s) Pu.nameB (i:=i+1) (by omega)
 have hfr:=Pu.endTo_ge s Pu.nameB (i+1)
 have e1:((s[i].toNat:Int)==39)=true:=by rw[hc];rfl
 have hT:Pu.tokAt s i=if Pu.wordB (s.extract (i+1) (Pu.endTo s Pu.nameB (i+1)))=true then Pu.mkT s i 6 (Pu.endTo s Pu.nameB (i+1))else Pu.mkT s i 3 (Pu.endTo s Pu.nameB (i+1)):=(by unfold Pu.tokAt;rw[Pu.at_lt hi,Pu.at_lt hj,if_neg (by simp[hl]),if_neg (by simp[hu]),if_pos ⟨hc,hn⟩])
 clear hc
 rcases hwd:Pu.wordB (s.extract (i+1) (Pu.endTo s Pu.nameB (i+1)))with _|_
 all_goals
  simp only[hwd]at hT
  have HT:=ai hT
  rw[<-ext_tail s i _ hfr]at hwd
  clear hT
  go_enter Tryz.func114,Tryz.ntmps114
  go_wp2_with(first|(go_at_call 198;refine(qbd _ _).mono ?_;rintro e w'⟨rfl,rfl⟩)|(go_at_call 200;refine(qbp _ _).mono ?_;rintro e w'⟨rfl,rfl⟩)|(go_at_call 199;refine(runs_any s (i+1) _ hs (by omega)).mono ?_;rintro e w'⟨rfl,rfl⟩)|(go_at_call 202;refine(word_any _ _).mono ?_;rintro e w1⟨rfl,hb⟩;obtain⟨c0,c1,f0,f1,hz,hB⟩:=boxes2 hb;clear hb))
  refine bodyPost_ret (v:=tokV (Pu.mkT s i _ (Pu.endTo s Pu.nameB (i+1)))) (by simp[results,Tryz.results114,go_sem,c0,c1,hz,tokV,Pu.mkT];rfl) rfl ⟨by rw[uh HT];rfl,?_⟩
  repeat(first|exact hB|refine Below.setCell ?_ (by simp) _)
end
section
open Go Go.RowKit
theorem qbw(w:World)(C:List Value)(t:TypeId)(b:Nat)(hb:b=w.heap.size):∀j u,C[j]? =some u->(w.alloc (.cells C.toArray t)).cell? ((⟨b,0,none⟩:Addr).add j)=some u:=by
 subst hb;exact cells_new w C t
theorem qa3{w:World}{base:Nat}{e:TypeId}{size:Nat}{v:Value}{n:Nat}{xs:List Value}(h:w.ownsRow base e size v n xs):∀k,v.ownBlock=some k->base<=k/\k<w.heap.size:=by
 intro k hk
 obtain⟨h1,h2⟩:=h
 rcases h2 with⟨rfl,_⟩|⟨g,cap,cur,rfl,hg,hh,r⟩
 .simp[Value.ownBlock]at hk
 .simp[Value.ownBlock]at hk
  subst hk
  exact⟨hg,(Array.getElem?_eq_some_iff.1 hh).1⟩
theorem grown_cell{W w3:World}{row:Option Nat}(hg:W.grownBy w3 row)(k o:Nat)(hk:k<W.heap.size)(hne:∀j,row=some j->j≠k):w3.cell? ⟨k,o,none⟩=W.cell? ⟨k,o,none⟩:=
 World.cell?_of_block (a:=⟨k,o,none⟩) (hg.block k hk (fun e=>hne k e.symm rfl))
end
section
open Go Go.RowKit
structure Ox(w:World)(b:Nat)(C:Array Value):Prop where
 c:∀o,w.cell? ⟨b,o,none⟩=C[o]?
 z:b<w.heap.size
theorem Ox.new(w:World)(C:Array Value)(t:TypeId)(b:Nat)(hb:b=w.heap.size):Ox (w.alloc (.cells C t)) b C:=by subst hb;exact⟨fun o=>by simp,by simp⟩
theorem Ox.below{w w':World}{b:Nat}{C:Array Value}(h:Ox w b C)(hb:Below w.heap.size w w'):Ox w' b C:=
 ⟨fun o=>by rw[World.cell?_of_block (a:=⟨b,o,none⟩) (w:=w) (hb.block b h.z)];exact h.c o,Nat.lt_of_lt_of_le h.z hb.size⟩
section
variable {w:World}
def ftV(k i j:Int):Value:=.agg #[.int .i64 k,.int .i64 i,.int .i64 j]
theorem sameFault_C(k i j:Int):Calls Tryz.prog 12 #[ftV k i j,ftV k i j] w fun e w'=>e=.returned (.bool true)/\Below w.heap.size w w':=by
 unfold ftV
 have h0:(k==k)=true:=by simp
 have h1:(i==i)=true:=by simp
 have h2:(j==j)=true:=by simp
 go_enter Tryz.func12,Tryz.ntmps12
 go_wp2_with fail
 go_ret
 exact⟨rfl,((Below.refl _ _).alloc (Nat.le_refl _) _).alloc (by simp) _⟩
end
end
end Go.Proofs.YtoceemjbcgmojaaGreatDoor

import Derived.RegionDies
import Derived.Test.YtoceemjbcgmojaaGreatDoorQPg
set_option linter.all false
set_option maxRecDepth 100000
set_option maxHeartbeats 1000000
namespace Go.Proofs.YtoceemjbcgmojaaGreatDoor
section
open Go Go.RowKit Go.ChangeMaps
section
variable {w:World} {rb sb:Nat} {m:MV} {s:BA} {t:Pu.Tok} {k:Nat}
theorem since_C(h:RD w rb sb m s t k)(i:Int):Calls Tryz.prog 214 #[.pointer (some ⟨rb,0,none⟩),.int .i64 i] w fun e w'=>e=.returned (.agg #[.int .i64 i,.int .i64 (k:Int)])/\Below w.heap.size w w':=by
 obtain⟨c,f,z⟩:=h.bx.alloc (.cells #[.int .i64 0,.int .i64 0] 212)
 clear h
 go_enter Tryz.func214,Tryz.ntmps214
 go_wp2_with fail
 exact bodyPost_ret (v:=.agg #[.int .i64 i,.int .i64 (k:Int)]) (by simp[results,Tryz.results214,go_sem]) rfl ⟨rfl,bw _⟩
theorem qfv(h:RD w rb sb m s t k):Calls Tryz.prog 190 #[.pointer (some ⟨rb,0,none⟩)] w fun e w'=>e=.returned (.agg #[.int .i64 3,.int .i64 (t.frm:Int),.int .i64 (t.to:Int)])/\Below w.heap.size w w':=by
 obtain⟨c,f,z⟩:=h.bx.alloc (.cells #[.int .i64 0,.int .i64 0,.int .i64 0] 231)
 clear h
 go_enter Tryz.func190,Tryz.ntmps190
 go_wp2_with fail
 go_region
 go_wp2_with fail
 exact bodyPost_ret (v:=.agg #[.int .i64 3,.int .i64 (t.frm:Int),.int .i64 (t.to:Int)]) (by simp[results,Tryz.results190,go_sem]) rfl ⟨rfl,(bw _).drew⟩
theorem Bx.drew'{w:World}{b:Nat}{C:Array Value}(h:Bx w b C):Bx w.drew b C:=h.below (Below.refl _ _).drew
theorem Ke.set1(rb:Nat)(w:World)(j:Nat)(v:Value):Ke rb w (w.setCell ⟨rb,j,none⟩ v):=⟨rfl,rfl,rfl,by simp[World.setCell],fun k _ hn=>Below.heap_setCell _ _ _ _ hn⟩
theorem Ke.below'{rb:Nat}{a b c:World}(h:Ke rb a b)(k:Below b.heap.size b c):Ke rb a c:=h.trans (Ke.of k)
abbrev tokC'(t:Pu.Tok):Array Value:=#[.int .i64 (t.frm:Int),.int .i64 (t.to:Int),.string (qaj t),.string t.text]
theorem Bx.setO''{w:World}{b b2:Nat}{C:Array Value}(h:Bx w b C)(hn:b≠b2)(j:Nat)(v:Value):Bx (w.setCell ⟨b2,j,none⟩ v) b C:=
 h.same (by simp[World.setCell]) (Below.heap_setCell _ _ _ _ hn)
theorem Bx.setO4{w:World}{b b2:Nat}{C:Array Value}(h:Bx w b C)(hn:b≠b2)(v0 v1 v2 v3:Value):Bx ((((w.setCell ⟨b2,0,none⟩ v0).setCell ⟨b2,1,none⟩ v1).setCell ⟨b2,2,none⟩ v2).setCell ⟨b2,3,none⟩ v3) b C:=
 (((h.setO'' hn 0 v0).setO'' hn 1 v1).setO'' hn 2 v2).setO'' hn 3 v3
theorem Ke.set4rb{rb:Nat}{a w:World}(h:Ke rb a w)(v0 v1 v2 v3:Value):Ke rb a ((((w.setCell ⟨rb,1,none⟩ v0).setCell ⟨rb,2,none⟩ v1).setCell ⟨rb,3,none⟩ v2).setCell ⟨rb,4,none⟩ v3):=
 (((h.trans (Ke.set1 rb _ 1 v0)).trans (Ke.set1 rb _ 2 v1)).trans (Ke.set1 rb _ 3 v2)).trans (Ke.set1 rb _ 4 v3)
theorem Ke.setNew4{rb:Nat}{a w:World}(h:Ke rb a w){b:Nat}(hb:a.heap.size<=b)(v0 v1 v2 v3:Value):Ke rb a ((((w.setCell ⟨b,0,none⟩ v0).setCell ⟨b,1,none⟩ v1).setCell ⟨b,2,none⟩ v2).setCell ⟨b,3,none⟩ v3):=
 (((h.setNew hb 0 v0).setNew hb 1 v1).setNew hb 2 v2).setNew hb 3 v3
def NextPost(rb sb:Nat)(m:MV)(s:BA)(t:Pu.Tok)(w:World)(e:Ending)(w':World):Prop:=
 Ke rb w w'/\(((qar s t.to).kind≠6/\e=.returned (qbo t)/\RD w' rb sb m s (qar s t.to) t.to)\/((qar s t.to).kind=6/\e=qd3 (flOf (qar s t.to))))
theorem next_C(h:RD w rb sb m s t k)(hs:s.size<=1000)(ht:t.to<=s.size):Calls Tryz.prog 191 #[.pointer (some ⟨rb,0,none⟩)] w (NextPost rb sb m s t w):=by
 have hz:=h.bx.z
 have hne1:rb≠w.heap.size:=by omega
 have hne2:rb≠w.heap.size+1:=by omega
 have R1:=ai ((((h.bx.setS' 5 (.int .i64 (t.to:Int)) (rdC s t t.to m sb) rfl (by simp)).alloc (.cells zPt 236)).alloc (.cells (tokC' t) 236)).drew')
 have D1:Hid (Bx ((((w.setCell ⟨rb,5,none⟩ (.int .i64 (t.to:Int))).alloc (.cells zPt 236)).alloc (.cells (tokC' t) 236)).drew) (w.heap.size+1) (tokC' t)):=ai (by have:=(Bx.new ((w.setCell ⟨rb,5,none⟩ (.int .i64 (t.to:Int))).alloc (.cells zPt 236)) (tokC' t) 236).drew';simpa[World.setCell]using this)
 have D0:Hid (Bx ((((w.setCell ⟨rb,5,none⟩ (.int .i64 (t.to:Int))).alloc (.cells zPt 236)).alloc (.cells (tokC' t) 236)).drew) w.heap.size zPt):=ai (by have:=((Bx.new (w.setCell ⟨rb,5,none⟩ (.int .i64 (t.to:Int))) zPt 236).alloc (.cells (tokC' t) 236)).drew';simpa[World.setCell]using this)
 have K1:Hid (Ke rb w ((((w.setCell ⟨rb,5,none⟩ (.int .i64 (t.to:Int))).alloc (.cells zPt 236)).alloc (.cells (tokC' t) 236)).drew)):=ai ((Ke.set1 rb w 5 (.int .i64 (t.to:Int))).below' (((bw _).alloc (by simp) _).drew))
 have E:∀W,Laid W->Calls Tryz.prog 189 #[.string s,.int .i64 (t.to:Int)] W (TokPost (qar s t.to) W):=fun W hW=>behind_C hW s t.to ht hs
 have HR:=ai h
 have hla:=fun W (hW:Ke rb w W)=>h.la.ke hW h.h2
 obtain⟨c,f,z⟩:=h.bx
 obtain⟨c1,f1,z1⟩:=uh R1
 clear h
 unfold NextPost
 generalize qar s t.to=T at E⊢
 by_cases hk:T.kind=6
 .go_enter Tryz.func191,Tryz.ntmps191
  go_wp2_with fail
  go_region_dies
  all_goals(refine(E _ (hla _ (uh K1))).mono ?_;intro e w2 hp;obtain⟨rfl,hb⟩:=hp.bad hk;exact⟨rfl,(uh K1).below' hb,Or.inr ⟨hk,by rw[guBad T hk];rfl⟩⟩)
 .go_enter Tryz.func191,Tryz.ntmps191
  go_wp2_with fail
  go_region_with(go_at_call 189;refine(E _ (hla _ (uh K1))).mono ?_;intro e w2 hp;obtain⟨rfl,hb⟩:=hp.ok hk;have K2:=ai ((uh K1).below' hb);have R2:=ai ((uh R1).below hb);have D2:=ai ((uh D1).below hb);have G2:=ai ((uh D0).below hb);obtain⟨c2,f2,z2⟩:=uh R2;obtain⟨d2,e2,y2⟩:=uh D2;obtain⟨g2,h2,x2⟩:=uh G2;clear hb)
  all_goals(
   go_wp2_with fail
   have hx:Bx w2 rb (rdC s t t.to m sb):=uh R2
   have F:=(uh R2).set4at (.int .i64 (T.frm:Int)) (.int .i64 (T.to:Int)) (.string (qaj T)) (.string T.text)
   have F2:=F.setO4 hne1 (.int .i64 (t.frm:Int)) (.int .i64 (t.to:Int)) (.string (qaj t)) (.string t.text)
   have G3:=(((((uh G2).setO'' hne1.symm 1 (.int .i64 (T.frm:Int))).setO'' hne1.symm 2 (.int .i64 (T.to:Int))).setO'' hne1.symm 3 (.string (qaj T))).setO'' hne1.symm 4 (.string T.text)).set4 rfl (.int .i64 (t.frm:Int)) (.int .i64 (t.to:Int)) (.string (qaj t)) (.string t.text)
   have K3:=((uh K2).set4rb (.int .i64 (T.frm:Int)) (.int .i64 (T.to:Int)) (.string (qaj T)) (.string T.text)).setNew4 (b:=w.heap.size) (br _) (.int .i64 (t.frm:Int)) (.int .i64 (t.to:Int)) (.string (qaj t)) (.string t.text)
   obtain⟨g3,_,_⟩:=G3
   exact bodyPost_ret (v:=qbo t) (by simp[results,Tryz.results191,go_sem,g3,qbo]) rfl ⟨K3,Or.inl ⟨hk,rfl,(uh HR).ke K3 F2⟩⟩)
end
end
section
open Go Go.RowKit Go.ChangeMaps
theorem NextPost.ok{rb sb:Nat}{m:MV}{s:BA}{t:Pu.Tok}{w:World}{e:Ending}{w':World}(h:NextPost rb sb m s t w e w')(hk:(qar s t.to).kind≠6):e=.returned (.agg #[.int .i64 (t.frm:Int),.int .i64 (t.to:Int),.string (qaj t),.string t.text])/\Ke rb w w'/\RD w' rb sb m s (qar s t.to) t.to:=by
 obtain⟨hb,⟨_,he,hr⟩|⟨hn,_⟩⟩:=h
 .exact⟨he,hb,hr⟩
 .exact absurd hn hk
theorem NextPost.bad{rb sb:Nat}{m:MV}{s:BA}{t:Pu.Tok}{w:World}{e:Ending}{w':World}(h:NextPost rb sb m s t w e w')(hk:(qar s t.to).kind=6):e=qd3 (flOf (qar s t.to))/\Ke rb w w':=by
 obtain⟨hb,⟨hn,_⟩|⟨_,he⟩⟩:=h
 .exact absurd hk hn
 .exact⟨he,hb⟩
theorem Ke.setNew3{rb:Nat}{a w:World}(h:Ke rb a w){b:Nat}(hb:a.heap.size<=b)(v0 v1 v2:Value):Ke rb a (((w.setCell ⟨b,0,none⟩ v0).setCell ⟨b,1,none⟩ v1).setCell ⟨b,2,none⟩ v2):=
 ((h.setNew hb 0 v0).setNew hb 1 v1).setNew hb 2 v2
theorem RD.set{w:World}{rb sb:Nat}{m:MV}{s:BA}{t:Pu.Tok}{k:Nat}(h:RD w rb sb m s t k){b:Nat}(h1:b≠rb)(h2:b≠sb)(h3:2<=b)(j:Nat)(v:Value):RD (w.setCell ⟨b,j,none⟩ v) rb sb m s t k:=by
 have hk:Ke b w (w.setCell ⟨b,j,none⟩ v):=Ke.set1 b w j v
 exact⟨h.bx.setO'' h1.symm j v,h.sm.setC h2.symm j v,h.ne,h.la.ke hk h3,h.h2⟩
theorem RD.set4{w:World}{rb sb:Nat}{m:MV}{s:BA}{t:Pu.Tok}{k:Nat}(h:RD w rb sb m s t k){b:Nat}(h1:b≠rb)(h2:b≠sb)(h3:2<=b)(v0 v1 v2 v3:Value):RD ((((w.setCell ⟨b,0,none⟩ v0).setCell ⟨b,1,none⟩ v1).setCell ⟨b,2,none⟩ v2).setCell ⟨b,3,none⟩ v3) rb sb m s t k:=
 (((h.set h1 h2 h3 0 v0).set h1 h2 h3 1 v1).set h1 h2 h3 2 v2).set h1 h2 h3 3 v3
theorem RD.set3{w:World}{rb sb:Nat}{m:MV}{s:BA}{t:Pu.Tok}{k:Nat}(h:RD w rb sb m s t k){b:Nat}(h1:b≠rb)(h2:b≠sb)(h3:2<=b)(v0 v1 v2:Value):RD (((w.setCell ⟨b,0,none⟩ v0).setCell ⟨b,1,none⟩ v1).setCell ⟨b,2,none⟩ v2) rb sb m s t k:=
 ((h.set h1 h2 h3 0 v0).set h1 h2 h3 1 v1).set h1 h2 h3 2 v2
theorem Bx.ke'{rb:Nat}{w w':World}{b:Nat}{C:Array Value}(h:Bx w b C)(hb:Ke rb w w')(hn:b≠rb):Bx w' b C:=h.same hb.size (hb.block b h.z hn)
section
variable {w:World} {rb sb:Nat} {m:MV} {s:BA} {t:Pu.Tok} {k:Nat}
theorem RD.new_ne(h:RD w rb sb m s t k):w.heap.size≠rb/\w.heap.size≠sb/\2<=w.heap.size:=by
 have h1:=h.bx.z
 have h2:=h.sm.lt
 have h3:=h.la.hz
 omega
theorem qdx(h:RD w rb sb m s t k)(hs:s.size<=1000)(ht:t.to<=s.size)(kd:BA)(hkd:((qaj t).toList==kd.toList)=true):Calls Tryz.prog 108 #[.pointer (some ⟨rb,0,none⟩),.string kd] w (NextPost rb sb m s t w):=by
 obtain⟨n1,n2,n3⟩:=h.new_ne
 have HA:=ai (h.bel (bw (.cells zPt 236)))
 have G0:=ai (Bx.new w zPt 236)
 have K0:=ai (Ke.of (rb:=rb) ((Below.refl _ w).alloc (br _) (.cells zPt 236)))
 obtain⟨c,f,z⟩:=(uh HA).bx
 by_cases hk:(qar s t.to).kind=6
 .go_enter Tryz.func108,Tryz.ntmps108
  go_wp2_with(go_at_call 191;refine(next_C (uh HA) hs ht).mono ?_;intro e w1 hp;obtain⟨rfl,hb⟩:=hp.bad hk;have K1:=ai ((uh K0).trans hb);clear hb)
  exact⟨rfl,uh K1,Or.inr ⟨hk,rfl⟩⟩
 .go_enter Tryz.func108,Tryz.ntmps108
  go_wp2_with(go_at_call 191;refine(next_C (uh HA) hs ht).mono ?_;intro e w1 hp;obtain⟨rfl,hb,hr⟩:=hp.ok hk;have K1:=ai ((uh K0).trans hb);have G1:=ai ((uh G0).ke' hb n1);have R1:=ai hr;obtain⟨g,gf,gz⟩:=uh G1;clear hb hr)
  have BF:=(uh G1).set4 rfl (.int .i64 (t.frm:Int)) (.int .i64 (t.to:Int)) (.string (qaj t)) (.string t.text)
  obtain⟨cF,fF,zF⟩:=BF
  exact bodyPost_ret (v:=qbo t) (by simp[results,Tryz.results108,go_sem,cF,qbo]) rfl ⟨(uh K1).setNew4 (br _) _ _ _ _,Or.inl ⟨hk,rfl,(uh R1).set4 n1 n2 n3 _ _ _ _⟩⟩
theorem take_no(h:RD w rb sb m s t k)(kd:BA)(hkd:((qaj t).toList==kd.toList)=false)(ht:t.kind≠6):Calls Tryz.prog 108 #[.pointer (some ⟨rb,0,none⟩),.string kd] w fun e w'=>e=qd3 (flOf t)/\Ke rb w w':=by
 have HA:=ai (h.bel (bw (.cells zPt 236)))
 have K0:=ai (Ke.of (rb:=rb) ((Below.refl _ w).alloc (br _) (.cells zPt 236)))
 obtain⟨c,f,z⟩:=(uh HA).bx
 go_enter Tryz.func108,Tryz.ntmps108
 go_wp2_with(go_at_call 190;refine(qfv (uh HA)).mono ?_;rintro e w1⟨rfl,hb⟩;have K1:=ai ((uh K0).below' hb);clear hb)
 exact⟨rfl,by rw[flOf,if_neg ht];rfl,uh K1⟩
theorem took_yes(h:RD w rb sb m s t k)(hs:s.size<=1000)(ht:t.to<=s.size)(kd:BA)(hkd:((qaj t).toList==kd.toList)=true):Calls Tryz.prog 213 #[.pointer (some ⟨rb,0,none⟩),.string kd] w fun e w'=>Ke rb w w'/\(((qar s t.to).kind≠6/\e=.returned (.bool true)/\RD w' rb sb m s (qar s t.to) t.to)\/((qar s t.to).kind=6/\e=qd3 (flOf (qar s t.to)))):=by
 obtain⟨c,f,z⟩:=h.bx
 have HA:=ai h
 by_cases hk:(qar s t.to).kind=6
 .go_enter Tryz.func213,Tryz.ntmps213
  go_wp2_with(go_at_call 191;refine(next_C (uh HA) hs ht).mono ?_;intro e w1 hp;obtain⟨rfl,hb⟩:=hp.bad hk;have K1:=ai hb;clear hb)
  exact⟨rfl,uh K1,Or.inr ⟨hk,rfl⟩⟩
 .go_enter Tryz.func213,Tryz.ntmps213
  go_wp2_with(go_at_call 191;refine(next_C (uh HA) hs ht).mono ?_;intro e w1 hp;obtain⟨rfl,hb,hr⟩:=hp.ok hk;have K1:=ai hb;have R1:=ai hr;clear hb hr)
  go_ret
  exact⟨uh K1,Or.inl ⟨hk,rfl,uh R1⟩⟩
theorem took_no(h:RD w rb sb m s t k)(kd:BA)(hkd:((qaj t).toList==kd.toList)=false):Calls Tryz.prog 213 #[.pointer (some ⟨rb,0,none⟩),.string kd] w fun e w'=>e=.returned (.bool false)/\w'=w:=by
 obtain⟨c,f,z⟩:=h.bx
 clear h
 go_enter Tryz.func213,Tryz.ntmps213
 go_wp2_with fail
 go_ret
 exact⟨rfl,rfl⟩
end
end
section
open Go Go.RowKit Go.ChangeMaps
def UpN(s:BA):Prop:=∃x r,s.toList=x::r/\Pu.upB x.toNat=true
structure qd5(t:Pu.Tok):Prop where
 kd:t.kind=1\/t.kind=2\/t.kind=3\/t.kind=4\/t.kind=5\/t.kind=6\/t.kind=7
 s5:t.kind=5->t.text.size<=5
 v3:t.kind=3->∃r,t.text.toList=39::r
 v2:t.kind=2->UpN t.text
theorem wordB_size{s:BA}(h:Pu.wordB s=true):s.size<=5:=by
 unfold Pu.wordB at h
 rw[List.any_eq_true]at h
 obtain⟨x,hx,he⟩:=h
 rw[beq_iff_eq]at he
 have:s.toList.length<=5:=by
  rw[<-he]
  clear he
  revert x
  simp[Pu.words,ByteArray.toList_eq]
  decide
 rw[ByteArray.toList_eq]at this
 simpa using this
theorem qev{s:BA}{i j:Nat}(hi:i<s.size)(hj:i<j):(s.extract i j).toList=s[i]::(s.extract (i+1) j).toList:=by
 rw[ByteArray.toList_eq,ByteArray.toList_eq,ByteArray.data_extract,ByteArray.data_extract]
 apply List.ext_getElem?
 intro k
 cases k with
 |zero=>
  simp
  rw[List.getElem?_take_of_lt (by omega)]
  simp
  rw[Array.getElem?_eq_getElem (by simpa using hi)]
  rfl
 |succ k=>
  simp
  by_cases hk:k+1<j-i
  .rw[List.getElem?_take_of_lt hk,List.getElem?_take_of_lt (by omega)]
   simp
   congr 1
   omega
  .rw[List.getElem?_take_eq_none (by omega),List.getElem?_take_eq_none (by omega)]
theorem tokAt_ok(s:BA)(i:Nat)(hi:i<s.size):qd5 (Pu.tokAt s i):=by
 unfold Pu.tokAt
 have ex:∀a b:Nat,(s.extract a b).size<=b-a:=fun a b=>by simp[ByteArray.size_extract];omega
 repeat' split
 all_goals refine⟨by simp[Pu.mkT],?_,?_,?_⟩
 all_goals intro q
 all_goals try(exfalso;simp[Pu.mkT]at q;done)
 .rename_i h;exact wordB_size h
 .rename_i h2
  have hge:=Pu.endTo_ge s Pu.nameB i
  have hup:Pu.nameB (Pu.at_ s i)=true:=by unfold Pu.nameB;simp[h2]
  have hgt:i<Pu.endTo s Pu.nameB i:=by rw[Pu.endTo_yes hi hup];exact Nat.lt_of_lt_of_le (Nat.lt_succ_self i) (Pu.endTo_ge s Pu.nameB (i+1))
  exact⟨_,_,qev hi hgt,by rw[<-Pu.at_lt hi];exact h2⟩
 .rename_i h3 h4
  have hat:s[i].toNat=39:=by rw[<-Pu.at_lt hi];exact h3.1
  have hge:=Pu.endTo_ge s Pu.nameB (i+1)
  have e9:s[i]=39:=UInt8.toNat_inj.1 hat
  exact⟨_,by rw[<-e9];exact qev hi (by omega)⟩
 .exact Nat.le_trans (ex _ _) (by omega)
 .exact Nat.le_trans (ex _ _) (by omega)
theorem nextTok_ok(s:BA)(p:Nat):qd5 (qar s p):=by
 unfold qar
 split
 .rename_i h;exact tokAt_ok s _ h
 .exact⟨by simp[Pu.endTok],by simp[Pu.endTok],by simp[Pu.endTok],by simp[Pu.endTok]⟩
theorem nextTok_to(s:BA)(p:Nat):(qar s p).to<=s.size:=by
 unfold qar
 split
 .rename_i h;exact(Pu.tokAt_to s _ h).2
 .simp[Pu.endTok]
theorem toks_drop(s:BA):∀k,k<(Pu.toks s 0).length->(Pu.toks s 0).drop k=Pu.toks s (qan (Pu.toks s 0) k)/\qan (Pu.toks s 0) k<=s.size:=by
 intro k
 induction k with
 |zero=>intro _;exact⟨by simp[qan],by simp[qan]⟩|succ k ih=>
  intro hk
  obtain⟨h1,h2⟩:=ih (by omega)
  have h3:=toks_next s (qan (Pu.toks s 0) k) h2
  rw[<-h1]at h3
  have hd:(Pu.toks s 0).drop k=tk (Pu.toks s 0) k::(Pu.toks s 0).drop (k+1):=by
   rw[<-tk_eq (by omega)]
   exact List.drop_eq_getElem_cons (by omega)
  have hl:((Pu.toks s 0).drop (k+1)).length≠0:=by simp;omega
  rw[hd]at h3
  split at h3
  .exfalso
   injection h3 with _ h4
   rw[h4]at hl
   simp at hl
  .injection h3 with h4 h5
   rw[<-h4]at h5
   refine⟨?_,?_⟩
   .rw[h5];simp[qan]
   .simp only[qan,Nat.add_sub_cancel]
    rw[if_neg (by omega),h4]
    exact nextTok_to s _
theorem tk_next(s:BA)(k:Nat)(hk:k<(Pu.toks s 0).length):tk (Pu.toks s 0) k=qar s (qan (Pu.toks s 0) k):=by
 obtain⟨h1,h2⟩:=toks_drop s k hk
 have h3:=toks_next s (qan (Pu.toks s 0) k) h2
 rw[<-h1]at h3
 have hd:(Pu.toks s 0).drop k=tk (Pu.toks s 0) k::(Pu.toks s 0).drop (k+1):=by
  rw[<-tk_eq hk]
  exact List.drop_eq_getElem_cons hk
 rw[hd]at h3
 split at h3
 .rename_i h7
  injection h3 with h4 _
  rw[h4]
  unfold qar at h7⊢
  split at h7
  .exfalso
   revert h7
   unfold Pu.tokAt
   repeat' split
   all_goals simp[Pu.mkT]
  .rename_i hn
   rw[if_neg hn]
 .injection h3 with h4 _
theorem qdb(s:BA)(k:Nat)(hk:k<(Pu.toks s 0).length):qd5 (tk (Pu.toks s 0) k):=by rw[tk_next s k hk];exact nextTok_ok s _
theorem tk_to(s:BA)(k:Nat)(hk:k<(Pu.toks s 0).length):(tk (Pu.toks s 0) k).to<=s.size:=by rw[tk_next s k hk];exact nextTok_to s _
theorem qf3(s:BA)(k:Nat)(hk:k<(Pu.toks s 0).length)(h7:(tk (Pu.toks s 0) k).kind≠7):k+1<(Pu.toks s 0).length/\qar s (tk (Pu.toks s 0) k).to=tk (Pu.toks s 0) (k+1)/\qan (Pu.toks s 0) (k+1)=(tk (Pu.toks s 0) k).to:=by
 have hl:qan (Pu.toks s 0) (k+1)=(tk (Pu.toks s 0) k).to:=by simp[qan]
 obtain⟨h1,h2⟩:=toks_drop s k hk
 have h3:=toks_next s (qan (Pu.toks s 0) k) h2
 rw[<-h1,<-tk_next s k hk,if_neg h7]at h3
 have hne:Pu.toks s (tk (Pu.toks s 0) k).to≠[]:=by
  rw[toks_next s _ (tk_to s k hk)]
  split<;>simp
 have hlt:k+1<(Pu.toks s 0).length:=by
  have:=congrArg List.length h3
  simp at this
  have h5:0<(Pu.toks s (tk (Pu.toks s 0) k).to).length:=by
   cases h:Pu.toks s (tk (Pu.toks s 0) k).to with
   |nil=>exact absurd h hne|cons _ _=>simp
  omega
 exact⟨hlt,by rw[<-hl,<-tk_next s (k+1) hlt],hl⟩
theorem qc7{t:Pu.Tok}(h:t.kind=1):qaj t=⟨#[108,111,119,32,110,97,109,101]⟩:=by unfold qaj;simp[h]
theorem qc0{t:Pu.Tok}(h:t.kind=2):qaj t=⟨#[117,112,32,110,97,109,101]⟩:=by unfold qaj;simp[h]
theorem qc1{t:Pu.Tok}(h:t.kind=3):qaj t=⟨#[97,32,118,97,114,105,97,98,108,101]⟩:=by unfold qaj;simp[h]
theorem qc8{t:Pu.Tok}(h:t.kind=4):qaj t=⟨#[97,32,110,117,109,98,101,114]⟩:=by unfold qaj;simp[h]
theorem qdi{t:Pu.Tok}(h:t.kind=5):qaj t=t.text:=by unfold qaj;simp[h]
theorem qc9{t:Pu.Tok}(h:t.kind=7):qaj t=⟨#[116,104,101,32,101,110,100]⟩:=by unfold qaj;simp[h]
theorem qdv{t:Pu.Tok}(h:qd5 t)(hk:t.kind≠6){kd:BA}(hs:kd.size<=2):((qaj t).toList==kd.toList)=isT t kd:=by
 have hkl:kd.toList.length<=2:=by rw[ByteArray.toList_eq];simpa using hs
 have key:∀(l:BA),2<l.toList.length->(l.toList==kd.toList)=false:=by
  intro l hl
  rw[<-Bool.not_eq_true,beq_iff_eq]
  intro e
  rw[e]at hl
  omega
 unfold isT
 obtain h|h|h|h|h|h|h:=h.kd
 .rw[qc7 h,key _ (by simp[ByteArray.toList_eq]),h];rfl
 .rw[qc0 h,key _ (by simp[ByteArray.toList_eq]),h];rfl
 .rw[qc1 h,key _ (by simp[ByteArray.toList_eq]),h];rfl
 .rw[qc8 h,key _ (by simp[ByteArray.toList_eq]),h];rfl
 .rw[qdi h,h];simp
 .exact absurd h hk
 .rw[qc9 h,key _ (by simp[ByteArray.toList_eq]),h];rfl
theorem qfg{t:Pu.Tok}(h:qd5 t)(hk:t.kind≠6){kd:BA}(hs:5<kd.size)(h5:t.kind=5):((qaj t).toList==kd.toList)=false:=by
 rw[<-Bool.not_eq_true,beq_iff_eq]
 intro e
 have:qaj t=t.text:=by unfold qaj;simp[h5]
 rw[this]at e
 have h1:=h.s5 h5
 have h2:=congrArg List.length e
 rw[ByteArray.toList_eq,ByteArray.toList_eq]at h2
 simp at h2
 omega
theorem kind_up{t:Pu.Tok}(h:qd5 t)(hk:t.kind≠6):((qaj t).toList==kUp.toList)=(t.kind==2):=by
 obtain h'|h'|h'|h'|h'|h'|h':=h.kd
 .rw[qc7 h',h'];simp[ByteArray.toList_eq]
 .rw[qc0 h',h'];simp[ByteArray.toList_eq]
 .rw[qc1 h',h'];simp[ByteArray.toList_eq]
 .rw[qc8 h',h'];simp[ByteArray.toList_eq]
 .rw[qfg h hk (by decide) h'];simp[h']
 .exact absurd h' hk
 .rw[qc9 h',h'];simp[ByteArray.toList_eq]
theorem kind_end{t:Pu.Tok}(h:qd5 t)(hk:t.kind≠6):((qaj t).toList==[116,104,101,32,101,110,100])=(t.kind==7):=by
 obtain h'|h'|h'|h'|h'|h'|h':=h.kd
 .rw[qc7 h',h'];simp[ByteArray.toList_eq]
 .rw[qc0 h',h'];simp[ByteArray.toList_eq]
 .rw[qc1 h',h'];simp[ByteArray.toList_eq]
 .rw[qc8 h',h'];simp[ByteArray.toList_eq]
 .have:=qfg (kd:=⟨#[116,104,101,32,101,110,100]⟩) h hk (by decide) h'
  rw[show(ByteArray.mk #[116,104,101,32,101,110,100]).toList=[116,104,101,32,101,110,100]from qab _]at this
  rw[this];simp[h']
 .exact absurd h' hk
 .rw[qc9 h',h'];simp[ByteArray.toList_eq]
theorem got_small{t:Pu.Tok}(h:qd5 t)(hk:t.kind≠6)(rb:Nat):got (qaj t) (smL rb)=if t.kind=3 then some (.func (.func 278) #[.pointer (some ⟨rb,0,none⟩)] #[])else if t.kind=2 then some (.func (.func 279) #[.pointer (some ⟨rb,0,none⟩)] #[])else if isT t kOpn=true then some (.func (.func 280) #[.pointer (some ⟨rb,0,none⟩)] #[])else none:=by
 have e1:∀(x:BA),(x=qaj t)↔((qaj t).toList==x.toList)=true:=fun x=>by
  rw[beq_iff_eq,ByteArray.toList_eq,ByteArray.toList_eq]
  constructor
  .intro q;rw[q]
  .intro q
   cases x;cases hq:qaj t
   rw[hq]at q
   simp at q
   congr 1
   exact q.symm
 unfold smL got
 unfold got
 unfold got
 unfold got
 simp only[e1]
 rw[kind_up h hk,qdv h hk (kd:=kOpn) (by decide)]
 obtain h'|h'|h'|h'|h'|h'|h':=h.kd
 .have:((qaj t).toList==kVar.toList)=false:=by rw[qc7 h'];simp[ByteArray.toList_eq]
  rw[this];simp[h',isT]
 .have:((qaj t).toList==kVar.toList)=false:=by rw[qc0 h'];simp[ByteArray.toList_eq]
  rw[this];simp[h']
 .have:((qaj t).toList==kVar.toList)=true:=by rw[qc1 h'];simp[ByteArray.toList_eq]
  rw[this];simp[h']
 .have:((qaj t).toList==kVar.toList)=false:=by rw[qc8 h'];simp[ByteArray.toList_eq]
  rw[this];simp[h',isT]
 .rw[qfg h hk (by decide) h'];simp[h']
 .exact absurd h' hk
 .have:((qaj t).toList==kVar.toList)=false:=by rw[qc9 h'];simp[ByteArray.toList_eq]
  rw[this];simp[h',isT]
end
end Go.Proofs.YtoceemjbcgmojaaGreatDoor

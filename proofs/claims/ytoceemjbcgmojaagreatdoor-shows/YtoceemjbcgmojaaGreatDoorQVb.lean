import Derived.Test.YtoceemjbcgmojaaGreatDoorQTp
import Derived.Test.YtoceemjbcgmojaaGreatDoorQVa
set_option linter.all false
set_option maxRecDepth 100000
set_option maxHeartbeats 10000000
namespace Go.Proofs.YtoceemjbcgmojaaGreatDoor
section
open Go Go.RowKit Go.ChangeMaps Un
structure PN(w:World)(B pb:Nat)(bv:Value)(l:List UInt8)(last:BA)(mv:Value):Prop where
 bk:∃ad,w.heap[pb]? =some (.cells #[ad,bv,.string last,mv] 137 (0,0))/\(ad=.pointer none\/ad=.pointer (some ⟨pb,0,none⟩))
 ow:w.ownsRow B 5 1 bv l.length (Lib.byteCells l)
 nl:l=[]->bv=.slice none 0 0
 hb:B<=w.heap.size
def SP(pb:Nat)(bv:Value)(b:Nat):Prop:=b=pb\/bv.ownBlock=some b
def Nby(w:World)(b:Nat):Prop:=∀x,w.cell? ⟨b,0,none⟩=some x->∀c,x≠.int .u8 c
theorem PN.cellB{w:World}{B pb:Nat}{bv:Value}{l:List UInt8}{last:BA}{mv:Value}(h:PN w B pb bv l last mv){q:Nat}(hq:bv.ownBlock=some q):∃c,w.cell? ⟨q,0,none⟩=some (.int .u8 c):=by
 cases l with
 |nil=>rw[h.nl rfl]at hq;simp[Value.ownBlock]at hq|cons x r=>
  obtain⟨_,h2⟩:=h.ow
  rcases h2 with⟨h3,_⟩|⟨g,cap,cur,hv,_,hh,_,_,_,ht⟩
  .rw[h3]at hq;simp[Value.ownBlock]at hq
  .rw[hv]at hq
   simp[Value.ownBlock]at hq
   subst hq
   refine⟨x.toNat,?_⟩
   simp only[World.cell?,hh]
   have h0:(cur.toList.take ((x::r).length*1))[0]? =some (.int .u8 x.toNat):=by rw[ht];simp[Lib.byteCells]
   rw[List.getElem?_take_of_lt (by simp)]at h0
   simpa using h0
theorem PN.ne{w:World}{B pb:Nat}{bv:Value}{l:List UInt8}{last:BA}{mv:Value}(h:PN w B pb bv l last mv){b:Nat}(hb:Nby w b):bv.ownBlock≠some b:=fun e=>by
 obtain⟨c,hc⟩:=h.cellB e
 exact hb _ hc c rfl
theorem PN.lt{w:World}{B pb:Nat}{bv:Value}{l:List UInt8}{last:BA}{mv:Value}(h:PN w B pb bv l last mv):pb<w.heap.size:=by
 obtain⟨ad,hb,_⟩:=h.bk
 exact(Array.getElem?_eq_some_iff.1 hb).1
theorem PN.pbN{w:World}{B pb:Nat}{bv:Value}{l:List UInt8}{last:BA}{mv:Value}(h:PN w B pb bv l last mv):Nby w pb:=fun x hx c e=>by
 obtain⟨ad,hb,ha⟩:=h.bk
 simp[World.cell?,hb]at hx
 subst hx
 rcases ha with rfl|rfl<;>cases e
theorem PN.same{w w':World}{B pb:Nat}{bv:Value}{l:List UInt8}{last:BA}{mv:Value}(h:PN w B pb bv l last mv)(hs:w.heap.size<=w'.heap.size)(hb:∀b,b<w.heap.size->SP pb bv b->w'.heap[b]? =w.heap[b]?):PN w' B pb bv l last mv:=by
 obtain⟨ad,h1,h2⟩:=h.bk
 refine⟨⟨ad,(hb pb h.lt (Or.inl rfl)).trans h1,h2⟩,?_,h.nl,Nat.le_trans h.hb hs⟩
 obtain⟨g1,g2⟩:=h.ow
 refine⟨g1,?_⟩
 rcases g2 with g2|⟨g,cap,cur,hv,hg,hh,r⟩
 .exact Or.inl g2
 .refine Or.inr ⟨g,cap,cur,hv,hg,?_,r⟩
  rw[hb g (Array.getElem?_eq_some_iff.1 hh).1 (Or.inr (by rw[hv];rfl)),hh]
theorem PN.bel{w w':World}{B pb:Nat}{bv:Value}{l:List UInt8}{last:BA}{mv:Value}(h:PN w B pb bv l last mv)(hb:Below w.heap.size w w'):PN w' B pb bv l last mv:=h.same hb.size fun b z _=>hb.block b z
theorem Nby.same{w w':World}{b:Nat}(h:Nby w b)(hb:w'.heap[b]? =w.heap[b]?):Nby w' b:=fun x hx=>h x (by rw[<-World.cell?_of_block (a:=⟨b,0,none⟩) (w:=w) hb];exact hx)
section
variable {w:World} {B pb:Nat} {bv:Value} {l:List UInt8} {last:BA} {mv:Value}
theorem qd2{w:World}{b:Nat}{C:Array Value}{t:TypeId}{fz:Nat×Nat}(h:w.heap[b]? =some (.cells C t fz))(j:Nat)(v:Value):(w.setCell ⟨b,j,none⟩ v).heap[b]? =some (.cells (C.setIfInBounds j v) t fz):=by
 have hlt:=(Array.getElem?_eq_some_iff.1 h).1
 simp[World.setCell,Array.getElem?_modify,h]
theorem One.cell(w:World)(b j:Nat)(v:Value):One b w (w.setCell ⟨b,j,none⟩ v):=⟨rfl,rfl,rfl,by simp[World.setCell],fun k hk=>Below.heap_setCell _ _ _ _ hk⟩
theorem own_one{w w':World}{c base:Nat}{e:TypeId}{size:Nat}{v:Value}{n:Nat}{xs:List Value}(h:w.ownsRow base e size v n xs)(o:One c w w')(hne:v.ownBlock≠some c):w'.ownsRow base e size v n xs:=by
 obtain⟨g1,g2⟩:=h
 refine⟨g1,?_⟩
 rcases g2 with g2|⟨g,cap,cur,hv,hg,hh,r⟩
 .exact Or.inl g2
 .refine Or.inr ⟨g,cap,cur,hv,hg,?_,r⟩
  rw[o.block g (fun e=>hne (by rw[hv,<-e];rfl)),hh]
theorem after_app{W w2:World}{pb:Nat}{o:Obj}{row:Option Nat}(hg:W.grownBy w2 row)(hb:W.heap[pb]? =some o)(hn:row≠some pb):w2.heap[pb]? =some o:=(hg.block pb (Array.getElem?_eq_some_iff.1 hb).1 (fun e=>hn e.symm)).trans hb
theorem own_sliceP{w:World}{base:Nat}{e:TypeId}{size:Nat}{v:Value}{n:Nat}{xs:List Value}(h:w.ownsRow base e size v n xs):∃ao n' cap,v=.slice ao n' cap:=by
 rcases h.2 with⟨hv,_⟩|⟨g,cap,cur,hv,_⟩
 .exact⟨_,_,_,hv⟩
 .exact⟨_,_,_,hv⟩
theorem builderInfo:(Tryz.prog.info? 134).map (fun i=>i.size)=some 2:=by kernel_rfl
theorem liesPen:liesAt Tryz.prog Tryz.prog.depth 137 (4/Tryz.prog.cellsOf 137) 0 134 1=true:=by kernel_rfl
theorem noEsc(p:Value)(w:World):(callFunc 353 #[p]).run Tryz.prog w=.ok (.value p) w:=by kernel_rfl
theorem byteInfo:(Tryz.prog.info? 5).map (fun i=>(i.zero,i.size,i.bytes))=some (some (.int .u8 0),1,1):=by kernel_rfl
theorem bytesUnder':Tryz.prog.underlying 132=some (.slice 5):=by kernel_rfl
theorem copyCheck_C(ad:Value)(had:ad=.pointer none\/ad=.pointer (some ⟨pb,0,none⟩))(x1 x2 x3:Value)(h:w.heap[pb]? =some (.cells #[ad,x1,x2,x3] 137 (0,0))):
 Calls Tryz.prog 303 #[.pointer (some ⟨pb,0,none⟩)] w fun e w'=>e=.returned (.tuple #[])/\w'.heap[pb]? =some (.cells #[.pointer (some ⟨pb,0,none⟩),x1,x2,x3] 137 (0,0))/\One pb w w':=by
 obtain⟨j,hj,hjs⟩:=Option.map_eq_some_iff.1 builderInfo
 have c0:w.cell? ⟨pb,0,none⟩=some ad:=by simp[World.cell?,h]
 have f0:w.frozen? ⟨pb,0,none⟩=false:=by simp[World.frozen?,h]
 have hsh:w.shape? pb=some (137,4):=by simp[World.shape?,h]
 rcases had with rfl|rfl
 .have hn:=noEsc
  have ht:=Lib.run_to_unsafe (P:=Tryz.prog) w ⟨pb,0,none⟩ Tryz.underlying131 Tryz.underlying519 hj (by omega) hsh (by show 0<4;decide)
  have hf:=Lib.run_from_unsafe (P:=Tryz.prog) w ⟨pb,0,none⟩ Tryz.underlying519 Tryz.underlying131 hj hsh liesPen
  have hne:∀W:World,(binOp .neq 131 (.pointer (some ⟨pb,0,none⟩)) (.pointer (some ⟨pb,0,none⟩))).run Tryz.prog W=.ok (.bool false) W:=fun W=>Lib.run_neq_ptr_same W _ Tryz.underlying131 hj
  go_enter Tryz.func303,Tryz.ntmps303
  go_wp2_with fail
  go_end0
  exact⟨rfl,(qd2 h 0 _).trans (by simp),One.cell _ _ _ _⟩
 .have hne:∀W:World,(binOp .neq 131 (.pointer (some ⟨pb,0,none⟩)) (.pointer (some ⟨pb,0,none⟩))).run Tryz.prog W=.ok (.bool false) W:=fun W=>Lib.run_neq_ptr_same W _ Tryz.underlying131 hj
  go_enter Tryz.func303,Tryz.ntmps303
  go_wp2_with fail
  go_end0
  exact⟨rfl,h,⟨rfl,rfl,rfl,rfl,fun _ _=>rfl⟩⟩
theorem writeByte_C(h:PN w B pb bv l last mv)(c:UInt8)(hl:l.length<=1000000):Calls Tryz.prog 197 #[.pointer (some ⟨pb,0,none⟩),.int .u8 (c.toNat:Int)] w fun e w'=>e=.returned .nilIface/\∃bv',PN w' B pb bv' (l++[c]) last mv/\Fr (SP pb bv) w w':=by
 obtain⟨i0,hi0,hz0,hz1,hz2⟩:=info_parts byteInfo
 have HN:=ai h
 have hpn:=h.ne h.pbN
 have hlt:=h.lt
 have hBw:=h.hb
 obtain⟨ad,hbk,had⟩:=h.bk
 have how:=ai h.ow
 have hnl:=ai h.nl
 clear h
 go_enter Tryz.func197,Tryz.ntmps197
 go_wp2_with(first|(go_at_call 303;refine(copyCheck_C ad had _ _ _ hbk).mono ?_;rintro e w1⟨rfl,hb1,o1⟩;have c0:w1.cell? ⟨pb,0,none⟩=some (.pointer (some ⟨pb,0,none⟩)):=(by simp[World.cell?,hb1]);have c1:w1.cell? ⟨pb,1,none⟩=some bv:=(by simp[World.cell?,hb1]);have O1:=ai o1;have HB1:=ai hb1;have Hz1:=ai o1.size;have hown1:=ai (own_one (uh how) o1 hpn);clear o1 hb1 hbk)|(at_builtin;go_must(refine wpList_append_own_at _ rfl (.tmp 11) (.tmp 13) 132 rfl B 5 i0 _ 1 1 bytesUnder' hi0 hz0 hz1 hz2 rfl (by decide) bv l.length _ rfl ((uh hown1).alloc _) ⟨w1.heap.size,0,none⟩ 1 1 [.int .u8 (c.toNat:Int)] rfl rfl (qbw _ _ _ _ (by simp)) (by intro u hu;simp at hu;subst hu;rfl) (by unfold maxLen;omega) (by omega) (by have:=uh Hz1;simp;omega) ?_;intro v2 w2 hown2 hg2 hnil2 hloc2;have hb2:=after_app hg2 ((Below.heap_alloc _ _ _ (by have:=uh Hz1;omega)).trans (uh HB1)) hpn;have d0:w2.cell? ⟨pb,0,none⟩=some (.pointer (some ⟨pb,0,none⟩)):=(by simp[World.cell?,hb2]);have d1:w2.cell? ⟨pb,1,none⟩=some bv:=(by simp[World.cell?,hb2]);have f1:w2.frozen? ⟨pb,1,none⟩=false:=(by simp[World.frozen?,hb2]);obtain⟨ao,n',cap,hv2⟩:=own_sliceP hown2;subst hv2;have HB2:=ai hb2;clear hb2;have Hown2:=ai hown2;have Hg2:=ai hg2;clear hown2 hg2 hnil2 hloc2)))
 go_ret
 have hnp:(Value.slice ao n' cap).ownBlock≠some pb:=fun e=>by
  rcases(uh Hown2).2 with⟨hv,_⟩|⟨g,cap',cur,hv,_,hh,_⟩
  .rw[hv]at e;simp[Value.ownBlock]at e
  .rw[hv]at e
   simp[Value.ownBlock]at e
   subst e
   rw[uh HB2]at hh
   simp at hh
 refine⟨rfl,.slice ao n' cap,⟨⟨_,(qd2 (uh HB2) 1 _).trans (by simp),Or.inr rfl⟩,?_,?_,?_⟩,?_⟩
 .have hO:=uh Hown2
  obtain⟨g1,g2⟩:=hO
  have e1:Lib.byteCells (l++[c])=Lib.byteCells l++[.int .u8 (c.toNat:Int)]:=by simp[Lib.byteCells]
  have e2:(l++[c]).length=l.length+1:=by simp
  rw[e1,e2]
  refine⟨g1,?_⟩
  rcases g2 with g2|⟨g,cap',cur,hv,hg,hh,r⟩
  .exact Or.inl g2
  .refine Or.inr ⟨g,cap',cur,hv,hg,?_,r⟩
   rw[Below.heap_setCell _ _ _ _ (by show g≠pb;intro e;exact hnp (by rw[hv,e];rfl)),hh]
 .intro q;simp at q
 .have:=(uh Hg2).size;have:=uh Hz1;simp[World.setCell]at*;omega
 .have hO:=uh O1
  have hG:=uh Hg2
  refine⟨(hG.os).trans hO.os,hG.tape.trans hO.tape,hG.output.trans hO.output,by simp[World.setCell];have:=hG.size;have:=uh Hz1;simp at*;omega,fun k hk hn=>?_⟩
  rw[Below.heap_setCell _ _ _ _ (by show k≠pb;intro e;exact hn (Or.inl e)),hG.block k (by have:=uh Hz1;simp;omega) (fun e=>hn (Or.inr e.symm)),Below.heap_alloc _ _ _ (by have:=uh Hz1;omega)]
  exact hO.block k (fun e=>hn (Or.inl e))
theorem qeh(h:PN w B pb bv l last mv)(s:BA)(hs:s.size<=100000)(hl:l.length<=1000000):Calls Tryz.prog 299 #[.pointer (some ⟨pb,0,none⟩),.string s] w fun e w'=>e=.returned (.tuple #[.int .i64 (s.size:Int),.nilIface])/\∃bv',PN w' B pb bv' (l++s.data.toList) last mv/\Fr (SP pb bv) w w':=by
 obtain⟨i0,hi0,hz0,hz1,hz2⟩:=info_parts byteInfo
 have HN:=ai h
 have hpn:=h.ne h.pbN
 have hlt:=h.lt
 have hBw:=h.hb
 obtain⟨ad,hbk,had⟩:=h.bk
 have how:=ai h.ow
 have hnl:=ai h.nl
 clear h
 go_enter Tryz.func299,Tryz.ntmps299
 go_wp2_with(first|(go_at_call 303;refine(copyCheck_C ad had _ _ _ hbk).mono ?_;rintro e w1⟨rfl,hb1,o1⟩;have c0:w1.cell? ⟨pb,0,none⟩=some (.pointer (some ⟨pb,0,none⟩)):=(by simp[World.cell?,hb1]);have c1:w1.cell? ⟨pb,1,none⟩=some bv:=(by simp[World.cell?,hb1]);have O1:=ai o1;have HB1:=ai hb1;have Hz1:=ai o1.size;have hown1:=ai (own_one (uh how) o1 hpn);clear o1 hb1 hbk)|(at_builtin;go_must(refine Lib.wpList_append_own_string _ rfl (.tmp 12) (.tmp 13) 132 9 rfl B 5 i0 bytesUnder' Tryz.underlying9 hi0 hz0 hz1 hz2 bv l.length _ rfl (uh hown1) s rfl (by unfold maxLen;omega) (by omega) (by have:=uh Hz1;omega) ?_;intro v2 w2 hown2 hg2 hnil2;have hb2:=after_app hg2 (uh HB1) hpn;have d0:w2.cell? ⟨pb,0,none⟩=some (.pointer (some ⟨pb,0,none⟩)):=(by simp[World.cell?,hb2]);have d1:w2.cell? ⟨pb,1,none⟩=some bv:=(by simp[World.cell?,hb2]);have f1:w2.frozen? ⟨pb,1,none⟩=false:=(by simp[World.frozen?,hb2]);obtain⟨ao,n',cap,hv2⟩:=own_sliceP hown2;subst hv2;have HB2:=ai hb2;clear hb2;have Hown2:=ai hown2;have Hg2:=ai hg2;have Hn2:=ai hnil2;clear hown2 hg2 hnil2)))
 go_ret2
 have hnp:(Value.slice ao n' cap).ownBlock≠some pb:=fun e=>by
  rcases(uh Hown2).2 with⟨hv,_⟩|⟨g,cap',cur,hv,_,hh,_⟩
  .rw[hv]at e;simp[Value.ownBlock]at e
  .rw[hv]at e
   simp[Value.ownBlock]at e
   subst e
   rw[uh HB2]at hh
   simp at hh
 refine⟨rfl,.slice ao n' cap,⟨⟨_,(qd2 (uh HB2) 1 _).trans (by simp),Or.inr rfl⟩,?_,?_,?_⟩,?_⟩
 .have hO:=uh Hown2
  obtain⟨g1,g2⟩:=hO
  have e1:Lib.byteCells (l++s.data.toList)=Lib.byteCells l++Lib.strCells s:=by simp[Lib.byteCells,Lib.strCells]
  have e2:(l++s.data.toList).length=l.length+s.size:=by simp
  rw[e1,e2]
  refine⟨g1,?_⟩
  rcases g2 with g2|⟨g,cap',cur,hv,hg,hh,r⟩
  .exact Or.inl g2
  .refine Or.inr ⟨g,cap',cur,hv,hg,?_,r⟩
   rw[Below.heap_setCell _ _ _ _ (by show g≠pb;intro e;exact hnp (by rw[hv,e];rfl)),hh]
 .intro q
  have q':l=[]/\s.data.toList=[]:=by simpa using q
  exact(uh Hn2).2 ⟨uh hnl q'.1,by have:=congrArg List.length q'.2;simpa using this⟩
 .have:=(uh Hg2).size;have:=uh Hz1;simp[World.setCell]at*;omega
 .have hO:=uh O1
  have hG:=uh Hg2
  refine⟨(hG.os).trans hO.os,hG.tape.trans hO.tape,hG.output.trans hO.output,by simp[World.setCell];have:=hG.size;have:=uh Hz1;omega,fun k hk hn=>?_⟩
  rw[Below.heap_setCell _ _ _ _ (by show k≠pb;intro e;exact hn (Or.inl e)),hG.block k (by have:=uh Hz1;omega) (fun e=>hn (Or.inr e.symm))]
  exact hO.block k (fun e=>hn (Or.inl e))
theorem string_C(h:PN w B pb bv l last mv)(h0:l≠[]):Calls Tryz.prog 53 #[.pointer (some ⟨pb,0,none⟩)] w fun e w'=>e=.returned (.string (bs l))/\Fr (SP pb bv) w w':=by
 have hl0:l.length≠0:=by simpa using h0
 obtain⟨ad,hbk,_⟩:=h.bk
 have hown:=h.ow
 obtain⟨g,cap,cur,rfl,hbg,hg,hnc,hcm,hcs,htake⟩:∃g cap cur,bv=.slice (some ⟨g,0,none⟩) l.length cap/\B<=g/\w.heap[g]? =some (.cells cur 5 (0,0))/\l.length<=cap/\cap<=maxLen/\cur.size=cap*1/\cur.toList.take (l.length*1)=Lib.byteCells l:=by
  rcases hown.2 with⟨_,hz⟩|⟨g,cap,cur,hv,r⟩
  .exact absurd hz hl0
  .exact⟨g,cap,cur,hv,r⟩
 have c1:w.cell? ⟨pb,1,none⟩=some (.slice (some ⟨g,0,none⟩) l.length cap):=by simp[World.cell?,hbk]
 have hSD:∀W:World,(Builtin.unsafeSliceData_ #[132] 253 #[.slice (some ⟨g,0,none⟩) l.length cap]).run Tryz.prog W=.ok (.pointer (some ⟨g,0,none⟩)) W:=fun W=>Lib.run_unsafeSliceData_row W _ _ _ _ _ (by omega)
 have hUS:(Builtin.unsafeString_ #[253,3] 9 #[.pointer (some ⟨g,0,none⟩),.int .i64 (l.length:Int)]).run Tryz.prog w.drew=.ok (.string ⟨l.toArray⟩) (w.drew.freeze ⟨g,0,none⟩ l.length):=by
  refine Lib.run_unsafeString_row w.drew _ _ _ 5 Tryz.underlying253 (by kernel_rfl) g cur.size (by have hg':w.drew.heap[g]? =some (.cells cur 5 (0,0)):=hg;simp[World.shape?,hg']) l h0 (by omega) (by unfold maxLen at hcm;omega) ?_
  intro j x hx
  exact hown.cells (g:=g) rfl j (.int .u8 x.toNat) (by simp[Lib.byteCells,hx])
 have HF:Hid (Fr (SP pb (.slice (some ⟨g,0,none⟩) l.length cap)) w (w.drew.freeze ⟨g,0,none⟩ l.length)):=ai (by
  have hb:=Lib.below_freeze (B:=g) (Below.refl g w.drew) (p:=⟨g,0,none⟩) (br _) l.length
  refine⟨hb.os,hb.tape,hb.output,hb.size,fun k hk hn=>?_⟩
  have hkg:k≠g:=fun e=>hn (Or.inr (by rw[e];rfl))
  simp[World.freeze]
  rw[if_neg h0]
  simp only[Array.getElem?_modify,if_neg (Ne.symm hkg)]
  rfl)
 clear hg htake hown hbk h
 go_enter Tryz.func53,Tryz.ntmps53
 go_wp2_with fail
 go_region
 all_goals(
  go_wp2_with fail
  go_ret
  exact⟨rfl,uh HF⟩)
end
end
section
open Go Go.RowKit Go.ChangeMaps Un
def spB(last t:BA):Bool:= !(t.toList==[41])&& !(t.toList==[44])&& !(t.toList==[59])&& !(last.toList==[])&& !(last.toList==[40])
structure FN(B pb:Nat)(w w':World):Prop where
 os:w'.os=w.os
 tape:w'.tape=w.tape
 output:w'.output=w.output
 size:w.heap.size<=w'.heap.size
 block:∀k,k<w.heap.size->k≠pb->(k<B\/Nby w k)->w'.heap[k]? =w.heap[k]?
theorem FN.refl(B pb:Nat)(w:World):FN B pb w w:=⟨rfl,rfl,rfl,br _,fun _ _ _ _=>rfl⟩
theorem FN.trans{B pb:Nat}{a b c:World}(h:FN B pb a b)(k:FN B pb b c):FN B pb a c:=
 ⟨k.os.trans h.os,k.tape.trans h.tape,k.output.trans h.output,Nat.le_trans h.size k.size,fun i hi hp hn=>by
  have e:=h.block i hi hp hn
  refine(k.block i (Nat.lt_of_lt_of_le hi h.size) hp (hn.imp id fun q=>q.same e)).trans e⟩
theorem FN.of{B pb:Nat}{w w':World}(h:Below w.heap.size w w'):FN B pb w w':=⟨h.os,h.tape,h.output,h.size,fun i hi _ _=>h.block i hi⟩
theorem Fr.fn{B pb:Nat}{bv:Value}{l:List UInt8}{last:BA}{mv:Value}{w w':World}(h:PN w B pb bv l last mv)(hf:Fr (SP pb bv) w w'):FN B pb w w':=
 ⟨hf.os,hf.tape,hf.output,hf.size,fun k hk hp hn=>hf.block k hk (fun q=>by
  rcases q with q|q
  .exact hp q
  .rcases hn with hn|hn
   .have:=(qa3 h.ow k q).1;omega
   .exact h.ne hn q)⟩
theorem Nby.fn{B pb:Nat}{w w':World}{b:Nat}(h:Nby w b)(hb:b<w.heap.size)(hp:b≠pb)(hf:FN B pb w w'):Nby w' b:=h.same (hf.block b hb hp (Or.inr h))
theorem Bx.fn{B pb:Nat}{w w':World}{b:Nat}{C:Array Value}(h:Bx w b C)(hp:b≠pb)(hn:b<B\/Nby w b)(hf:FN B pb w w'):Bx w' b C:=h.same hf.size (hf.block b h.z hp hn)
theorem Bx.nby{w:World}{b:Nat}{C:Array Value}(h:Bx w b C)(hx:∀x,C[0]? =some x->∀c,x≠.int .u8 c):Nby w b:=fun x q=>hx x (by rw[<-h.c 0];exact q)
def putL'(l:List UInt8)(last t:BA):List UInt8:=(l++if spB last t then[32]else[])++t.data.toList
def PutRel(B pb:Nat)(bv:Value)(l:List UInt8)(last t:BA)(mv:Value)(g:Nat)(w:World)(gk:Nat)(v:Value)(wr:World):Prop:=
 (v=.int .i64 0/\gk=1/\wr=w)\/(v=.int .i64 1/\gk=0/\∃bv',PN wr B pb bv' (putL' l last t) t mv/\FN B pb w wr)
section
variable {w:World} {B pb:Nat} {bv:Value} {l:List UInt8} {last:BA} {mv:Value}
theorem spaced_C(last t:BA):Calls Tryz.prog 298 #[.string last,.string t] w fun e w'=>e=.returned (.bool (spB last t))/\w'=w:=by
 unfold spB
 cases h1:(t.toList==[41])
 .cases h2:(t.toList==[44])
  .cases h3:(t.toList==[59])
   .cases h4:(last.toList==[])
    .go_enter Tryz.func298,Tryz.ntmps298
     go_wp2_with fail
     go_ret
     exact⟨by simp,rfl⟩
    .go_enter Tryz.func298,Tryz.ntmps298
     go_wp2_with fail
     go_ret
     exact⟨by simp,rfl⟩
   .go_enter Tryz.func298,Tryz.ntmps298
    go_wp2_with fail
    go_ret
    exact⟨rfl,rfl⟩
  .go_enter Tryz.func298,Tryz.ntmps298
   go_wp2_with fail
   go_ret
   exact⟨rfl,rfl⟩
 .go_enter Tryz.func298,Tryz.ntmps298
  go_wp2_with fail
  go_ret
  exact⟨rfl,rfl⟩
theorem PN.last_{w:World}{B pb:Nat}{bv:Value}{l:List UInt8}{last:BA}{mv:Value}(h:PN w B pb bv l last mv)(t:BA):PN (w.setCell ⟨pb,2,none⟩ (.string t)) B pb bv l t mv:=by
 have hpn:=h.ne h.pbN
 obtain⟨ad,hb,ha⟩:=h.bk
 exact⟨⟨ad,(qd2 hb 2 _).trans (by simp),ha⟩,own_one h.ow (One.cell _ _ _ _) hpn,h.nl,by have:=h.hb;simp[World.setCell];exact this⟩
theorem PN.cells{w:World}{B pb:Nat}{bv:Value}{l:List UInt8}{last:BA}{mv:Value}(h:PN w B pb bv l last mv):w.cell? ⟨pb,2,none⟩=some (.string last)/\w.frozen? ⟨pb,2,none⟩=false:=by
 obtain⟨ad,hb,ha⟩:=h.bk
 exact⟨by simp[World.cell?,hb],by simp[World.frozen?,hb]⟩
theorem FN.last_(B pb:Nat)(w:World)(v:Value):FN B pb w (w.setCell ⟨pb,2,none⟩ v):=⟨rfl,rfl,rfl,by simp[World.setCell],fun k _ hp _=>Below.heap_setCell _ _ _ _ hp⟩
theorem put_C(h:PN w B pb bv l last mv)(t:BA)(ht:t.size<=100000)(hl:l.length<=900000)(g:Nat)(hg:Bx w g #[.string t])(hgp:g≠pb):
 Calls Tryz.prog 193 #[.pointer (some ⟨pb,0,none⟩),.slice (some ⟨g,0,none⟩) 1 1] w fun e w'=>e=.returned (.tuple #[])/\∃bv',PN w' B pb bv' (putL' l last t) t mv/\FN B pb w w':=by
 have HN:=ai h
 obtain⟨cg,fg,zg⟩:=hg
 obtain⟨c2,f2⟩:=h.cells
 clear h
 go_enter Tryz.func193,Tryz.ntmps193
 go_wp2_with fail
 go_loopg[8] 1 (fun gk v wr=>PutRel B pb bv l last t mv g w gk v wr)
 case atStart=>exact Or.inl ⟨rfl,rfl,rfl⟩
 case round=>
  rcases hrel with⟨rfl,rfl,rfl⟩|⟨rfl,rfl,hr⟩
  .by_cases hsp:spB last t=true
   .go_wp2_with(first|(go_at_call 298;refine(spaced_C last t).mono ?_;rw[hsp];rintro e w'⟨rfl,rfl⟩)|(go_at_call 197;refine(writeByte_C (uh HN) 32 (by omega)).mono ?_;rintro e w1⟨rfl,bv1,hN1,hF1⟩;have HN1:=ai hN1;have HF1:=ai (Fr.fn (uh HN) hF1);clear hN1 hF1)|(go_at_call 299;refine(qeh (uh HN1) t ht (by simp;omega)).mono ?_;rintro e w2⟨rfl,bv2,hN2,hF2⟩;have HN2:=ai hN2;have HF2:=ai ((uh HF1).trans (Fr.fn (uh HN1) hF2));obtain⟨c3,f3⟩:=hN2.cells;clear hN2 hF2))
    go_roundg 0
    case measure=>omega
    case rel=>exact Or.inr ⟨by go_num,rfl,bv2,by unfold putL';rw[if_pos hsp];exact(uh HN2).last_ t,(uh HF2).trans (FN.last_ _ _ _ _)⟩
   .have hsp':spB last t=false:=by simpa using hsp
    go_wp2_with(first|(go_at_call 298;refine(spaced_C last t).mono ?_;rw[hsp'];rintro e w'⟨rfl,rfl⟩)|(go_at_call 299;refine(qeh (uh HN) t ht (by omega)).mono ?_;rintro e w2⟨rfl,bv2,hN2,hF2⟩;have HN2:=ai hN2;have HF2:=ai (Fr.fn (uh HN) hF2);obtain⟨c3,f3⟩:=hN2.cells;clear hN2 hF2))
    go_roundg 0
    case measure=>omega
    case rel=>exact Or.inr ⟨by go_num,rfl,bv2,by unfold putL';rw[if_neg hsp,List.append_nil];exact(uh HN2).last_ t,(uh HF2).trans (FN.last_ _ _ _ _)⟩
  .go_wp2_with fail
   go_end0
   exact⟨rfl,hr⟩
end
end
section
open Go Go.RowKit Go.ChangeMaps Un
mutual
def wT:Nd->Nat->List UInt8
 |.mk k s _ L _ _ _=>if k=16 then fun _=>s.toList else joined (conN k s) (wTL L)
def wTL:List Nd->List (Nat->List UInt8)
 |[]=>[]|x::l=>wT x::wTL l
end
def sep(last:BA):List UInt8:=if last.toList=[]\/last.toList=[40]then[]else[32]
def Fine(t:BA):Prop:=t.toList≠[]/\t.toList≠[40]
theorem qba{t:BA}(h:Fine t):sep t=[32]:=by unfold sep;rw[if_neg (by intro q;exact q.elim h.1 h.2)]
theorem qez{l:List UInt8}{last t:BA}(h1:t.toList≠[41])(h2:t.toList≠[44])(h3:t.toList≠[59]):putL' l last t=l++(sep last++t.toList):=by
 unfold putL' spB sep
 rw[show t.data.toList=t.toList from(ByteArray.toList_eq t).symm]
 by_cases q1:last.toList=[]
 .simp[q1,h1,h2,h3]
 .by_cases q2:last.toList=[40]
  .simp[q2,h1,h2,h3]
  .simp[q1,q2,h1,h2,h3]
theorem put_tight{l:List UInt8}{last t:BA}(h:t.toList=[41]\/t.toList=[44]):putL' l last t=l++t.toList:=by
 unfold putL' spB
 rw[show t.data.toList=t.toList from(ByteArray.toList_eq t).symm]
 rcases h with h|h<;>simp[h]
def NQ(w:World)(pb:Nat)(Q:Nat->Prop):Prop:=∀b,Q b->b<w.heap.size/\b≠pb/\Nby w b
theorem NQ.fn{B pb:Nat}{w w':World}{Q:Nat->Prop}(h:NQ w pb Q)(hf:FN B pb w w'):NQ w' pb Q:=fun b q=>⟨Nat.lt_of_lt_of_le (h b q).1 hf.size,(h b q).2.1,(h b q).2.2.fn (h b q).1 (h b q).2.1 hf⟩
theorem PT.fnQ{B pb:Nat}{w w':World}{Q:Nat->Prop}{nd:Nd}{v:Value}(h:PT w Q nd v)(hq:NQ w pb Q)(hf:FN B pb w w'):PT w' Q nd v:=h.move hf.size (fun b p z=>hf.block b z (hq b p).2.1 (Or.inr (hq b p).2.2)) (fun _ p _=>p)
def qcc(B pb:Nat)(mv:Value)(txt:List UInt8)(w:World)(e:Ending)(w':World):Prop:=
 e=.returned (.tuple #[])/\∃bv' last',PN w' B pb bv' txt last' mv/\Fine last'/\FN B pb w w'
def AtC(nd:Nd):Prop:=∀(w:World)(B pb:Nat)(bv:Value)(l:List UInt8)(last:BA)(mv:Value)(Q:Nat->Prop)(v:Value)(k:Nat),PN w B pb bv l last mv->PT w Q nd v->NQ w pb Q->k<=2->(l++(sep last++wT nd k)).length<=800000->B<=pb->
 Calls Tryz.prog 69 #[.pointer (some ⟨pb,0,none⟩),v,.int .i64 (k:Int)] w (qcc B pb mv (l++(sep last++wT nd k)) w)
def BareC(nd:Nd):Prop:=∀(w:World)(B pb:Nat)(bv:Value)(l:List UInt8)(last:BA)(mv:Value)(Q:Nat->Prop)(v:Value),PN w B pb bv l last mv->PT w Q nd v->NQ w pb Q->(l++(sep last++wT nd 0)).length<=800000->B<=pb->
 Calls Tryz.prog 133 #[.pointer (some ⟨pb,0,none⟩),v] w (qcc B pb mv (l++(sep last++wT nd 0)) w)
def rk:Nd->Nat
 |.mk k _ _ L _ _ _=>if k=17 then 0 else if k=2/\L≠[]then 1 else 2
section
variable {w:World} {Q:Nat->Prop}
theorem rankOf_C{nd:Nd}{v:Value}(h:PT w Q nd v):Calls Tryz.prog 131 #[v] w fun e w'=>e=.returned (.int .i64 (rk nd:Int))/\Below w.heap.size w w':=by
 cases h with
 |var s n f t a x y hq=>
  have h1:=taVA
  have h2:=taVN
  go_enter Tryz.func131,Tryz.ntmps131
  go_wp2_with fail
  go_ret
  exact⟨by simp[rk],(Below.refl _ _)⟩
 |fn s n a b f t at_ x y va vb ha hb=>
  obtain⟨ta,xa,rfl⟩:=ha.iface'
  obtain⟨tb,xb,rfl⟩:=hb.iface'
  have h1:=taAA
  go_enter Tryz.func131,Tryz.ntmps131
  go_wp2_with fail
  go_ret
  exact⟨by simp[rk],bw _⟩
 |pr s n a b f t at_ x y va vb ha hb=>
  obtain⟨ta,xa,rfl⟩:=ha.iface'
  obtain⟨tb,xb,rfl⟩:=hb.iface'
  have h1:=taPA
  have h2:=taPN
  go_enter Tryz.func131,Tryz.ntmps131
  go_wp2_with fail
  go_ret
  exact⟨by simp[rk],(Below.refl _ _)⟩
 |up s n L f t at_ x y x' y' sa sc vs hu hrow hr=>
  have h1:=taNA
  have h2:=taNN
  by_cases hL:L=[]
  .have h3:decide ((0:Int)<(L.length:Int))=false:=by simp[hL]
   go_enter Tryz.func131,Tryz.ntmps131
   go_wp2_with fail
   go_ret
   exact⟨by simp[rk,hL],bw _⟩
  .have h3:(0:Int)<(L.length:Int):=by have:=List.length_pos_iff.2 hL;omega
   go_enter Tryz.func131,Tryz.ntmps131
   go_wp2_with fail
   go_ret
   exact⟨by simp[rk,hL],bw _⟩
end
end
section
open Go Go.RowKit Go.ChangeMaps Un
theorem par_rk(s:BA)(n:Nat)(L:List Nd)(c f t a k:Nat)(hc:c=16\/c=17\/c=6\/(c=2/\UpN s))(hk:k<=2):wT (.mk c s n L f t a) k=Un.par (decide (rk (.mk c s n L f t a)<k)) (wT (.mk c s n L f t a) 0):=by
 have hpf:∀x,Un.par false x=x:=fun x=>rfl
 have hup:UpN s->s≠nFn/\s≠nPr:=fun h=>⟨fun e=>upN_ne h 62 [] (by decide) (by rw[e];exact qab [62]),fun e=>upN_ne h 44 [] (by decide) (by rw[e];exact qab [44])⟩
 rcases hc with rfl|rfl|rfl|⟨rfl,hu⟩
 .have hr:decide (rk (.mk 16 s n L f t a)<k)=false:=by simp[rk];omega
  rw[hr,hpf]
  simp[wT]
 .have hr:decide (rk (.mk 17 s n L f t a)<k)=decide (0<k):=by simp[rk]
  rw[hr]
  simp only[wT,conN,if_true,show ¬(17=16) by decide,if_false,joined]
  rfl
 .have hr:decide (rk (.mk 6 s n L f t a)<k)=false:=by simp[rk];omega
  rw[hr,hpf]
  simp only[wT,conN,show ¬(6=16) by decide,show ¬(6=17) by decide,if_false,if_true,joined]
  have hne:¬nPr=nFn:=by intro e;have:=congrArg ByteArray.toList e;rw[show nPr.toList=[44]from qab [44],show nFn.toList=[62]from qab [62]]at this;simp at this
  rw[if_neg hne,if_neg hne]
 .obtain⟨h1,h2⟩:=hup hu
  have hle:(wTL L).isEmpty=L.isEmpty:=by cases L<;>simp[wTL]
  simp only[wT,conN,show ¬(2=16) by decide,show ¬(2=17) by decide,show ¬(2=6) by decide,if_false,joined,if_neg h1,if_neg h2,hle]
  have hr:decide (rk (.mk 2 s n L f t a)<k)=(decide (1<k)&& !L.isEmpty):=by
   cases L with
   |nil=>simp[rk];omega|cons x l=>simp[rk]
  rw[hr]
  rfl
def KN':Nd->Prop
 |.mk c s _ _ _ _ _=>c=16\/c=17\/c=6\/(c=2/\UpN s)
theorem PT.kn{w:World}{Q:Nat->Prop}{nd:Nd}{v:Value}(h:PT w Q nd v):KN' nd:=by
 cases h with
 |var=>exact Or.inl rfl|fn=>exact Or.inr (Or.inl rfl)|pr=>exact Or.inr (Or.inr (Or.inl rfl))|up=>exact Or.inr (Or.inr (Or.inr ⟨rfl,by assumption⟩))
section
variable {w:World} {B pb:Nat} {bv:Value} {l:List UInt8} {last:BA} {mv:Value} {Q:Nat->Prop} {nd:Nd} {v:Value}
theorem clos_C(HB:BareC nd)(h:PN w B pb bv l last mv)(hp:PT w Q nd v)(hq:NQ w pb Q)(hl:(l++(sep last++wT nd 0)).length<=800000)(hB:B<=pb)(b1 b2:Nat)(h1:Bx w b1 #[.pointer (some ⟨pb,0,none⟩)])(h2:Bx w b2 #[v]):
 Calls Tryz.prog 132 #[.pointer (some ⟨b1,0,none⟩),.pointer (some ⟨b2,0,none⟩)] w (qcc B pb mv (l++(sep last++wT nd 0)) w):=by
 obtain⟨tv,xv,rfl⟩:=hp.iface'
 obtain⟨c1,f1,z1⟩:=h1
 obtain⟨c2,f2,z2⟩:=h2
 have HC:=HB w B pb bv l last mv Q _ h hp hq hl hB
 go_enter Tryz.func132,Tryz.ntmps132
 go_wp2_with fail
 refine HC.mono ?_
 intro e w1 hp1
 have hp2:=hp1
 obtain⟨rfl,_⟩:=hp1
 go_wp2_with fail
 go_end0
 exact hp2
theorem drew_bel{W w1:World}(h:Below W.drew.heap.size W.drew w1):Below W.heap.size W w1:=((Below.refl W.heap.size W).drew).trans h
abbrev tOpen:BA:=⟨#[40]⟩
abbrev tClose:BA:=⟨#[41]⟩
theorem qef:sep tOpen=[]:=by unfold sep;rw[if_pos (Or.inr (qab [40]))]
theorem FN.pn_ne{w w':World}(hf:FN B pb w w'){b:Nat}{C:Array Value}(h:Bx w b C)(hp:b≠pb)(hx:∀x,C[0]? =some x->∀c,x≠.int .u8 c):Bx w' b C:=h.fn hp (Or.inr (h.nby hx)) hf
theorem group_C(HB:BareC nd)(k:Nat)(hk:k<=2)(h:PN w B pb bv l last mv)(hp:PT w Q nd v)(hq:NQ w pb Q)(hl:(l++(sep last++wT nd k)).length<=800000)(hB:B<=pb)(b1 b2:Nat)(h1:Bx w b1 #[.pointer (some ⟨pb,0,none⟩)])(h2:Bx w b2 #[v])(n1:b1≠pb)(n2:b2≠pb):
 Calls Tryz.prog 130 #[.pointer (some ⟨pb,0,none⟩),.bool (decide (rk nd<k)),.func (.func 132) #[] #[.pointer (some ⟨b1,0,none⟩),.pointer (some ⟨b2,0,none⟩)]] w (qcc B pb mv (l++(sep last++wT nd k)) w):=by
 have hw:wT nd k=Un.par (decide (rk nd<k)) (wT nd 0):=by
  obtain⟨c,s,n,L,f,t,a⟩:=nd
  exact par_rk s n L c f t a k hp.kn hk
 rw[hw]at hl⊢
 clear hw
 obtain⟨tv,xv,rfl⟩:=hp.iface'
 cases hd:decide (rk nd<k)with
 |false=>
  rw[hd]at hl
  have hl':(l++(sep last++wT nd 0)).length<=800000:=hl
  have HC:=clos_C HB h hp hq hl' hB b1 b2 h1 h2
  go_enter Tryz.func130,Tryz.ntmps130
  go_wp2_with fail
  refine HC.mono ?_
  intro e w1 hp1
  have hp2:=hp1
  obtain⟨rfl,_⟩:=hp1
  go_wp2_with fail
  go_end0
  exact hp2
 |true=>
  rw[hd]at hl
  have hpar:Un.par true (wT nd 0)=40::(wT nd 0++[41]):=rfl
  rw[hpar]at hl⊢
  simp only[lqc,lqa,lqn]at hl
  have hzp:=h.lt
  have hb0:Below w.heap.size w (w.alloc (.cells #[.string tOpen] 9)):=bw _
  have HP:=put_C (h.bel hb0) tOpen (by decide) (by omega) w.heap.size (Bx.new w #[.string tOpen] 9) (by omega)
  have hpt:putL' l last tOpen=l++(sep last++[40]):=by
   have:=qez (l:=l) (last:=last) (t:=tOpen) (by rw[show tOpen.toList=[40]from qab [40]];decide) (by rw[show tOpen.toList=[40]from qab [40]];decide) (by rw[show tOpen.toList=[40]from qab [40]];decide)
   rw[this,show tOpen.toList=[40]from qab [40]]
  rw[hpt]at HP
  go_enter Tryz.func130,Tryz.ntmps130
  go_wp2_with fail
  refine HP.mono ?_
  rintro e w1⟨rfl,bv1,N1,F1⟩
  have FA:=(FN.of (B:=B) (pb:=pb) hb0).trans F1
  have X1:=FA.pn_ne h1 n1 (by intro x hx c;simp at hx;subst hx;intro q;cases q)
  have X2:=FA.pn_ne h2 n2 (by intro x hx c;simp at hx;subst hx;intro q;cases q)
  have HC:=clos_C HB N1 (hp.fnQ hq FA) (hq.fn FA) (by simp only[lqa,lqc,lqn,qef];omega) hB b1 b2 X1 X2
  have hs1:sep tOpen=[]:=by unfold sep;rw[if_pos (Or.inr (qab [40]))]
  rw[hs1]at HC
  go_wp2_with fail
  refine HC.mono ?_
  rintro e w2⟨rfl,bv2,last2,N2,fi2,F2⟩
  have hzp2:=N2.lt
  have hb2:Below w2.heap.size w2 (w2.alloc (.cells #[.string tClose] 9)):=bw _
  have HP2:=put_C (N2.bel hb2) tClose (by decide) (by simp only[lqa,lqc,lqn,qef];omega) w2.heap.size (Bx.new w2 #[.string tClose] 9) (by omega)
  rw[put_tight (Or.inl (qab [41])),show tClose.toList=[41]from qab [41]]at HP2
  go_wp2_with fail
  refine HP2.mono ?_
  rintro e w3⟨rfl,bv3,N3,F3⟩
  go_wp2_with fail
  go_end0
  refine⟨rfl,bv3,tClose,?_,⟨by rw[show tClose.toList=[41]from qab [41]];decide,by rw[show tClose.toList=[41]from qab [41]];decide⟩,(FA.trans F2).trans ((FN.of hb2).trans F3)⟩
  have e9:l++(sep last++[40])++([]++wT nd 0)++[41]=l++(sep last++40::(wT nd 0++[41])):=by simp
  rw[<-e9]
  exact N3
end
end
section
open Go Go.RowKit Go.ChangeMaps Un
theorem fine_up{c:BA}(h:UpN c):Fine c:=⟨fun e=>(by obtain⟨x,r,h1,_⟩:=h;rw[h1]at e;cases e),upN_ne h 40 [] (by decide)⟩
abbrev tArrow:BA:=⟨#[45,62]⟩
abbrev tComma:BA:=⟨#[44]⟩
theorem wTL_map:∀L:List Nd,wTL L=L.map wT
 |[]=>rfl|x::l=>by simp[wTL,wTL_map l]
theorem sep_len(t:BA):(sep t).length<=1:=by unfold sep;split<;>simp
def NamedRel(B pb:Nat)(mv:Value)(l:List UInt8)(L:List Nd)(w:World)(gk:Nat)(v:Value)(wr:World):Prop:=
 ∃(j:Nat)(bv':Value)(last':BA),Hid (gk=L.length-j)/\j<=L.length/\v=.int .i64 (j:Int)/\PN wr B pb bv' (l++((L.take j).map wT).flatMap fun p=>32::p 2) last' mv/\Fine last'/\FN B pb w wr
theorem flat_take(L:List Nd)(j:Nat)(h:j<L.length):(((L.take (j+1)).map wT).flatMap fun p=>32::p 2)=(((L.take j).map wT).flatMap fun p=>32::p 2)++32::wT L[j] 2:=by
 rw[List.take_add_one,List.getElem?_eq_getElem h]
 simp only[List.map_append,List.flatMap_append,Option.toList_some,List.map_cons,List.map_nil,List.flatMap_cons,List.flatMap_nil,List.append_nil]
theorem flat_le(L:List Nd)(j:Nat):(((L.take j).map wT).flatMap fun p=>32::p 2).length<=((L.map wT).flatMap fun p=>32::p 2).length:=by
 have e:((L.map wT).flatMap fun p=>32::p 2)=(((L.take j).map wT).flatMap fun p=>32::p 2)++(((L.drop j).map wT).flatMap fun p=>32::p 2):=by
  rw[<-List.flatMap_append,<-List.map_append,List.take_append_drop]
 rw[e,lqa]
 omega
section
variable {w:World} {B pb:Nat} {bv:Value} {l:List UInt8} {last:BA} {mv:Value} {Q:Nat->Prop}
theorem named_C(s:BA)(hu:UpN s)(hss:s.size<=1000)(x y:Int)(L:List Nd)(sa:Option Addr)(sc:Nat)(vs:Nat->Value)(hL:L.length<=1001)(h:PN w B pb bv l last mv)(hq:NQ w pb Q)(hB:B<=pb)(hrow:L=[]\/∃g,sa=some ⟨g,0,none⟩/\Q g/\g<w.heap.size/\∀i,i<L.length->w.cell? ⟨g,i,none⟩=some (vs i))(hr:∀i(h:i<L.length),PT w Q L[i] (vs i))(IH:∀i(h:i<L.length),AtC L[i])(hl:(l++(sep last++(s.toList++(L.map wT).flatMap fun p=>32::p 2))).length<=800000):
 Calls Tryz.prog 195 #[.pointer (some ⟨pb,0,none⟩),.agg #[.int .i64 x,.int .i64 y,.string s],.slice sa L.length sc] w (qcc B pb mv (l++(sep last++(s.toList++(L.map wT).flatMap fun p=>32::p 2))) w):=by
 have hzp:=h.lt
 have hsl:=sep_len last
 simp only[lqa]at hl
 have hb0:Below w.heap.size w ((w.alloc (.cells #[.int .i64 x,.int .i64 y,.string s] 214)).alloc (.cells #[.string s] 9)):=(bw _).alloc (by simp) _
 have BX:Bx ((w.alloc (.cells #[.int .i64 x,.int .i64 y,.string s] 214)).alloc (.cells #[.string s] 9)) (w.heap.size+1) #[.string s]:=by have:=Bx.new (w.alloc (.cells #[.int .i64 x,.int .i64 y,.string s] 214)) #[.string s] 9;simpa using this
 have HP:=ai (put_C (h.bel hb0) s (by omega) (by omega) (w.heap.size+1) BX (by omega))
 rw[qez (upN_ne hu 41 [] (by decide)) (upN_ne hu 44 [] (by decide)) (upN_ne hu 59 [] (by decide))]at HP
 have F0:=FN.of (B:=B) (pb:=pb) hb0
 have stl:s.toList.length=s.size:=by rw[ByteArray.toList_eq];simp
 have HR:=ai hr
 have HI:=ai IH
 have HW:=ai hrow
 clear BX hr IH hrow
 go_enter Tryz.func195,Tryz.ntmps195
 go_wp2_with fail
 refine(uh HP).mono ?_
 rintro e w1⟨rfl,bv1,N1,F1⟩
 have FA:=F0.trans F1
 go_wp2_with fail
 go_loopg[15] L.length (fun gk v wr=>NamedRel B pb mv (l++(sep last++s.toList)) L w gk v wr)
 case atStart=>exact⟨0,bv1,s,ai (by simp),Nat.zero_le _,rfl,by simpa using N1,fine_up hu,FA⟩
 case round=>
  clear N1
  obtain⟨j,bv2,last2,hgk,hj,rfl,N2,fi2,F2⟩:=hrel
  by_cases hjl:j<L.length
  .have hd:(j:Int)<(L.length:Int):=by omega
   obtain⟨g,rfl,hg,hgz,hcell⟩:∃g,sa=some ⟨g,0,none⟩/\Q g/\g<w.heap.size/\∀i,i<L.length->w.cell? ⟨g,i,none⟩=some (vs i):=by
    rcases uh HW with h0|h0
    .subst h0;simp at hjl
    .exact h0
   have cg:wr.cell? ⟨g,j,none⟩=some (vs j):=(World.cell?_of_block (a:=⟨g,j,none⟩) (F2.block g hgz (hq g hg).2.1 (Or.inr (hq g hg).2.2))).trans (hcell j hjl)
   have PJ:=(uh HR j hjl).fnQ hq F2
   obtain⟨tv,xv,hv⟩:=PJ.iface'
   have ft:=flat_take L j hjl
   have fl:=flat_le L (j+1)
   rw[ft]at fl
   simp only[lqa,lqc]at fl
   have HC:=uh HI j hjl wr B pb bv2 _ last2 mv Q (vs j) 2 N2 PJ (hq.fn F2) (br _) (by rw[qba fi2];simp only[lqa,lqc,lqn];omega) hB
   rw[hv]at cg HC
   rw[qba fi2]at HC
   go_wp2_with(go_at_call 69;refine HC.mono ?_;rintro e w3⟨rfl,bv3,last3,hN3,fi3,hF3⟩;have HN3:=ai hN3;have HF3:=ai (F2.trans hF3);clear hN3 hF3)
   go_roundg(L.length-(j+1))
   case measure=>rw[uh hgk];omega
   case rel=>
    refine⟨j+1,bv3,last3,ai rfl,by omega,by go_num,?_,fi3,uh HF3⟩
    rw[ft]
    have e9:l++(sep last++s.toList)++((((L.take j).map wT).flatMap fun p=>32::p 2)++32::wT L[j] 2)=l++(sep last++s.toList)++(((L.take j).map wT).flatMap fun p=>32::p 2)++([32]++wT L[j] 2):=by simp
    rw[e9]
    exact uh HN3
  .have hd:decide ((j:Int)<(L.length:Int))=false:=by simp;omega
   have ej:j=L.length:=by omega
   subst ej
   rw[List.take_length]at N2
   go_wp2_with fail
   go_end0
   refine⟨rfl,bv2,last2,?_,fi2,F2⟩
   have e9:l++(sep last++(s.toList++(L.map wT).flatMap fun p=>32::p 2))=l++(sep last++s.toList)++(L.map wT).flatMap fun p=>32::p 2:=by simp
   rw[e9]
   exact N2
end
end
section
open Go Go.RowKit Go.ChangeMaps Un
theorem quo_cat{s:BA}(h:Quo s):(⟨#[39]⟩:BA)++s.extract 1 s.size=s:=by
 obtain⟨r,hr⟩:=h
 apply toList_inj
 rw[hr]
 have h2:=tl_list hr
 unfold tl at h2
 rw[ByteArray.toList_eq]at h2⊢
 rw[ByteArray.data_append]
 simp only[Array.toList_append,h2]
 rfl
theorem fine_quo{s:BA}(h:Quo s):Fine s:=by
 obtain⟨r,hr⟩:=h
 unfold Fine
 rw[hr]
 exact⟨by simp,by simp⟩
theorem wT_var(s:BA)(n f t a k:Nat):wT (.mk 16 s n [] f t a) k=s.toList:=by simp[wT]
theorem wT_fn(s:BA)(n:Nat)(x y:Nd)(f t a:Nat):wT (.mk 17 s n [x,y] f t a) 0=wT x 1++([32,45,62,32]++wT y 0):=by
 simp only[wT,conN,show ¬(17=16) by decide,if_false,if_true,joined,wTL]
 rfl
theorem wT_pr(s:BA)(n:Nat)(x y:Nd)(f t a:Nat):wT (.mk 6 s n [x,y] f t a) 0=40::(wT x 0++([44,32]++(wT y 0++[41]))):=by
 have hne:¬nPr=nFn:=by intro e;have:=congrArg ByteArray.toList e;rw[show nPr.toList=[44]from qab [44],show nFn.toList=[62]from qab [62]]at this;simp at this
 simp only[wT,conN,show ¬(6=16) by decide,show ¬(6=17) by decide,if_false,if_true,joined,if_neg hne,wTL]
 rfl
theorem wT_up(s:BA)(hu:UpN s)(n:Nat)(L:List Nd)(f t a:Nat):wT (.mk 2 s n L f t a) 0=s.toList++(L.map wT).flatMap fun p=>32::p 2:=by
 have h1:s≠nFn:=fun e=>upN_ne hu 62 [] (by decide) (by rw[e];exact qab [62])
 have h2:s≠nPr:=fun e=>upN_ne hu 44 [] (by decide) (by rw[e];exact qab [44])
 simp only[wT,conN,show ¬(2=16) by decide,show ¬(2=17) by decide,show ¬(2=6) by decide,if_false,joined,if_neg h1,if_neg h2,wTL_map]
 rfl
theorem qdt{t:BA}{r:List UInt8}(h:t.toList=r)(h1:r≠[])(h2:r≠[40]):Fine t:=by unfold Fine;rw[h];exact⟨h1,h2⟩
section
variable {w:World}
theorem bare_var(s:BA)(n f t a:Nat)(hss:s.size<=1000):BareC (.mk 16 s n [] f t a):=by
 intro w B pb bv l last mv Q v h hp hq hl hB
 cases hp with
 |var s n f t a x y hqu=>
 rw[wT_var]at hl⊢
 simp only[lqa]at hl
 have h1:=taVV
 have hzp:=h.lt
 have stl:s.toList.length=s.size:=by rw[ByteArray.toList_eq];simp
 have hb0:Below w.heap.size w ((w.alloc (.cells #[.int .i64 x,.int .i64 y,.string (s.extract 1 s.size)] 265)).alloc (.cells #[.string s] 9)):=(bw _).alloc (by simp) _
 have BX:Bx ((w.alloc (.cells #[.int .i64 x,.int .i64 y,.string (s.extract 1 s.size)] 265)).alloc (.cells #[.string s] 9)) (w.heap.size+1) #[.string s]:=by have:=Bx.new (w.alloc (.cells #[.int .i64 x,.int .i64 y,.string (s.extract 1 s.size)] 265)) #[.string s] 9;simpa using this
 have HP:=ai (put_C (h.bel hb0) s (by omega) (by omega) (w.heap.size+1) BX (by omega))
 obtain⟨r,hr⟩:=hqu
 rw[qez (by rw[hr];simp) (by rw[hr];simp) (by rw[hr];simp)]at HP
 have F0:=FN.of (B:=B) (pb:=pb) hb0
 have hcat:=quo_cat ⟨r,hr⟩
 have Hr:=ai hr
 clear BX hr
 go_enter Tryz.func133,Tryz.ntmps133
 go_wp2_with fail
 refine(uh HP).mono ?_
 rintro e w1⟨rfl,bv1,N1,F1⟩
 go_wp2_with fail
 go_end0
 exact⟨rfl,bv1,s,N1,fine_quo ⟨r,uh Hr⟩,F0.trans F1⟩
theorem bare_up(s:BA)(n:Nat)(L:List Nd)(f t a:Nat)(hss:s.size<=1000)(hL:L.length<=1001)(IH:∀i(h:i<L.length),AtC L[i]):BareC (.mk 2 s n L f t a):=by
 intro w B pb bv l last mv Q v h hp hq hl hB
 cases hp with
 |up s n L f t at_ x y x' y' sa sc vs hu hrow hr=>
 rw[wT_up s hu]at hl⊢
 have h1:=taNV
 have h2:=taNN
 have stl:s.toList.length=s.size:=by rw[ByteArray.toList_eq];simp
 have hb0:Below w.heap.size w (w.alloc (.cells #[.int .i64 x,.int .i64 y,.int .i64 x',.int .i64 y',.string s,.slice sa L.length sc] 272)):=bw _
 have F0:=FN.of (B:=B) (pb:=pb) hb0
 have HC:=ai (named_C (Q:=Q) s hu hss x' y' L sa sc vs hL (h.bel hb0) (hq.fn F0) hB
  (hrow.imp id fun q=>by
   obtain⟨g,q1,q2,q3,q4⟩:=q
   exact⟨g,q1,q2,by simp;omega,fun i hi=>(World.cell?_of_block (a:=⟨g,i,none⟩) (hb0.block g q3)).trans (q4 i hi)⟩)
  (fun i hi=>(hr i hi).bel hb0) IH hl)
 clear hrow hr
 go_enter Tryz.func133,Tryz.ntmps133
 go_wp2_with fail
 refine(uh HC).mono ?_
 rintro e w1⟨rfl,bv1,last1,N1,fi1,F1⟩
 go_wp2_with fail
 go_end0
 exact⟨rfl,bv1,last1,N1,fi1,F0.trans F1⟩
theorem bare_fn(s:BA)(n:Nat)(a b:Nd)(f t at_:Nat)(Ha:AtC a)(Hb:AtC b):BareC (.mk 17 s n [a,b] f t at_):=by
 intro w B pb bv l last mv Q v h hp hq hl hB
 cases hp with
 |fn s n a b f t at_ x y va vb ha hb=>
 rw[wT_fn]at hl⊢
 obtain⟨ta,xa,rfl⟩:=ha.iface'
 obtain⟨tb,xb,rfl⟩:=hb.iface'
 have h1:=taAV
 have h2:=taAN
 have h3:=taAP
 have h4:=taAA
 have hzp:=h.lt
 have hsl:=sep_len last
 simp only[lqa,lqc,lqn]at hl
 have hb0:Below w.heap.size w (w.alloc (.cells #[.int .i64 x,.int .i64 y,.iface ta (.agg xa),.iface tb (.agg xb)] 267)):=bw _
 have F0:=FN.of (B:=B) (pb:=pb) hb0
 have XB:=Bx.new w #[.int .i64 x,.int .i64 y,.iface ta (.agg xa),.iface tb (.agg xb)] 267
 have HC:=ai (Ha _ B pb bv l last mv Q _ 1 (h.bel hb0) (ha.bel hb0) (hq.fn F0) (by omega) (by simp only[lqa];omega) hB)
 go_enter Tryz.func133,Tryz.ntmps133
 go_wp2_with fail
 refine(uh HC).mono ?_
 rintro e w1⟨rfl,bv1,last1,N1,fi1,F1⟩
 have X1:=F1.pn_ne XB (by omega) (by intro x hx c;simp at hx;subst hx;intro q;cases q)
 obtain⟨c1,f1,z1⟩:=X1
 have hzp1:=N1.lt
 have hb1:Below w1.heap.size w1 (w1.alloc (.cells #[.string tArrow] 9)):=bw _
 have HP:=ai (put_C (N1.bel hb1) tArrow (by decide) (by simp only[lqa];omega) w1.heap.size (Bx.new w1 #[.string tArrow] 9) (by omega))
 rw[qez (by rw[show tArrow.toList=[45,62]from qab [45,62]];decide) (by rw[show tArrow.toList=[45,62]from qab [45,62]];decide) (by rw[show tArrow.toList=[45,62]from qab [45,62]];decide),show tArrow.toList=[45,62]from qab [45,62],qba fi1]at HP
 clear HC
 go_wp2_with fail
 refine(uh HP).mono ?_
 rintro e w2⟨rfl,bv2,N2,F2⟩
 have F12:=(FN.of (B:=B) (pb:=pb) hb1).trans F2
 have FA:=(F0.trans F1).trans F12
 have X2:=(F1.trans F12).pn_ne XB (by omega) (by intro x hx c;simp at hx;subst hx;intro q;cases q)
 obtain⟨c2,f2,z2⟩:=X2
 have HD:=ai (Hb w2 B pb bv2 _ tArrow mv Q _ 0 N2 (hb.fnQ hq FA) (hq.fn FA) (by omega) (by rw[qba (qdt (qab [45,62]) (by decide) (by decide))];simp only[lqa,lqc,lqn];omega) hB)
 rw[qba (qdt (qab [45,62]) (by decide) (by decide))]at HD
 clear HP c1 f1
 go_wp2_with fail
 refine(uh HD).mono ?_
 rintro e w3⟨rfl,bv3,last3,N3,fi3,F3⟩
 go_wp2_with fail
 go_end0
 refine⟨rfl,bv3,last3,?_,fi3,FA.trans F3⟩
 have e9:l++(sep last++wT a 1)++([32]++[45,62])++([32]++wT b 0)=l++(sep last++(wT a 1++([32,45,62,32]++wT b 0))):=by simp
 rw[e9]at N3
 simp only[List.append_assoc,List.cons_append,List.nil_append]at N3⊢
 exact N3
theorem bare_pr(s:BA)(n:Nat)(a b:Nd)(f t at_:Nat)(Ha:AtC a)(Hb:AtC b):BareC (.mk 6 s n [a,b] f t at_):=by
 intro w B pb bv l last mv Q v h hp hq hl hB
 cases hp with
 |pr s n a b f t at_ x y va vb ha hb=>
 rw[wT_pr]at hl⊢
 obtain⟨ta,xa,rfl⟩:=ha.iface'
 obtain⟨tb,xb,rfl⟩:=hb.iface'
 have h1:=taPV
 have h2:=taPN
 have h3:=taPP
 have hzp:=h.lt
 have hsl:=sep_len last
 simp only[lqa,lqc,lqn]at hl
 have hb0:Below w.heap.size w ((w.alloc (.cells #[.int .i64 x,.int .i64 y,.iface ta (.agg xa),.iface tb (.agg xb)] 269)).alloc (.cells #[.string tOpen] 9)):=(bw _).alloc (by simp) _
 have F0:=FN.of (B:=B) (pb:=pb) hb0
 have XB:=(Bx.new w #[.int .i64 x,.int .i64 y,.iface ta (.agg xa),.iface tb (.agg xb)] 269).alloc (.cells #[.string tOpen] 9)
 have BX:Bx ((w.alloc (.cells #[.int .i64 x,.int .i64 y,.iface ta (.agg xa),.iface tb (.agg xb)] 269)).alloc (.cells #[.string tOpen] 9)) (w.heap.size+1) #[.string tOpen]:=by have:=Bx.new (w.alloc (.cells #[.int .i64 x,.int .i64 y,.iface ta (.agg xa),.iface tb (.agg xb)] 269)) #[.string tOpen] 9;simpa using this
 have HP:=ai (put_C (h.bel hb0) tOpen (by decide) (by omega) (w.heap.size+1) BX (by omega))
 rw[qez (by rw[show tOpen.toList=[40]from qab [40]];decide) (by rw[show tOpen.toList=[40]from qab [40]];decide) (by rw[show tOpen.toList=[40]from qab [40]];decide),show tOpen.toList=[40]from qab [40]]at HP
 have nx:∀x0,(#[Value.int .i64 x,.int .i64 y,.iface ta (.agg xa),.iface tb (.agg xb)])[0]? =some x0->∀c,x0≠.int .u8 c:=by intro x hx c;simp at hx;subst hx;intro q;cases q
 clear BX
 go_enter Tryz.func133,Tryz.ntmps133
 go_wp2_with fail
 refine(uh HP).mono ?_
 rintro e w1⟨rfl,bv1,N1,F1⟩
 have G1:=F0.trans F1
 obtain⟨c1,f1,z1⟩:=F1.pn_ne XB (by omega) nx
 have hs1:sep tOpen=[]:=by unfold sep;rw[if_pos (Or.inr (qab [40]))]
 have HC:=ai (Ha w1 B pb bv1 _ tOpen mv Q _ 0 N1 (ha.fnQ hq G1) (hq.fn G1) (by omega) (by rw[hs1];simp only[lqa,lqc,lqn];omega) hB)
 rw[hs1]at HC
 clear HP
 go_wp2_with fail
 refine(uh HC).mono ?_
 rintro e w2⟨rfl,bv2,last2,N2,fi2,F2⟩
 have G2:=G1.trans F2
 have hzp2:=N2.lt
 have hb2:Below w2.heap.size w2 (w2.alloc (.cells #[.string tComma] 9)):=bw _
 have HP2:=ai (put_C (N2.bel hb2) tComma (by decide) (by simp only[lqa,lqc,lqn];omega) w2.heap.size (Bx.new w2 #[.string tComma] 9) (by omega))
 rw[put_tight (Or.inr (qab [44])),show tComma.toList=[44]from qab [44]]at HP2
 obtain⟨c2,f2,z2⟩:=(F1.trans F2).pn_ne XB (by omega) nx
 clear HC c1 f1
 go_wp2_with fail
 refine(uh HP2).mono ?_
 rintro e w3⟨rfl,bv3,N3,F3⟩
 have F23:=(FN.of (B:=B) (pb:=pb) hb2).trans F3
 have G3:=G2.trans F23
 obtain⟨c3,f3,z3⟩:=((F1.trans F2).trans F23).pn_ne XB (by omega) nx
 have HD:=ai (Hb w3 B pb bv3 _ tComma mv Q _ 0 N3 (hb.fnQ hq G3) (hq.fn G3) (by omega) (by rw[qba (qdt (qab [44]) (by decide) (by decide))];simp only[lqa,lqc,lqn];omega) hB)
 rw[qba (qdt (qab [44]) (by decide) (by decide))]at HD
 clear HP2 c2 f2
 go_wp2_with fail
 refine(uh HD).mono ?_
 rintro e w4⟨rfl,bv4,last4,N4,fi4,F4⟩
 have G4:=G3.trans F4
 have hzp4:=N4.lt
 have hb4:Below w4.heap.size w4 (w4.alloc (.cells #[.string tClose] 9)):=bw _
 have HP4:=ai (put_C (N4.bel hb4) tClose (by decide) (by simp only[lqa,lqc,lqn];omega) w4.heap.size (Bx.new w4 #[.string tClose] 9) (by omega))
 rw[put_tight (Or.inl (qab [41])),show tClose.toList=[41]from qab [41]]at HP4
 clear HD c3 f3
 go_wp2_with fail
 refine(uh HP4).mono ?_
 rintro e w5⟨rfl,bv5,N5,F5⟩
 go_wp2_with fail
 go_end0
 refine⟨rfl,bv5,tClose,?_,qdt (qab [41]) (by decide) (by decide),G4.trans ((FN.of hb4).trans F5)⟩
 have e9:l++(sep last++[40])++([]++wT a 0)++[44]++([32]++wT b 0)++[41]=l++(sep last++40::(wT a 0++([44,32]++(wT b 0++[41])))):=by simp
 rw[e9]at N5
 simp only[List.append_assoc,List.cons_append,List.nil_append]at N5⊢
 exact N5
end
end
section
open Go Go.RowKit Go.ChangeMaps Un
def vT(i:Nat):List UInt8:=118::dec i
section
variable {w:World} {nb mb:Nat} {L:List Nat}
end
end
section
open Go Go.RowKit Go.ChangeMaps Un
def isF(c:BA):Bool:=c.toList==[62]
def isP(c:BA):Bool:=c.toList==[44]
def kd(c:BA):Nat:=if isF c=true then 17 else if isP c=true then 6 else 2
mutual
def sp(a:List Nat):Ty->Nd
 |.var n=>.mk 16 (bs (39::vT ((Un.seen a n).idxOf n))) 0 [] 0 0 0|.con c l=>.mk (kd c) c 0 (spL a l) 0 0 0
def spL(a:List Nat):List Ty->List Nd
 |[]=>[]|t::l=>sp a t::spL (vars a t) l
end
theorem PT.by{w:World}{P:Nat->Prop}{nd:Nd}{v:Value}(h:PT w P nd v):PT w (fun b=>P b/\b<w.heap.size/\Nby w b) nd v:=by
 induction h with
 |var s n f t a x y hq=>exact .var s n f t a x y hq|fn s n a b f t at_ x y va vb _ _ iha ihb=>exact .fn s n a b f t at_ x y va vb iha ihb|pr s n a b f t at_ x y va vb _ _ iha ihb=>exact .pr s n a b f t at_ x y va vb iha ihb|up s n L f t at_ x y x' y' sa sc vs hu hrow hr ih=>
  refine .up s n L f t at_ x y x' y' sa sc vs hu ?_ ih
  rcases hrow with h0|⟨g,h1,hP,hz,hc⟩
  .exact Or.inl h0
  .by_cases hL:L=[]
   .exact Or.inl hL
   .have hl:0<L.length:=List.length_pos_iff.2 hL
    refine Or.inr ⟨g,h1,⟨hP,hz,fun q hq c e=>?_⟩,hz,hc⟩
    obtain⟨t',x'',hv⟩:=(hr 0 hl).iface'
    rw[hc 0 hl,hv]at hq
    cases hq
    cases e
inductive WN:Nd->Prop where
 |var(s:BA)(n f t a:Nat)(h:s.size<=1000):WN (.mk 16 s n [] f t a)
 |fn(s:BA)(n:Nat)(x y:Nd)(f t a:Nat)(hx:WN x)(hy:WN y):WN (.mk 17 s n [x,y] f t a)
 |pr(s:BA)(n:Nat)(x y:Nd)(f t a:Nat)(hx:WN x)(hy:WN y):WN (.mk 6 s n [x,y] f t a)
 |up(s:BA)(n:Nat)(L:List Nd)(f t a:Nat)(h:s.size<=1000)(hl:L.length<=1001)(hL:∀i(h:i<L.length),WN L[i]):WN (.mk 2 s n L f t a)
section
variable {w:World} {nb mb:Nat}
end
end
section
open Go Go.RowKit Go.ChangeMaps Un
section
variable {w:World} {nb mb:Nat}
end
end
section
open Go Go.RowKit Go.ChangeMaps Un
section
variable {w:World}
end
end
section
open Go Go.RowKit Go.ChangeMaps Un
section
variable {nd:Nd}
theorem typeAt_C(HB:BareC nd):AtC nd:=by
 intro w B pb bv l last mv Q v k h hp hq hk hl hB
 obtain⟨tv,xv,hv⟩:=hp.iface'
 have hzp:=h.lt
 have n1:w.heap.size≠pb:=by omega
 have n2:w.heap.size+1≠pb:=by omega
 obtain⟨R,hR⟩:∃R,R=qcc B pb mv (l++(sep last++wT nd k)) w:=⟨_,rfl⟩
 obtain⟨r,hr⟩:∃r,r=rk nd:=⟨_,rfl⟩
 have hb0:Below w.heap.size w ((w.alloc (.cells #[.pointer (some ⟨pb,0,none⟩)] 126)).alloc (.cells #[v] 151)):=(bw _).alloc (by simp) _
 have X1:=((Bx.new w #[.pointer (some ⟨pb,0,none⟩)] 126).alloc (.cells #[v] 151))
 have X2:Bx ((w.alloc (.cells #[.pointer (some ⟨pb,0,none⟩)] 126)).alloc (.cells #[v] 151)) (w.heap.size+1) #[v]:=by have:=Bx.new (w.alloc (.cells #[.pointer (some ⟨pb,0,none⟩)] 126)) #[v] 151;simpa using this
 have HN:=h.bel hb0
 have HP:=hp.bel hb0
 have F0:=FN.of (B:=B) (pb:=pb) hb0
 have HQ:=hq.fn F0
 have hmf:∀(fn:Fn)(first cap:Array Value)(w:World),(Instr.makeFunc fn first cap).run Tryz.prog w=.ok (.func fn first cap) w:=fun _ _ _ _=>rfl
 subst hv
 rw[<-hR]
 clear h hp hq hb0
 go_enter Tryz.func69,Tryz.ntmps69
 go_wp2_with fail
 generalize((w.alloc (.cells #[.pointer (some ⟨pb,0,none⟩)] 126)).alloc (.cells #[.iface tv (.agg xv)] 151))=W0 at X1 X2 HN HP F0 HQ⊢
 generalize w.heap.size=b1 at n1 n2 X1 X2⊢
 have c1:=X1.c
 have f1:=X1.f
 have z1:=X1.z
 have c2:=X2.c
 have f2:=X2.f
 have z2:=X2.z
 have HRK:Hid (∀W,Below W0.heap.size W0 W->Calls Tryz.prog 131 #[.iface tv (.agg xv)] W fun e w'=>e=.returned (.int .i64 (r:Int))/\Below W.heap.size W w'):=ai (fun W hW=>by rw[hr];exact rankOf_C (HP.bel hW))
 have HG:Hid (∀W,Below W0.heap.size W0 W->Calls Tryz.prog 130 #[.pointer (some ⟨pb,0,none⟩),.bool (decide (r<k)),.func (.func 132) #[] #[.pointer (some ⟨b1,0,none⟩),.pointer (some ⟨b1+1,0,none⟩)]] W fun e w'=>e=.returned (.tuple #[])/\R e w'/\w'.cell? ⟨b1,0,none⟩=some (.pointer (some ⟨pb,0,none⟩))/\w'.cell? ⟨b1+1,0,none⟩=some (.iface tv (.agg xv))):=ai (fun W hW=>by
  have FW:=FN.of (B:=B) (pb:=pb) hW
  rw[hr]
  refine(group_C HB k hk (HN.bel hW) (HP.bel hW) (HQ.fn FW) hl hB b1 (b1+1) (X1.below hW) (X2.below hW) n1 n2).mono ?_
  rintro e w2⟨rfl,bv2,last2,hN2,fi2,hF2⟩
  have Y1:=hF2.pn_ne (X1.below hW) n1 (by intro x hx c;simp at hx;subst hx;intro q;cases q)
  have Y2:=hF2.pn_ne (X2.below hW) n2 (by intro x hx c;simp at hx;subst hx;intro q;cases q)
  refine⟨rfl,?_,Y1.c 0,Y2.c 0⟩
  rw[hR]
  exact⟨rfl,bv2,last2,hN2,fi2,F0.trans (FW.trans hF2)⟩)
 clear HB HN HP HQ F0 hR hr hl X1 X2 n1 n2 hzp hk hB
 have k1:W0.cell? ⟨b1,0,none⟩=some (.pointer (some ⟨pb,0,none⟩)):=c1 0
 have k2:W0.cell? ⟨b1+1,0,none⟩=some (.iface tv (.agg xv)):=c2 0
 clear c1 c2 f1 f2
 go_region_held3(fun w'=>w'.cell? ⟨b1,0,none⟩=some (.pointer (some ⟨pb,0,none⟩))/\w'.cell? ⟨b1+1,0,none⟩=some (.iface tv (.agg xv))) (first|go_keep|(simp[*])) (first|(go_at_call 131;refine(uh HRK _ (Below.refl _ _).drew).mono ?_;rintro e w1⟨rfl,hb1⟩;have HB1:=ai (drew_bel hb1);have k3:w1.cell? ⟨b1,0,none⟩=some (.pointer (some ⟨pb,0,none⟩)):=(World.cell?_of_block (a:=⟨b1,0,none⟩) ((uh HB1).block b1 z1)).trans k1;have k4:w1.cell? ⟨b1+1,0,none⟩=some (.iface tv (.agg xv)):=(World.cell?_of_block (a:=⟨b1+1,0,none⟩) ((uh HB1).block (b1+1) z2)).trans k2;clear hb1)|(go_at_call 130;with_reducible refine(uh HG _ (uh HB1)).mono ?_;rintro e w2⟨rfl,hR2,k5,k6⟩;have HR2:=ai hR2;clear hR2))
 all_goals(
  go_wp2_with fail
  go_end0
  exact uh HR2)
end
end
end Go.Proofs.YtoceemjbcgmojaaGreatDoor

import Derived.Test.YtoceemjbcgmojaaGreatDoorQSg
set_option linter.all false
set_option maxRecDepth 100000
set_option maxHeartbeats 4000000
namespace Go.Proofs.YtoceemjbcgmojaaGreatDoor
section
open Go Go.RowKit
theorem own_ke{rb:Nat}{w w':World}{base:Nat}{e:TypeId}{size:Nat}{v:Value}{n:Nat}{xs:List Value}(h:w.ownsRow base e size v n xs)(hb:Ke rb w w')(hr:rb<base):w'.ownsRow base e size v n xs:=by
 obtain⟨h1,h2⟩:=h
 refine⟨h1,?_⟩
 rcases h2 with h2|⟨q,cap,cur,hv,hg,hh,r⟩
 .exact Or.inl h2
 .refine Or.inr ⟨q,cap,cur,hv,hg,?_,r⟩
  rw[hb.block q (Array.getElem?_eq_some_iff.1 hh).1 (by omega),hh]
theorem qb4{w:World}{base:Nat}{e:TypeId}{size:Nat}{v:Value}{n:Nat}{xs:List Value}(h:w.ownsRow base e size v n xs){b:Nat}(hb:b<base)(j:Nat)(u:Value):(w.setCell ⟨b,j,none⟩ u).ownsRow base e size v n xs:=
 ownsRow_setCell_below h (a:=⟨b,j,none⟩) hb u
section
variable {W w3:World} {row:Option Nat} (hg:W.grownBy w3 row)
include hg
theorem SS.grown{rb g cap:Nat}{T:List Pu.Tok}{σ:St}(h:SS W rb g cap T σ)(hr:∀j,row=some j->j≠rb/\j≠g):SS w3 rb g cap T σ:=
 h.same hg.size (hg.block rb h.hr (fun e=>(hr rb e.symm).1 rfl)) (hg.block g h.hg (fun e=>(hr g e.symm).2 rfl))
theorem Bx.grown{b:Nat}{C:Array Value}(h:Bx W b C)(hr:∀j,row=some j->j≠b):Bx w3 b C:=h.same hg.size (hg.block b h.z (fun e=>hr b e.symm rfl))
theorem NR.grown{P:Nat->Prop}{nd:Nd}{x:NV}(h:NR W P nd x)(hr:∀j b,row=some j->P b->j≠b):NR w3 P nd x:=
 h.move hg.size (fun b p hz=>hg.block b hz (fun e=>hr b b e.symm p rfl)) (fun _ p _=>p)
theorem Ke.grown{rb:Nat}{a:World}(h:Ke rb a W)(hr:∀j,row=some j->a.heap.size<=j):Ke rb a w3:=
 ⟨hg.os.trans h.os,hg.tape.trans h.tape,hg.output.trans h.output,Nat.le_trans h.size hg.size,fun k hk hn=>(hg.block k (Nat.lt_of_lt_of_le hk h.size) (fun e=>by have:=hr k e.symm;omega)).trans (h.block k hk hn)⟩
end
theorem nodeInfo:(Tryz.prog.info? 62).map (fun i=>(i.zero,i.size,i.bytes))=some (some (.agg #[.int .i64 0,.string ⟨#[]⟩,.int .i64 0,.slice none 0 0,.int .i64 0,.int .i64 0,.int .i64 0]),7,80):=by kernel_rfl
theorem qfh:Tryz.prog.underlying 60=some (.slice 62):=by kernel_rfl
theorem NR.ofOwn{w:World}{P:Nat->Prop}(k:Nat)(s:BA)(n:Nat)(f t a:Nat)(L:List Nd)(xs:List NV)(hl:xs.length=L.length){base:Nat}{e:TypeId}{va:Option Addr}{vc:Nat}(ho:w.ownsRow base e 7 (.slice va xs.length vc) xs.length (flat xs))(hv:xs=[]->va=none/\vc=0)(hr:∀i(h:i<L.length),NR w P L[i] (xs[i]'(by omega)))(hP:∀q,base<=q->q<w.heap.size->P q):
 NR w P (.mk k s n L f t a) ⟨k,s,n,va,xs.length,vc,f,t,a⟩:=by
 by_cases hL:L=[]
 .subst hL
  have hx:xs=[]:=List.eq_nil_of_length_eq_zero hl
  obtain⟨rfl,rfl⟩:=hv hx
  subst hx
  exact .leaf k s n f t a
 obtain⟨h1,h2⟩:=ho
 rcases h2 with⟨hn,hz⟩|⟨q,cap,cur,hvv,hg,hh,hc1,hc2,hcs,ht⟩
 .exact absurd (List.eq_nil_of_length_eq_zero (by omega)) hL
 .injection hvv with e1 e2 e3
  subst e1 e3
  have hq:q<w.heap.size:=(Array.getElem?_eq_some_iff.1 hh).1
  have hx:∀i(h:i<L.length),xs.getD i NV.no=xs[i]'(by omega):=fun i h=>by rw[List.getD_eq_getElem?_getD,List.getElem?_eq_getElem (by omega)];rfl
  rw[hl]
  refine .row k s n L f t a q vc (fun i=>xs.getD i NV.no) hL (hP q hg hq) hq (fun i hi j hj=>?_) (fun i hi=>by rw[hx i hi];exact hr i hi)
  rw[hx i hi,<-flat_at xs i j (by omega) hj,<-ht]
  have hlt:i*7+j<xs.length*7:=by omega
  simp only[World.cell?,hh]
  rw[List.getElem?_take_of_lt hlt]
  simp
theorem qb6{w:World}{base:Nat}{e:TypeId}{size:Nat}{v:Value}{n:Nat}{xs:List Value}(h:w.ownsRow base e size v n xs)(hn:0<n):∃q c,v=.slice (some ⟨q,0,none⟩) n c:=by
 obtain⟨_,h2⟩:=h
 rcases h2 with⟨_,h0⟩|⟨q,c,_,hv,_⟩
 .omega
 .exact⟨q,c,hv⟩
theorem own_num{w:World}{base:Nat}{e:TypeId}{size:Nat}{v:Value}{n n':Nat}{xs xs':List Value}(h:w.ownsRow base e size v n xs)(hn:n=n')(hx:xs=xs'):w.ownsRow base e size v n' xs':=by subst hn;subst hx;exact h
end
section
open Go Go.RowKit Un
theorem own_same{w w':World}{base:Nat}{e:TypeId}{size:Nat}{v:Value}{n:Nat}{xs:List Value}(h:w.ownsRow base e size v n xs)(hb:∀g,v.ownBlock=some g->w'.heap[g]? =w.heap[g]?):w'.ownsRow base e size v n xs:=by
 obtain⟨h1,h2⟩:=h
 refine⟨h1,?_⟩
 rcases h2 with h2|⟨g,cap,cur,hv,hg,hh,r⟩
 .exact Or.inl h2
 .exact Or.inr ⟨g,cap,cur,hv,hg,by rw[hb g (by rw[hv];rfl)];exact hh,r⟩
structure Fr(S:Nat->Prop)(w w':World):Prop where
 os:w'.os=w.os
 tape:w'.tape=w.tape
 output:w'.output=w.output
 size:w.heap.size<=w'.heap.size
 block:∀k,k<w.heap.size->¬S k->w'.heap[k]? =w.heap[k]?
theorem Fr.refl(S:Nat->Prop)(w:World):Fr S w w:=⟨rfl,rfl,rfl,br _,fun _ _ _=>rfl⟩
theorem Fr.of{S:Nat->Prop}{w w':World}(h:Below w.heap.size w w'):Fr S w w':=⟨h.os,h.tape,h.output,h.size,fun k hk _=>h.block k hk⟩
theorem Fr.trans{S:Nat->Prop}{a b c:World}(h:Fr S a b)(k:Fr S b c):Fr S a c:=
 ⟨k.os.trans h.os,k.tape.trans h.tape,k.output.trans h.output,Nat.le_trans h.size k.size,fun i hi hn=>(k.block i (Nat.lt_of_lt_of_le hi h.size) hn).trans (h.block i hi hn)⟩
theorem Fr.set{S:Nat->Prop}{a w:World}(h:Fr S a w){b:Nat}(hb:S b\/a.heap.size<=b)(j:Nat)(u:Value):Fr S a (w.setCell ⟨b,j,none⟩ u):=
 ⟨h.os,h.tape,h.output,by simpa[World.setCell]using h.size,fun k hk hn=>by
  rw[Below.heap_setCell _ _ _ _ (by show k≠b;rintro rfl;rcases hb with hb|hb;exact hn hb;omega)];exact h.block k hk hn⟩
theorem Fr.drew{S:Nat->Prop}{a w:World}(h:Fr S a w):Fr S a w.drew:=⟨h.os,h.tape,h.output,h.size,h.block⟩
section
variable {w:World} {kb:Nat} {hv iv:Value} {N:Nat} {K:Nat->Option Ty} {P:Nat->Prop}
end
end
section
open Go Go.RowKit Un
section
variable {kb:Nat} {hv iv:Value} {N:Nat}
theorem toList_inj{a b:BA}(h:a.toList=b.toList):a=b:=by
 rw[ByteArray.toList_eq,ByteArray.toList_eq]at h
 exact ByteArray.ext (Array.ext' h)
end
end
section
open Go Go.RowKit
section
variable {rb g cap:Nat} {T:List Pu.Tok} {σ:St} {w:World}
def HeadRel(rb g cap:Nat)(T:List Pu.Tok)(small:M Nd)(sort k:Nat)(w:World)(bx:Nat)(gk:Nat)(wr:World):Prop:=
 ∃(σr:St)(xs:List NV)(va:Option Addr)(vc:Nat)(to:Nat),
  SS wr rb g cap T σr/\Ke rb w wr/\bx<wr.heap.size/\
  Bx wr bx #[.int .i64 2,.string (tk T k).text,.int .i64 0,.slice va xs.length vc,.int .i64 ((tk T k).frm:Int),.int .i64 (to:Int),.int .i64 ((tk T k).frm:Int)]/\Bx wr w.heap.size qat/\
  wr.ownsRow (bx+1) 62 7 (.slice va xs.length vc) xs.length (flat xs)/\(xs=[]->va=none/\vc=0)/\
  (match σr with
   |.error fl=>xs.length<=1002/\Hid (qbv T small sort T.length (qb3 (tk T k)) (k+1)=.error fl)
   |.ok k'=>Hid (gk=T.length-k')/\k+1<=k'/\xs.length<=k'/\∃(L:List Nd)(f:Nat)(P:Nat->Prop),Hid (xs.length=L.length)/\T.length<=k'+f/\Hid (qbv T small sort T.length (qb3 (tk T k)) (k+1)=qbv T small sort f (.mk 2 (tk T k).text 0 L (tk T k).frm to (tk T k).frm) k')/\
    (∀b,P b->bx+1<=b/\b<wr.heap.size)/\(∀b q,P b->(Value.slice va xs.length vc).ownBlock=some q->q≠b)/\∀i(h:i<L.length)(h2:i<xs.length),NR wr P L[i] xs[i])
theorem headF_step{small:M Nd}{sort f:Nat}{x b:Nd}{k k2:Nat}(hb:qai (tk T k) sort=true)(hs:small k=.ok (b,k2)):qbv T small sort (f+1) x k=qbv T small sort f (x.add b (qan T k2)) k2:=by
 show(if qai (tk T k) sort=true then bnd small (fun y k'=>qbv T small sort f (x.add y (qan T k')) k') k else .ok (x,k))=_
 rw[if_pos hb,qcd hs]
theorem headF_err{small:M Nd}{sort f:Nat}{x:Nd}{k:Nat}{e:Fl}(hb:qai (tk T k) sort=true)(hs:small k=.error e):qbv T small sort (f+1) x k=.error e:=by
 show(if qai (tk T k) sort=true then bnd small (fun y k'=>qbv T small sort f (x.add y (qan T k')) k') k else .ok (x,k))=_
 rw[if_pos hb,qb8 hs]
theorem head_up{n k:Nat}{small:M Nd}(h:SS w rb g cap T (.ok k))(sort:Nat)(hs:sort=1\/sort=2\/sort=3)(hf:T.length<=k+n)(HS:NodeC rb g cap T 203 #[.pointer (some ⟨rb,0,none⟩),.int .i64 (sort:Int)] small n)(hk:(tk T k).kind=2)(hm:∀k a k',small k=.ok (a,k')->k<k')(hsm:small k=.ok (qb3 (tk T k),k+1)):
 Calls Tryz.prog 118 #[.pointer (some ⟨rb,0,none⟩),.int .i64 (sort:Int)] w fun e w'=>∃x:NV,e=.returned x.v/\Ke rb w w'/\SS w' rb g cap T (nx (.ok (k+1)) (qbv T small sort T.length (qb3 (tk T k))))/\∀a k',qbv T small sort T.length (qb3 (tk T k)) (k+1)=.ok (a,k')->NR w' (fun b=>w.heap.size<=b) a x:=by
 have HS':=ai HS
 have hu:ofS T (.ok k) 2=true:=by simp[ofS,hk]
 have hT:T.length<=1001:=by have h':RS w rb g cap T k noFl:=h;exact h'.hT
 have hlf:qb3 (tk T k)=.mk 2 (tk T k).text 0 [] (tk T k).frm (tk T k).to (tk T k).frm:=by unfold qb3;simp[qa6,qa9,hk]
 have Hlf:=ai hlf
 have hsm':=ai hsm
 have hm':=ai hm
 obtain⟨i0,hi0,hz0,hz1,hz2⟩:=info_parts nodeInfo
 clear HS hk hlf hsm hm
 have hr:=h.hr
 have hg:=h.hg
 have H1:=ai h
 have K2:=ai (Ke.refl rb w)
 clear h
 go_enter Tryz.func118,Tryz.ntmps118
 go_wp2_with fail
 have H3:=ai ((uh H1).alloc (.cells qat 62))
 have K4:=ai ((uh K2).alloc (.cells qat 62))
 have B5:=ai (Bx.at w qat 62 (w.heap.size) (by simp[World.setCell]))
 clear H1 K2
 refine(of_S (uh H3) 2).mono ?_
 rintro e w1⟨rfl,hb⟩
 have H6:=ai ((uh H3).below hb)
 have K7:=ai ((uh K4).below hb)
 have z8:=hb.size
 try simp[World.setCell]at z8
 have B9:=ai ((uh B5).below hb)
 clear H3 K4 B5 hb
 obtain⟨c10,f11,y12⟩:=uh B9
 go_wp2_with fail
 clear c10 f11 y12
 refine(uh HS' _ _ (uh H6) (by intro j hj;cases hj;omega)).mono ?_
 rintro e w2⟨x,rfl,hb,hS,hN⟩
 have H16:=ai hS
 have K17:=ai ((uh K7).trans hb)
 have z18:=hb.size
 try simp[World.setCell]at z18
 have B19:=ai ((uh B9).ke hb (by omega))
 clear H6 K7 B9 hb hS
 obtain⟨c20,f21,y22⟩:=uh B19
 rw[qas (uh hsm')]at H16
 have hN1:=hN _ _ _ rfl (uh hsm')
 rw[uh Hlf]at hN1
 clear hN
 obtain rfl:x=⟨2,(tk T k).text,0,none,0,0,((tk T k).frm:Int),((tk T k).to:Int),((tk T k).frm:Int)⟩:=by
  cases hN1 with
  |leaf=>rfl|row _ _ _ _ _ _ _ _ _ _ h0=>exact absurd rfl h0
 clear hN1
 unfold NV.v
 go_wp2_with fail
 have H23:=ai ((uh H16).alloc (.cells #[.int .i64 2,.string (tk T k).text,.int .i64 0,.slice none 0 0,.int .i64 ((tk T k).frm:Int),.int .i64 ((tk T k).to:Int),.int .i64 ((tk T k).frm:Int)] 62))
 have K24:=ai ((uh K17).alloc (.cells #[.int .i64 2,.string (tk T k).text,.int .i64 0,.slice none 0 0,.int .i64 ((tk T k).frm:Int),.int .i64 ((tk T k).to:Int),.int .i64 ((tk T k).frm:Int)] 62))
 have B25:=ai ((uh B19).alloc (.cells #[.int .i64 2,.string (tk T k).text,.int .i64 0,.slice none 0 0,.int .i64 ((tk T k).frm:Int),.int .i64 ((tk T k).to:Int),.int .i64 ((tk T k).frm:Int)] 62))
 have B26:=ai (Bx.at w2 #[.int .i64 2,.string (tk T k).text,.int .i64 0,.slice none 0 0,.int .i64 ((tk T k).frm:Int),.int .i64 ((tk T k).to:Int),.int .i64 ((tk T k).frm:Int)] 62 (w2.heap.size) (by simp[World.setCell]))
 clear H16 K17 B19 c20 f21 y22
 go_loopg[] (T.length-(k+1)) (fun gk wr=>HeadRel rb g cap T small sort k w w2.heap.size gk wr)
 case atStart=>exact⟨.ok (k+1),[],none,0,(tk T k).to,uh H23,uh K24,by simp,uh B26,uh B25,⟨rfl,Or.inl ⟨rfl,rfl⟩⟩,fun _=>⟨rfl,rfl⟩,ai rfl,br _,by simp,[],T.length,(fun _=>False),ai rfl,by omega,by show qbv _ _ _ _ _ _=_;rw[uh Hlf],fun _ q=>q.elim,fun _ _ q=>q.elim,fun i hi _=>absurd hi (by simp)⟩
 case round=>
  clear H23 K24 B25 B26
  obtain⟨σr,xs,va,vc,to,HR,KR,zx,BX,BR,OR,hnil,hst⟩:=hrel
  have HR:=ai HR
  have KR:=ai KR
  have BX:=ai BX
  have BR:=ai BR
  have OR:=ai OR
  have hnil:=ai hnil
  have zr:=(uh KR).size
  cases σr with
  |error fl=>
   obtain⟨c0,f0,y0⟩:=uh BX
   obtain⟨c1,f1,y1⟩:=uh BR
   obtain⟨hx,hE⟩:=hst
   go_wp2_with fail
   refine(ok_S (uh HR)).mono ?_
   rintro e w9⟨rfl,rfl⟩
   go_wp2_with fail
   have H501:=ai ((uh HR).set7 (b:=w.heap.size) (by omega) (by omega) (.int .i64 2) (.string (tk T k).text) (.int .i64 0) (.slice va xs.length vc) (.int .i64 ((tk T k).frm:Int)) (.int .i64 (to:Int)) (.int .i64 ((tk T k).frm:Int)))
   have K502:=ai ((uh KR).set7 (b:=w.heap.size) (by omega) (.int .i64 2) (.string (tk T k).text) (.int .i64 0) (.slice va xs.length vc) (.int .i64 ((tk T k).frm:Int)) (.int .i64 (to:Int)) (.int .i64 ((tk T k).frm:Int)))
   have B503:=ai ((uh BR).set7 rfl (.int .i64 2) (.string (tk T k).text) (.int .i64 0) (.slice va xs.length vc) (.int .i64 ((tk T k).frm:Int)) (.int .i64 (to:Int)) (.int .i64 ((tk T k).frm:Int)))
   have B504:=ai ((uh BX).setO7 (b:=w.heap.size) (by omega) (.int .i64 2) (.string (tk T k).text) (.int .i64 0) (.slice va xs.length vc) (.int .i64 ((tk T k).frm:Int)) (.int .i64 (to:Int)) (.int .i64 ((tk T k).frm:Int)))
   have O505:=ai (qb4 (qb4 (qb4 (qb4 (qb4 (qb4 (qb4 (uh OR) (b:=w.heap.size) (by omega) 0 (.int .i64 2)) (b:=w.heap.size) (by omega) 1 (.string (tk T k).text)) (b:=w.heap.size) (by omega) 2 (.int .i64 0)) (b:=w.heap.size) (by omega) 3 (.slice va xs.length vc)) (b:=w.heap.size) (by omega) 4 (.int .i64 ((tk T k).frm:Int))) (b:=w.heap.size) (by omega) 5 (.int .i64 (to:Int))) (b:=w.heap.size) (by omega) 6 (.int .i64 ((tk T k).frm:Int)))
   clear HR KR BR BX OR c0 f0 y0 c1 f1 y1
   obtain⟨cF,fF,zF⟩:=uh B503
   refine bodyPost_ret (v:=NV.v ⟨2,(tk T k).text,0,va,xs.length,vc,((tk T k).frm:Int),(to:Int),((tk T k).frm:Int)⟩) (by simp[results,Tryz.results118,go_sem,cF,NV.v];try rfl) rfl ⟨_,rfl,uh K502,?_,fun a k' hq=>?_⟩
   .rw[qbn (uh hE)];exact uh H501
   .rw[uh hE]at hq;cases hq
  |ok kr=>
   obtain⟨hgk,hkr,hxk,L,f,P,hl,hfu,hE,hPr,hPq,hNN⟩:=hst
   have hPr:=ai hPr
   have hPq:=ai hPq
   have hNN:=ai hNN
   have hkT:kr<T.length:=by have h':RS wr rb g cap T kr noFl:=uh HR;exact h'.hk
   rcases hbg:qai (tk T kr) sort with _|_
   .obtain⟨c0,f0,y0⟩:=uh BX
    obtain⟨c1,f1,y1⟩:=uh BR
    go_wp2_with fail
    refine(ok_S (uh HR)).mono ?_
    rintro e w9⟨rfl,rfl⟩
    go_wp2_with fail
    refine(qb5 (uh HR)).mono ?_
    rintro e w3⟨t,rfl,hb,ht⟩
    have H501:=ai ((uh HR).below hb)
    have K502:=ai ((uh KR).below hb)
    have z503:=hb.size
    try simp[World.setCell]at z503
    have B504:=ai ((uh BR).below hb)
    have B505:=ai ((uh BX).below hb)
    have R506:=ai (fun i hi h2=>NR.bel (uh hNN i hi h2) hb)
    have O507:=ai (qcj (uh OR) hb)
    clear HR KR BR BX hNN OR hb
    obtain⟨c508,f509,y510⟩:=uh B504
    obtain⟨c511,f512,y513⟩:=uh B505
    have ht':=ht kr rfl
    subst ht'
    clear ht
    unfold tokV
    go_wp2_with fail
    refine(qbt (tk T kr) _ sort hs).mono ?_
    rintro e w4⟨rfl,hb⟩
    have H514:=ai ((uh H501).below hb)
    have K515:=ai ((uh K502).below hb)
    have z516:=hb.size
    try simp[World.setCell]at z516
    have B517:=ai ((uh B504).below hb)
    have B518:=ai ((uh B505).below hb)
    have R519:=ai (fun i hi h2=>NR.bel (uh R506 i hi h2) hb)
    have O520:=ai (qcj (uh O507) hb)
    clear H501 K502 B504 B505 R506 O507 hb
    obtain⟨c521,f522,y523⟩:=uh B517
    obtain⟨c524,f525,y526⟩:=uh B518
    go_wp2_with fail
    have hF:qbv T small sort f (.mk 2 (tk T k).text 0 L (tk T k).frm to (tk T k).frm) kr=.ok (.mk 2 (tk T k).text 0 L (tk T k).frm to (tk T k).frm,kr):=by
     cases f with
     |zero=>rfl|succ f=>unfold qbv;rw[if_neg (by simp[hbg])]
    have hE2:=ai ((uh hE).trans hF)
    clear hF hE
    have H527:=ai ((uh H514).set7 (b:=w.heap.size) (by omega) (by omega) (.int .i64 2) (.string (tk T k).text) (.int .i64 0) (.slice va xs.length vc) (.int .i64 ((tk T k).frm:Int)) (.int .i64 (to:Int)) (.int .i64 ((tk T k).frm:Int)))
    have K528:=ai ((uh K515).set7 (b:=w.heap.size) (by omega) (.int .i64 2) (.string (tk T k).text) (.int .i64 0) (.slice va xs.length vc) (.int .i64 ((tk T k).frm:Int)) (.int .i64 (to:Int)) (.int .i64 ((tk T k).frm:Int)))
    have B529:=ai ((uh B517).set7 rfl (.int .i64 2) (.string (tk T k).text) (.int .i64 0) (.slice va xs.length vc) (.int .i64 ((tk T k).frm:Int)) (.int .i64 (to:Int)) (.int .i64 ((tk T k).frm:Int)))
    have B530:=ai ((uh B518).setO7 (b:=w.heap.size) (by omega) (.int .i64 2) (.string (tk T k).text) (.int .i64 0) (.slice va xs.length vc) (.int .i64 ((tk T k).frm:Int)) (.int .i64 (to:Int)) (.int .i64 ((tk T k).frm:Int)))
    have R531:=ai (fun i hi h2=>(qcf (uh R519 i hi h2) (b2:=w.heap.size) (fun b hb _=>by have:=uh hPr b hb;omega) (.int .i64 2) (.string (tk T k).text) (.int .i64 0) (.slice va xs.length vc) (.int .i64 ((tk T k).frm:Int)) (.int .i64 (to:Int)) (.int .i64 ((tk T k).frm:Int))))
    have O532:=ai (qb4 (qb4 (qb4 (qb4 (qb4 (qb4 (qb4 (uh O520) (b:=w.heap.size) (by omega) 0 (.int .i64 2)) (b:=w.heap.size) (by omega) 1 (.string (tk T k).text)) (b:=w.heap.size) (by omega) 2 (.int .i64 0)) (b:=w.heap.size) (by omega) 3 (.slice va xs.length vc)) (b:=w.heap.size) (by omega) 4 (.int .i64 ((tk T k).frm:Int))) (b:=w.heap.size) (by omega) 5 (.int .i64 (to:Int))) (b:=w.heap.size) (by omega) 6 (.int .i64 ((tk T k).frm:Int)))
    clear H514 K515 B517 B518 R519 O520 c0 f0 y0 c1 f1 y1 c508 f509 y510 c511 f512 y513 c521 f522 y523 c524 f525 y526
    obtain⟨cF,fF,zF⟩:=uh B529
    refine bodyPost_ret (v:=NV.v ⟨2,(tk T k).text,0,va,xs.length,vc,((tk T k).frm:Int),(to:Int),((tk T k).frm:Int)⟩) (by simp[results,Tryz.results118,go_sem,cF,NV.v];try rfl) rfl ⟨_,rfl,uh K528,?_,fun a k' hq=>?_⟩
    .rw[qas (uh hE2)];exact uh H527
    .rw[uh hE2]at hq
     cases hq
     exact(NR.ofOwn (P:=fun b=>w.heap.size<=b) 2 _ 0 _ _ _ L xs (uh hl) (uh O532) (uh hnil) (fun i hi=>(uh R531 i hi (by have:=uh hl;omega)).wide _ (fun b hb=>by have:=uh hPr b hb;omega)) (fun q h1 h2=>by omega))
   .have hrow:=ai (qa3 (uh OR))
    rcases hsk:small kr with fl|⟨b,k2⟩
    .obtain⟨c0,f0,y0⟩:=uh BX
     obtain⟨c1,f1,y1⟩:=uh BR
     go_wp2_with fail
     refine(ok_S (uh HR)).mono ?_
     rintro e w9⟨rfl,rfl⟩
     go_wp2_with fail
     refine(qb5 (uh HR)).mono ?_
     rintro e w3⟨t,rfl,hb,ht⟩
     have H501:=ai ((uh HR).below hb)
     have K502:=ai ((uh KR).below hb)
     have z503:=hb.size
     try simp[World.setCell]at z503
     have B504:=ai ((uh BR).below hb)
     have B505:=ai ((uh BX).below hb)
     have R506:=ai (fun i hi h2=>NR.bel (uh hNN i hi h2) hb)
     have O507:=ai (qcj (uh OR) hb)
     clear HR KR BR BX hNN OR hb
     obtain⟨c508,f509,y510⟩:=uh B504
     obtain⟨c511,f512,y513⟩:=uh B505
     have ht':=ht kr rfl
     subst ht'
     clear ht
     unfold tokV
     go_wp2_with fail
     refine(qbt (tk T kr) _ sort hs).mono ?_
     rintro e w4⟨rfl,hb⟩
     have H514:=ai ((uh H501).below hb)
     have K515:=ai ((uh K502).below hb)
     have z516:=hb.size
     try simp[World.setCell]at z516
     have B517:=ai ((uh B504).below hb)
     have B518:=ai ((uh B505).below hb)
     have R519:=ai (fun i hi h2=>NR.bel (uh R506 i hi h2) hb)
     have O520:=ai (qcj (uh O507) hb)
     clear H501 K502 B504 B505 R506 O507 hb
     obtain⟨c521,f522,y523⟩:=uh B517
     obtain⟨c524,f525,y526⟩:=uh B518
     go_wp2_with fail
     refine(uh HS' _ _ (uh H514) (by intro j hj;cases hj;omega)).mono ?_
     rintro e w5⟨y,rfl,hb,hS,hN⟩
     have H527:=ai hS
     have K528:=ai ((uh K515).trans hb)
     have z529:=hb.size
     try simp[World.setCell]at z529
     have B530:=ai ((uh B517).ke hb (by omega))
     have B531:=ai ((uh B518).ke hb (by omega))
     have R532:=ai (fun i hi h2=>NR.ke (uh R519 i hi h2) hb (fun b hb=>by have:=uh hPr b hb;omega))
     have O533:=ai (own_ke (uh O520) hb (by omega))
     clear H514 K515 B517 B518 R519 O520 hb hS
     obtain⟨c534,f535,y536⟩:=uh B530
     obtain⟨c537,f538,y539⟩:=uh B531
     have hsk':=ai hsk
     rw[qbn (uh hsk')]at H527
     clear hN hsk
     unfold NV.v
     have H540:=ai (((uh H527).alloc (.cells (nvA y) 62)).alloc (.cells (nvA y) 62))
     have K541:=ai (((uh K528).alloc (.cells (nvA y) 62)).alloc (.cells (nvA y) 62))
     have B542:=ai (((uh B530).alloc (.cells (nvA y) 62)).alloc (.cells (nvA y) 62))
     have B543:=ai (((uh B531).alloc (.cells (nvA y) 62)).alloc (.cells (nvA y) 62))
     have B544:=ai ((Bx.at w5 (nvA y) 62 (w5.heap.size) (by simp[World.setCell])).alloc (.cells (nvA y) 62))
     have B545:=ai (Bx.at (w5.alloc (.cells (nvA y) 62)) #[.int .i64 y.k,.string y.s,.int .i64 y.n,.slice y.la y.ll y.lc,.int .i64 y.f,.int .i64 y.t,.int .i64 y.a] 62 (w5.heap.size+1) (by simp[World.setCell]))
     have R546:=ai (fun i hi h2=>(NR.bel (NR.bel (uh R532 i hi h2) (bw (.cells (nvA y) 62))) (bw (.cells (nvA y) 62))))
     have O547:=ai (((uh O533).alloc (.cells (nvA y) 62)).alloc (.cells (nvA y) 62))
     clear H527 K528 B530 B531 R532 O533
     go_wp2_with(at_builtin;go_must(refine wpList_append_own_at _ rfl (.tmp 28) (.tmp 30) 60 rfl (w2.heap.size+1) 62 i0 _ 7 80 qfh hi0 hz0 hz1 hz2 rfl (by decide) _ _ _ rfl (uh O547) ⟨w5.heap.size+1,0,none⟩ 1 1 [.int .i64 y.k,.string y.s,.int .i64 y.n,.slice y.la y.ll y.lc,.int .i64 y.f,.int .i64 y.t,.int .i64 y.a] rfl rfl (qbw _ _ _ _ (by simp)) (by intro u hu;simp at hu;rcases hu with rfl|rfl|rfl|rfl|rfl|rfl|rfl<;>rfl) (by unfold maxLen;omega) (by omega) (by simp<;>omega) ?_;intro v3 w6 hown3 hg3 hnil3 hat3;have hex:=qb6 hown3 (by omega);obtain⟨q3,c3,hv3⟩:=hex;subst hv3;have H548:=ai (SS.grown hg3 (uh H540) (fun j hj=>by have:=uh hrow j hj;omega));have K549:=ai (Ke.grown hg3 (uh K541) (fun j hj=>by have:=uh hrow j hj;omega));have z550:=hg3.size;try simp[World.setCell]at z550;have B551:=ai (Bx.grown hg3 (uh B542) (fun j hj=>by have:=uh hrow j hj;omega));have B552:=ai (Bx.grown hg3 (uh B543) (fun j hj=>by have:=uh hrow j hj;omega));have B553:=ai (Bx.grown hg3 (uh B544) (fun j hj=>by have:=uh hrow j hj;omega));have B554:=ai (Bx.grown hg3 (uh B545) (fun j hj=>by have:=uh hrow j hj;omega));have R555:=ai (fun i hi h2=>NR.grown hg3 (uh R546 i hi h2) (fun j b hj hb=>by have:=uh hrow j hj;have:=uh hPr b hb;have:=uh hPq b j hb hj;omega));clear H540 K541 B542 B543 B544 B545 R546;obtain⟨c556,f557,y558⟩:=uh B551;obtain⟨c559,f560,y561⟩:=uh B552;obtain⟨c562,f563,y564⟩:=uh B553;obtain⟨c565,f566,y567⟩:=uh B554;have OW:=ai hown3;have AT:=ai hat3;clear hown3 hg3 hnil3 hat3))
     have H568:=ai ((uh H548).set (b:=w2.heap.size) (by omega) (by omega) 3 (.slice (some ⟨q3,0,none⟩) (xs.length+1) c3))
     have K569:=ai ((uh K549).setNew (b:=w2.heap.size) (by omega) 3 (.slice (some ⟨q3,0,none⟩) (xs.length+1) c3))
     have B570:=ai ((uh B551).setO (b2:=w2.heap.size) (by omega) 3 (.slice (some ⟨q3,0,none⟩) (xs.length+1) c3))
     have B571:=ai ((uh B552).setS 3 (.slice (some ⟨q3,0,none⟩) (xs.length+1) c3) #[.int .i64 2,.string (tk T k).text,.int .i64 0,.slice (some ⟨q3,0,none⟩) (xs.length+1) c3,.int .i64 ((tk T k).frm:Int),.int .i64 (to:Int),.int .i64 ((tk T k).frm:Int)] rfl (by simp))
     have B572:=ai ((uh B553).setO (b2:=w2.heap.size) (by omega) 3 (.slice (some ⟨q3,0,none⟩) (xs.length+1) c3))
     have B573:=ai ((uh B554).setO (b2:=w2.heap.size) (by omega) 3 (.slice (some ⟨q3,0,none⟩) (xs.length+1) c3))
     have R574:=ai (fun i hi h2=>(NR.set (uh R555 i hi h2) (b2:=w2.heap.size) (fun b hb _=>by have:=uh hPr b hb;omega) 3 (.slice (some ⟨q3,0,none⟩) (xs.length+1) c3)))
     have O575:=ai (qb4 (uh OW) (b:=w2.heap.size) (by omega) 3 (.slice (some ⟨q3,0,none⟩) (xs.length+1) c3))
     clear H548 K549 B551 B552 B553 B554 R555 OW c0 f0 y0 c1 f1 y1 c508 f509 y510 c511 f512 y513 c521 f522 y523 c524 f525 y526 c534 f535 y536 c537 f538 y539 c556 f557 y558 c559 f560 y561 c562 f563 y564 c565 f566 y567
     refine(qd1 (uh H568)).mono ?_
     rintro e w7⟨m,rfl,hb,hn⟩
     have H576:=ai ((uh H568).below hb)
     have K577:=ai ((uh K569).below hb)
     have z578:=hb.size
     try simp[World.setCell]at z578
     have B579:=ai ((uh B570).below hb)
     have B580:=ai ((uh B571).below hb)
     have B581:=ai ((uh B572).below hb)
     have B582:=ai ((uh B573).below hb)
     have R583:=ai (fun i hi h2=>NR.bel (uh R574 i hi h2) hb)
     have O584:=ai (qcj (uh O575) hb)
     clear H568 K569 B570 B571 B572 B573 R574 O575 hb
     obtain⟨c585,f586,y587⟩:=uh B579
     obtain⟨c588,f589,y590⟩:=uh B580
     obtain⟨c591,f592,y593⟩:=uh B581
     obtain⟨c594,f595,y596⟩:=uh B582
     have hn1:=ai hn
     clear hn
     go_wp2_with fail
     have H597:=ai ((uh H576).set (b:=w2.heap.size) (by omega) (by omega) 5 (.int .i64 (m:Int)))
     have K598:=ai ((uh K577).setNew (b:=w2.heap.size) (by omega) 5 (.int .i64 (m:Int)))
     have B599:=ai ((uh B579).setO (b2:=w2.heap.size) (by omega) 5 (.int .i64 (m:Int)))
     have B600:=ai ((uh B580).setS 5 (.int .i64 (m:Int)) #[.int .i64 2,.string (tk T k).text,.int .i64 0,.slice (some ⟨q3,0,none⟩) (xs.length+1) c3,.int .i64 ((tk T k).frm:Int),.int .i64 (m:Int),.int .i64 ((tk T k).frm:Int)] rfl (by simp))
     have B601:=ai ((uh B581).setO (b2:=w2.heap.size) (by omega) 5 (.int .i64 (m:Int)))
     have B602:=ai ((uh B582).setO (b2:=w2.heap.size) (by omega) 5 (.int .i64 (m:Int)))
     have R603:=ai (fun i hi h2=>(NR.set (uh R583 i hi h2) (b2:=w2.heap.size) (fun b hb _=>by have:=uh hPr b hb;omega) 5 (.int .i64 (m:Int))))
     have O604:=ai (qb4 (uh O584) (b:=w2.heap.size) (by omega) 5 (.int .i64 (m:Int)))
     clear H576 K577 B579 B580 B581 B582 R583 O584 c585 f586 y587 c588 f589 y590 c591 f592 y593 c594 f595 y596
     have e1:(xs++[y]).length=xs.length+1:=by simp
     have E1:=ai e1
     clear e1
     obtain⟨f2,rfl⟩:∃f2,f=f2+1:=⟨f-1,by omega⟩
     have hgk2:=uh hgk
     go_roundg 0
     case measure=>omega
     case rel=>
      refine⟨.error fl,xs++[y],some ⟨q3,0,none⟩,c3,m,uh H597,uh K598,by simp[World.setCell];omega,(by rw[uh E1];exact uh B600),uh B599,(by rw[uh E1];exact own_num (uh O604) rfl (by simp[flat,NV.l])),fun h=>by simp at h,by rw[uh E1];omega,?_⟩
      show qbv _ _ _ _ _ _=_
      rw[uh hE,headF_err hbg (uh hsk')]
    .obtain⟨c0,f0,y0⟩:=uh BX
     obtain⟨c1,f1,y1⟩:=uh BR
     go_wp2_with fail
     refine(ok_S (uh HR)).mono ?_
     rintro e w9⟨rfl,rfl⟩
     go_wp2_with fail
     refine(qb5 (uh HR)).mono ?_
     rintro e w3⟨t,rfl,hb,ht⟩
     have H501:=ai ((uh HR).below hb)
     have K502:=ai ((uh KR).below hb)
     have z503:=hb.size
     try simp[World.setCell]at z503
     have B504:=ai ((uh BR).below hb)
     have B505:=ai ((uh BX).below hb)
     have R506:=ai (fun i hi h2=>NR.bel (uh hNN i hi h2) hb)
     have O507:=ai (qcj (uh OR) hb)
     clear HR KR BR BX hNN OR hb
     obtain⟨c508,f509,y510⟩:=uh B504
     obtain⟨c511,f512,y513⟩:=uh B505
     have ht':=ht kr rfl
     subst ht'
     clear ht
     unfold tokV
     go_wp2_with fail
     refine(qbt (tk T kr) _ sort hs).mono ?_
     rintro e w4⟨rfl,hb⟩
     have H514:=ai ((uh H501).below hb)
     have K515:=ai ((uh K502).below hb)
     have z516:=hb.size
     try simp[World.setCell]at z516
     have B517:=ai ((uh B504).below hb)
     have B518:=ai ((uh B505).below hb)
     have R519:=ai (fun i hi h2=>NR.bel (uh R506 i hi h2) hb)
     have O520:=ai (qcj (uh O507) hb)
     clear H501 K502 B504 B505 R506 O507 hb
     obtain⟨c521,f522,y523⟩:=uh B517
     obtain⟨c524,f525,y526⟩:=uh B518
     go_wp2_with fail
     refine(uh HS' _ _ (uh H514) (by intro j hj;cases hj;omega)).mono ?_
     rintro e w5⟨y,rfl,hb,hS,hN⟩
     have H527:=ai hS
     have K528:=ai ((uh K515).trans hb)
     have z529:=hb.size
     try simp[World.setCell]at z529
     have B530:=ai ((uh B517).ke hb (by omega))
     have B531:=ai ((uh B518).ke hb (by omega))
     have R532:=ai (fun i hi h2=>NR.ke (uh R519 i hi h2) hb (fun b hb=>by have:=uh hPr b hb;omega))
     have O533:=ai (own_ke (uh O520) hb (by omega))
     clear H514 K515 B517 B518 R519 O520 hb hS
     obtain⟨c534,f535,y536⟩:=uh B530
     obtain⟨c537,f538,y539⟩:=uh B531
     have hsk':=ai hsk
     rw[qas (uh hsk')]at H527
     have hNy:=ai ((hN _ _ _ rfl (uh hsk')).rng w4.heap.size (fun b hb=>by simpa using hb))
     clear hN hsk
     unfold NV.v
     have H540:=ai (((uh H527).alloc (.cells (nvA y) 62)).alloc (.cells (nvA y) 62))
     have K541:=ai (((uh K528).alloc (.cells (nvA y) 62)).alloc (.cells (nvA y) 62))
     have B542:=ai (((uh B530).alloc (.cells (nvA y) 62)).alloc (.cells (nvA y) 62))
     have B543:=ai (((uh B531).alloc (.cells (nvA y) 62)).alloc (.cells (nvA y) 62))
     have B544:=ai ((Bx.at w5 (nvA y) 62 (w5.heap.size) (by simp[World.setCell])).alloc (.cells (nvA y) 62))
     have B545:=ai (Bx.at (w5.alloc (.cells (nvA y) 62)) #[.int .i64 y.k,.string y.s,.int .i64 y.n,.slice y.la y.ll y.lc,.int .i64 y.f,.int .i64 y.t,.int .i64 y.a] 62 (w5.heap.size+1) (by simp[World.setCell]))
     have R546:=ai (fun i hi h2=>(NR.bel (NR.bel (uh R532 i hi h2) (bw (.cells (nvA y) 62))) (bw (.cells (nvA y) 62))))
     have R547:=ai ((NR.bel (NR.bel (uh hNy) (bw (.cells (nvA y) 62))) (bw (.cells (nvA y) 62))))
     have O548:=ai (((uh O533).alloc (.cells (nvA y) 62)).alloc (.cells (nvA y) 62))
     clear H527 K528 B530 B531 R532 hNy O533
     go_wp2_with(at_builtin;go_must(refine wpList_append_own_at _ rfl (.tmp 28) (.tmp 30) 60 rfl (w2.heap.size+1) 62 i0 _ 7 80 qfh hi0 hz0 hz1 hz2 rfl (by decide) _ _ _ rfl (uh O548) ⟨w5.heap.size+1,0,none⟩ 1 1 [.int .i64 y.k,.string y.s,.int .i64 y.n,.slice y.la y.ll y.lc,.int .i64 y.f,.int .i64 y.t,.int .i64 y.a] rfl rfl (qbw _ _ _ _ (by simp)) (by intro u hu;simp at hu;rcases hu with rfl|rfl|rfl|rfl|rfl|rfl|rfl<;>rfl) (by unfold maxLen;omega) (by omega) (by simp<;>omega) ?_;intro v3 w6 hown3 hg3 hnil3 hat3;have hex:=qb6 hown3 (by omega);obtain⟨q3,c3,hv3⟩:=hex;subst hv3;have H549:=ai (SS.grown hg3 (uh H540) (fun j hj=>by have:=uh hrow j hj;omega));have K550:=ai (Ke.grown hg3 (uh K541) (fun j hj=>by have:=uh hrow j hj;omega));have z551:=hg3.size;try simp[World.setCell]at z551;have B552:=ai (Bx.grown hg3 (uh B542) (fun j hj=>by have:=uh hrow j hj;omega));have B553:=ai (Bx.grown hg3 (uh B543) (fun j hj=>by have:=uh hrow j hj;omega));have B554:=ai (Bx.grown hg3 (uh B544) (fun j hj=>by have:=uh hrow j hj;omega));have B555:=ai (Bx.grown hg3 (uh B545) (fun j hj=>by have:=uh hrow j hj;omega));have R556:=ai (fun i hi h2=>NR.grown hg3 (uh R546 i hi h2) (fun j b hj hb=>by have:=uh hrow j hj;have:=uh hPr b hb;have:=uh hPq b j hb hj;omega));have R557:=ai (NR.grown hg3 (uh R547) (fun j b hj hb=>by have:=uh hrow j hj;omega));clear H540 K541 B542 B543 B544 B545 R546 R547;obtain⟨c558,f559,y560⟩:=uh B552;obtain⟨c561,f562,y563⟩:=uh B553;obtain⟨c564,f565,y566⟩:=uh B554;obtain⟨c567,f568,y569⟩:=uh B555;have OW:=ai hown3;have AT:=ai hat3;clear hown3 hg3 hnil3 hat3))
     have H570:=ai ((uh H549).set (b:=w2.heap.size) (by omega) (by omega) 3 (.slice (some ⟨q3,0,none⟩) (xs.length+1) c3))
     have K571:=ai ((uh K550).setNew (b:=w2.heap.size) (by omega) 3 (.slice (some ⟨q3,0,none⟩) (xs.length+1) c3))
     have B572:=ai ((uh B552).setO (b2:=w2.heap.size) (by omega) 3 (.slice (some ⟨q3,0,none⟩) (xs.length+1) c3))
     have B573:=ai ((uh B553).setS 3 (.slice (some ⟨q3,0,none⟩) (xs.length+1) c3) #[.int .i64 2,.string (tk T k).text,.int .i64 0,.slice (some ⟨q3,0,none⟩) (xs.length+1) c3,.int .i64 ((tk T k).frm:Int),.int .i64 (to:Int),.int .i64 ((tk T k).frm:Int)] rfl (by simp))
     have B574:=ai ((uh B554).setO (b2:=w2.heap.size) (by omega) 3 (.slice (some ⟨q3,0,none⟩) (xs.length+1) c3))
     have B575:=ai ((uh B555).setO (b2:=w2.heap.size) (by omega) 3 (.slice (some ⟨q3,0,none⟩) (xs.length+1) c3))
     have R576:=ai (fun i hi h2=>(NR.set (uh R556 i hi h2) (b2:=w2.heap.size) (fun b hb _=>by have:=uh hPr b hb;omega) 3 (.slice (some ⟨q3,0,none⟩) (xs.length+1) c3)))
     have R577:=ai ((NR.set (uh R557) (b2:=w2.heap.size) (fun b hb _=>by omega) 3 (.slice (some ⟨q3,0,none⟩) (xs.length+1) c3)))
     have O578:=ai (qb4 (uh OW) (b:=w2.heap.size) (by omega) 3 (.slice (some ⟨q3,0,none⟩) (xs.length+1) c3))
     clear H549 K550 B552 B553 B554 B555 R556 R557 OW c0 f0 y0 c1 f1 y1 c508 f509 y510 c511 f512 y513 c521 f522 y523 c524 f525 y526 c534 f535 y536 c537 f538 y539 c558 f559 y560 c561 f562 y563 c564 f565 y566 c567 f568 y569
     refine(qd1 (uh H570)).mono ?_
     rintro e w7⟨m,rfl,hb,hn⟩
     have H579:=ai ((uh H570).below hb)
     have K580:=ai ((uh K571).below hb)
     have z581:=hb.size
     try simp[World.setCell]at z581
     have B582:=ai ((uh B572).below hb)
     have B583:=ai ((uh B573).below hb)
     have B584:=ai ((uh B574).below hb)
     have B585:=ai ((uh B575).below hb)
     have R586:=ai (fun i hi h2=>NR.bel (uh R576 i hi h2) hb)
     have R587:=ai (NR.bel (uh R577) hb)
     have O588:=ai (qcj (uh O578) hb)
     clear H570 K571 B572 B573 B574 B575 R576 R577 O578 hb
     obtain⟨c589,f590,y591⟩:=uh B582
     obtain⟨c592,f593,y594⟩:=uh B583
     obtain⟨c595,f596,y597⟩:=uh B584
     obtain⟨c598,f599,y600⟩:=uh B585
     have hn1:=ai hn
     clear hn
     go_wp2_with fail
     have H601:=ai ((uh H579).set (b:=w2.heap.size) (by omega) (by omega) 5 (.int .i64 (m:Int)))
     have K602:=ai ((uh K580).setNew (b:=w2.heap.size) (by omega) 5 (.int .i64 (m:Int)))
     have B603:=ai ((uh B582).setO (b2:=w2.heap.size) (by omega) 5 (.int .i64 (m:Int)))
     have B604:=ai ((uh B583).setS 5 (.int .i64 (m:Int)) #[.int .i64 2,.string (tk T k).text,.int .i64 0,.slice (some ⟨q3,0,none⟩) (xs.length+1) c3,.int .i64 ((tk T k).frm:Int),.int .i64 (m:Int),.int .i64 ((tk T k).frm:Int)] rfl (by simp))
     have B605:=ai ((uh B584).setO (b2:=w2.heap.size) (by omega) 5 (.int .i64 (m:Int)))
     have B606:=ai ((uh B585).setO (b2:=w2.heap.size) (by omega) 5 (.int .i64 (m:Int)))
     have R607:=ai (fun i hi h2=>(NR.set (uh R586 i hi h2) (b2:=w2.heap.size) (fun b hb _=>by have:=uh hPr b hb;omega) 5 (.int .i64 (m:Int))))
     have R608:=ai ((NR.set (uh R587) (b2:=w2.heap.size) (fun b hb _=>by omega) 5 (.int .i64 (m:Int))))
     have O609:=ai (qb4 (uh O588) (b:=w2.heap.size) (by omega) 5 (.int .i64 (m:Int)))
     clear H579 K580 B582 B583 B584 B585 R586 R587 O588 c589 f590 y591 c592 f593 y594 c595 f596 y597 c598 f599 y600
     have e1:(xs++[y]).length=xs.length+1:=by simp
     have E1:=ai e1
     clear e1
     obtain⟨f2,rfl⟩:∃f2,f=f2+1:=⟨f-1,by omega⟩
     have hk2:=uh hm' _ _ _ (uh hsk')
     have hgk2:=uh hgk
     have hl2:m=qan T k2:=uh hn1 k2 rfl
     subst hl2
     go_roundg(T.length-k2)
     case measure=>omega
     case rel=>
      refine⟨.ok k2,xs++[y],some ⟨q3,0,none⟩,c3,qan T k2,uh H601,uh K602,by simp[World.setCell];omega,(by rw[uh E1];exact uh B604),uh B603,(by rw[uh E1];exact own_num (uh O609) rfl (by simp[flat,NV.l])),fun h=>by simp at h,ai rfl,by omega,by rw[uh E1];omega,L++[b],f2,(fun b=>P b\/(w4.heap.size<=b/\b<w5.heap.size)),ai (by simp[uh hl]),by omega,?_,?_,?_,?_⟩
      .show qbv _ _ _ _ _ _=_
       rw[uh hE,headF_step hbg (uh hsk')]
       rfl
      .intro b hb
       simp only[World.setCell,Array.size_modify]
       rcases hb with hb|hb
       .have:=uh hPr b hb;omega
       .omega
      .intro b q hb hq
       rcases uh AT with a1|a1
       .rw[uh E1]at hq
        rw[show(Value.slice (some ⟨q3,0,none⟩) (xs.length+1) c3).ownBlock=some q3 from rfl]at hq a1
        cases hq
        rcases hb with hb|hb
        .exact uh hPq b q3 hb a1.symm
        .have:=uh hrow q3 a1.symm;omega
       .rw[uh E1]at hq
        rw[show(Value.slice (some ⟨q3,0,none⟩) (xs.length+1) c3).ownBlock=some q3 from rfl]at hq a1
        cases hq
        simp at a1
        rcases hb with hb|hb
        .have:=uh hPr b hb;omega
        .omega
      .intro i hi h2
       by_cases hlt:i<xs.length
       .rw[List.getElem_append_left hlt,List.getElem_append_left (by rw[<-uh hl];exact hlt)]
        exact(uh R607 i (by rw[<-uh hl];exact hlt) hlt).move (br _) (fun _ _ _=>rfl) (fun b hb _=>Or.inl hb)
       .have hi2:i=xs.length:=by simp at h2;omega
        subst hi2
        rw[List.getElem_append_right (br _),List.getElem_append_right (by rw[uh hl];exact br _)]
        simp only[Nat.sub_self,uh hl,List.getElem_cons_zero]
        exact(uh R608).move (br _) (fun _ _ _=>rfl) (fun b hb _=>Or.inr hb)
end
end
section
open Go Go.RowKit
section
variable {rb g cap:Nat} {T:List Pu.Tok} {σ:St} {w:World}
theorem head_C{n:Nat}{small:M Nd}(sort:Nat)(hs:sort=1\/sort=2\/sort=3)(HS:NodeC rb g cap T 203 #[.pointer (some ⟨rb,0,none⟩),.int .i64 (sort:Int)] small n)(hm:∀k a k',small k=.ok (a,k')->k<k')(hsm:∀k,(tk T k).kind=2->small k=.ok (qb3 (tk T k),k+1)):
 NodeC rb g cap T 118 #[.pointer (some ⟨rb,0,none⟩),.int .i64 (sort:Int)] (qdn T small sort) n:=by
 intro w σ h hf
 rcases hu:ofS T σ 2 with _|_
 .refine(head_plain h sort hf HS hu).mono ?_
  rintro e w'⟨x,he,hK,hS,hN⟩
  have hE:∀k,σ=.ok k->qdn T small sort k=small k:=by
   intro k hk
   subst hk
   have:(tk T k).kind≠2:=by simpa[ofS]using hu
   unfold qdn
   rw[if_neg (by simpa using this)]
  refine⟨x,he,hK,?_,fun k a k' hk hq=>hN k a k' hk (by rw[<-hE k hk];exact hq)⟩
  cases σ with
  |error f=>exact hS|ok k=>simp only[nx,hE k rfl];exact hS
 .obtain⟨k,rfl,hk⟩:=ofS_yes hu
  have hE:qdn T small sort k=qbv T small sort T.length (qb3 (tk T k)) (k+1):=by
   unfold qdn
   rw[if_pos (by simp[hk]),qcd (hsm k hk)]
  refine(head_up h sort hs (hf k rfl) HS hk hm (hsm k hk)).mono ?_
  rintro e w'⟨x,he,hK,hS,hN⟩
  refine⟨x,he,hK,?_,fun j a k' hj hq=>?_⟩
  .simp only[nx,hE]at hS⊢;exact hS
  .cases hj;exact hN a k' (by rw[<-hE];exact hq)
theorem qah(s:BA):∀k a k',qag T s k=.ok (a,k')->k'=k+1:=by
 intro k a k' h
 unfold qag at h
 split at h
 .cases h;rfl
 .cases h
theorem qbk(n:Nat):∀k a k',qa7 T n k=.ok (a,k')->k'=k+1:=by
 intro k a k' h
 unfold qa7 at h
 split at h
 .cases h;rfl
 .cases h
theorem qad{α β:Type}{m:M α}{f:α->M β}{k k':Nat}{b:β}(h:bnd m f k=.ok (b,k')):∃a k1,m k=.ok (a,k1)/\f a k1=.ok (b,k'):=by
 unfold bnd at h
 split at h
 .cases h
 .next a k1 hm=>exact⟨a,k1,hm,h⟩
theorem close_mono{mk:Nat->Nd}{k k':Nat}{a:Nd}(h:qc3 T mk k=.ok (a,k')):k<k':=by
 obtain⟨_,k1,h1,h2⟩:=qad h
 have:=qah _ _ _ _ h1
 cases h2
 omega
theorem qaw{part typ:M Nd}(hp:Mono part)(ht:Mono typ)(sort:Nat):∀k a k',qam T part typ sort k=.ok (a,k')->k<k':=by
 intro k a k' h
 unfold qam at h
 split at h
 .split at h
  .unfold qew at h
   split at h
   .cases h;omega
   .obtain⟨a1,k1,h1,h2⟩:=qad h
    have m1:=hp _ _ _ h1
    unfold qee at h2
    split at h2
    .obtain⟨b,k3,h3,h4⟩:=qad h2
     have:=hp _ _ _ h3
     have:=close_mono h4
     omega
    .split at h2
     .obtain⟨b,k3,h3,h4⟩:=qad h2
      have:=ht _ _ _ h3
      have:=close_mono h4
      omega
     .have:=close_mono h2
      omega
  .cases h;omega
 .cases h
theorem qfy{part typ:M Nd}(sort:Nat):∀k,(tk T k).kind=2->qam T part typ sort k=.ok (qb3 (tk T k),k+1):=by
 intro k hk
 have h1:isT (tk T k) qes=false:=by simp[isT,hk]
 have h2:qai (tk T k) sort=true:=by
  unfold qai qa6
  simp[hk]
 unfold qam
 rw[h1,h2]
 rfl
theorem headF_mono{small:M Nd}(hm:∀k a k',small k=.ok (a,k')->k<k')(sort:Nat):∀f x k a k',qbv T small sort f x k=.ok (a,k')->k<=k':=by
 intro f
 induction f with
 |zero=>intro x k a k' h;cases h;omega|succ f ih=>
  intro x k a k' h
  unfold qbv at h
  split at h
  .obtain⟨y,k1,h1,h2⟩:=qad h
   have:=hm _ _ _ h1
   have:=ih _ _ _ _ h2
   omega
  .cases h;omega
theorem qfe{small:M Nd}(hm:∀k a k',small k=.ok (a,k')->k<k')(sort:Nat):∀k a k',qdn T small sort k=.ok (a,k')->k<k':=by
 intro k a k' h
 unfold qdn at h
 split at h
 .obtain⟨y,k1,h1,h2⟩:=qad h
  have:=hm _ _ _ h1
  have:=headF_mono hm sort _ _ _ _ _ h2
  omega
 .exact hm _ _ _ h
theorem qdd{α:Type}:Mono (qb1 (α:=α) T):=by
 intro k a k' h
 cases h
theorem qa2:∀n,Mono (typM T n):=by
 intro n
 induction n with
 |zero=>exact qdd|succ n ih=>
  intro k a k' h
  unfold typM at h
  obtain⟨y,k1,h1,h2⟩:=qad h
  have:=qfe (qaw ih ih 1) 1 _ _ _ h1
  unfold qfc at h2
  split at h2
  .obtain⟨z,k3,h3,h4⟩:=qad h2
   have:=ih _ _ _ h3
   cases h4
   omega
  .cases h2;omega
theorem qdk:∀n,Mono (patM T n):=by
 intro n
 induction n with
 |zero=>exact qdd|succ n ih=>
  intro k a k' h
  have:=qfe (qaw ih qdd 2) 2 k a k' h
  omega
end
end
section
open Go Go.RowKit
def Lts{α:Type}(m:M α):Prop:=∀k a k',m k=.ok (a,k')->k<k'
section
variable {T:List Pu.Tok}
theorem Lts.mono{m:M Nd}(h:Lts m):Mono m:=fun k a k' q=>Nat.le_of_lt (h k a k' q)
theorem callF_mono{sm:M Nd}(hm:Lts sm)(fr:Nat):∀f x k a k',qd7 T sm fr f x k=.ok (a,k')->k<=k':=by
 intro f
 induction f with
 |zero=>intro x k a k' h;cases h;omega|succ f ih=>
  intro x k a k' h
  unfold qd7 at h
  split at h
  .obtain⟨y,k1,h1,h2⟩:=qad h
   have:=hm _ _ _ h1
   have:=ih _ _ _ _ h2
   omega
  .cases h;omega
theorem prodF_mono{sm:M Nd}(hm:Lts sm)(fr:Nat):∀f x k a k',qec T sm fr f x k=.ok (a,k')->k<=k':=by
 intro f
 induction f with
 |zero=>intro x k a k' h;cases h;omega|succ f ih=>
  intro x k a k' h
  unfold qec at h
  split at h
  .obtain⟨y,k1,h1,h2⟩:=qad h
   have:=hm _ _ _ h1
   have:=ih _ _ _ _ h2
   omega
  .cases h;omega
theorem sumF_mono{sm:M Nd}(hm:Lts sm)(fr:Nat):∀f x k a k',sumF T sm fr f x k=.ok (a,k')->k<=k':=by
 intro f
 induction f with
 |zero=>intro x k a k' h;cases h;omega|succ f ih=>
  intro x k a k' h
  unfold sumF at h
  split at h
  .obtain⟨y,k1,h1,h2⟩:=qad h
   have:=hm _ _ _ h1
   have:=ih _ _ _ _ h2
   omega
  .cases h;omega
theorem qd8{sm:M Nd}(hm:Lts sm):Lts (qbh T sm):=fun k a k' h=>by
 unfold qbh at h
 obtain⟨y,k1,h1,h2⟩:=qad h
 have:=hm _ _ _ h1
 have:=callF_mono hm _ _ _ _ _ _ h2
 omega
theorem prod_lts{sm:M Nd}(hm:Lts sm):Lts (qby T sm):=fun k a k' h=>by
 unfold qby at h
 obtain⟨y,k1,h1,h2⟩:=qad h
 have:=hm _ _ _ h1
 have:=prodF_mono hm _ _ _ _ _ _ h2
 omega
theorem sum_lts{sm:M Nd}(hm:Lts sm):Lts (sumM T sm):=fun k a k' h=>by
 unfold sumM at h
 obtain⟨y,k1,h1,h2⟩:=qad h
 have:=hm _ _ _ h1
 have:=sumF_mono hm _ _ _ _ _ _ h2
 omega
theorem less_lts{sm:M Nd}(hm:Lts sm):Lts (qe8 T sm):=fun k a k' h=>by
 unfold qe8 at h
 obtain⟨y,k1,h1,h2⟩:=qad h
 have:=hm _ _ _ h1
 split at h2
 .obtain⟨z,k2,h3,h4⟩:=qad h2
  have:=hm _ _ _ h3
  cases h4
  omega
 .cases h2;omega
theorem fun_lts{e:M Nd}(hm:Lts e):Lts (funM T e):=fun k a k' h=>by
 unfold funM at h
 obtain⟨_,k1,h1,h2⟩:=qad h
 obtain⟨_,k2,h3,h4⟩:=qad h2
 obtain⟨_,k3,h5,h6⟩:=qad h4
 obtain⟨_,k4,h7,h8⟩:=qad h6
 cases h8
 have:=qah _ _ _ _ h1
 have:=qbk _ _ _ _ h3
 have:=qah _ _ _ _ h5
 have:=hm _ _ _ h7
 omega
theorem bound_lts{e:M Nd}(hm:Lts e):Lts (qbg T e):=fun k a k' h=>by
 unfold qbg at h
 obtain⟨_,k1,h1,h2⟩:=qad h
 have:=qah _ _ _ _ h1
 split at h2
 .obtain⟨_,k2,h3,h4⟩:=qad h2
  obtain⟨_,k3,h5,h6⟩:=qad h4
  obtain⟨_,k4,h7,h8⟩:=qad h6
  cases h8
  have:=qbk _ _ _ _ h3
  have:=qah _ _ _ _ h5
  have:=fun_lts hm _ _ _ h7
  omega
 .obtain⟨_,k2,h3,h4⟩:=qad h2
  obtain⟨_,k3,h5,h6⟩:=qad h4
  obtain⟨_,k4,h7,h8⟩:=qad h6
  cases h8
  have:=qbk _ _ _ _ h3
  have:=qah _ _ _ _ h5
  have:=hm _ _ _ h7
  omega
theorem arms_mono{p e:M Nd}(hp:Mono p)(hm:Lts e):∀f l k a k',qcz T p e f l k=.ok (a,k')->k<=k':=by
 intro f
 induction f with
 |zero=>intro l k a k' h;cases h;omega|succ f ih=>
  intro l k a k' h
  unfold qcz at h
  obtain⟨_,k1,h1,h2⟩:=qad h
  obtain⟨_,k2,h3,h4⟩:=qad h2
  obtain⟨_,k3,h5,h6⟩:=qad h4
  have:=hp _ _ _ h1
  have:=qah _ _ _ _ h3
  have:=hm _ _ _ h5
  split at h6
  .have:=ih _ _ _ _ h6;omega
  .cases h6;omega
theorem qci:∀n,Lts (qaq T n)
 |0=>fun k a k' h=>by cases h|n+1=>fun k a k' h=>by
  have ih:=qci n
  unfold qaq at h
  split at h
  .exact fun_lts ih _ _ _ h
  split at h
  .unfold qdr at h
   obtain⟨_,k1,h1,h2⟩:=qad h
   obtain⟨_,k2,h3,h4⟩:=qad h2
   obtain⟨_,k3,h5,h6⟩:=qad h4
   obtain⟨_,k4,h7,h8⟩:=qad h6
   obtain⟨_,k5,h9,h10⟩:=qad h8
   obtain⟨_,k6,h11,h12⟩:=qad h10
   cases h12
   have:=qah _ _ _ _ h1
   have:=ih _ _ _ h3
   have:=qah _ _ _ _ h5
   have:=ih _ _ _ h7
   have:=qah _ _ _ _ h9
   have:=ih _ _ _ h11
   omega
  split at h
  .unfold qel at h
   obtain⟨_,k1,h1,h2⟩:=qad h
   obtain⟨_,k2,h3,h4⟩:=qad h2
   obtain⟨_,k3,h5,h6⟩:=qad h4
   obtain⟨_,k4,h7,h8⟩:=qad h6
   obtain⟨_,k5,h9,h10⟩:=qad h8
   cases h10
   have:=qah _ _ _ _ h1
   have:=ih _ _ _ h3
   have:=qah _ _ _ _ h5
   have:=arms_mono (qdk n) ih _ _ _ _ _ h7
   have:=qah _ _ _ _ h9
   omega
  split at h
  .unfold letM at h
   obtain⟨_,k1,h1,h2⟩:=qad h
   obtain⟨_,k2,h3,h4⟩:=qad h2
   obtain⟨_,k3,h5,h6⟩:=qad h4
   cases h6
   have:=bound_lts ih _ _ _ h1
   have:=qah _ _ _ _ h3
   have:=ih _ _ _ h5
   omega
  .exact less_lts (sum_lts (prod_lts (qd8 (qaw ih.mono (qa2 n) 3)))) _ _ _ h
theorem qdg(n:Nat):Mono (qaq T n):=(qci n).mono
end
end
end Go.Proofs.YtoceemjbcgmojaaGreatDoor

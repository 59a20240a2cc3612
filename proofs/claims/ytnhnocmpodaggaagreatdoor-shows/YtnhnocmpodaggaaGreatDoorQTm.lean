import Derived.Deep.Cut
import Derived.Test.YtnhnocmpodaggaaGreatDoorQTf
import Derived.Test.YtnhnocmpodaggaaGreatDoorQSj
import Derived.Test.YtnhnocmpodaggaaGreatDoorQTj
set_option linter.all false
set_option maxRecDepth 100000
set_option maxHeartbeats 20000000
namespace Go.Proofs.YtnhnocmpodaggaaGreatDoor
section
open Go Go.RowKit Un
theorem toksF_last (s:BA):∀f i,∃l,Pu.toksF s f i=l++[Pu.endTok s]∧l.length≤f
 |0,i=>⟨[],rfl,br _⟩
 |f+1,i=>by
   unfold Pu.toksF
   split
   ·split
    ·obtain ⟨l,h,k⟩:=toksF_last s f (i+1)
     exact ⟨l,h,by omega⟩
    ·obtain ⟨l,h,k⟩:=toksF_last s f (Pu.tokAt s i).to
     exact ⟨Pu.tokAt s i::l,by rw [h];rfl,by simp;omega⟩
   ·exact ⟨[],rfl,by simp⟩
theorem toks_last (s:BA) (i:Nat):∃l,Pu.toks s i=l++[Pu.endTok s]∧l.length≤s.size-i:=toksF_last s _ i
theorem toks_en (s:BA):∀i (h:i<(Pu.toks s 0).length),(Pu.toks s 0)[i].kind≠7→i+1<(Pu.toks s 0).length:=by
 obtain ⟨l,e,_⟩:=toks_last s 0
 rw [e]
 intro i h hk
 simp at h⊢
 by_cases k:i=l.length
 ·subst k
  rw [List.getElem_append_right (by omega)] at hk
  exact absurd (by simp [Pu.endTok]) hk
 ·omega
def flV (f:Fl):Value:=.agg #[.int .i64 (f.kind:Int),.int .i64 (f.frm:Int),.int .i64 (f.to:Int)]
theorem tokCells_at (l:List Pu.Tok) (i:Nat) (h:i<l.length):(qbu l)[i*4]? =some (.int .i64 (l[i].kind:Int))∧(qbu l)[i*4+1]? =some (.string l[i].text)∧(qbu l)[i*4+2]? =some (.int .i64 (l[i].frm:Int))∧(qbu l)[i*4+3]? =some (.int .i64 (l[i].to:Int)):=by
 induction l generalizing i with
 |nil=>simp at h
 |cons x xs ih=>
  cases i with
  |zero=>simp [qbu]
  |succ i=>
   have:=ih i (by simpa using h)
   have e:∀j,(qbu (x::xs))[(i+1)*4+j]? =(qbu xs)[i*4+j]? :=fun j=>by
    have:qbu (x::xs)=.int .i64 (x.kind:Int)::.string x.text::.int .i64 (x.frm:Int)::.int .i64 (x.to:Int)::qbu xs:=by simp [qbu]
    rw [this,show (i+1)*4+j=i*4+j+4 by omega]
    simp
   have e0:=e 0
   simp only [Nat.add_zero] at e0
   rw [e0,e 1,e 2,e 3]
   simpa using this
section
variable {w:World}
theorem _root_.Go.RowKit.Below.ke' {B rb:Nat} {a b c:World} (h:Below B a b) (k:Ke rb b c) (hr:B≤rb) (hB:B≤b.heap.size):Below B a c:=
 ⟨k.os.trans h.os,k.tape.trans h.tape,k.output.trans h.output,Nat.le_trans h.size k.size,fun i hi=>(k.block i (by omega) (by omega)).trans (h.block i hi)⟩
theorem SS.made {w1:World} {base g cap:Nat} {T:List Pu.Tok} (ho:w1.ownsRow base 58 4 (.slice (some ⟨g,0,none⟩) T.length cap) T.length (qbu T)) (hp:0<T.length) (hT:T.length≤1001) (en:∀i (h:i<T.length),T[i].kind≠7→i+1<T.length) (tt:TypeId):
 SS (w1.alloc (.cells #[.slice (some ⟨g,0,none⟩) T.length cap,.int .i64 0,.int .i64 0,.int .i64 0,.int .i64 0] tt)) w1.heap.size g cap T (.ok 0):=by
 have zg:=(qa3 ho g rfl).2
 have B:=Bx.new w1 #[.slice (some ⟨g,0,none⟩) T.length cap,.int .i64 0,.int .i64 0,.int .i64 0,.int .i64 0] tt
 have bb:=(Below.refl w1.heap.size w1).alloc (br _) (.cells #[.slice (some ⟨g,0,none⟩) T.length cap,.int .i64 0,.int .i64 0,.int .i64 0,.int .i64 0] tt)
 refine (show RS _ _ _ _ _ 0 noFl from ⟨B.c 0,B.c 1,B.c 2,B.c 3,B.c 4,B.f,fun i hi=>?_,B.z,by have:=bb.size;omega,by omega,hp,hT,en⟩)
 obtain ⟨t0,t1,t2,t3⟩:=tokCells_at T i hi
 rw [oldCell bb g _ zg,oldCell bb g _ zg,oldCell bb g _ zg,oldCell bb g _ zg,qfw ho _ (by omega),qfw ho _ (by omega),qfw ho _ (by omega),qfw ho _ (by omega)]
 exact ⟨t0,t1,t2,t3⟩
end
end
section
open Go Go.RowKit Un
section
variable {w:World} {kb nb:Nat} {hv iv lv nv:Value} {ns:List BA} {K:Nat→Option Ty} {R:Nat→Ty} {rk:Nat→Nat} {P:Nat→Prop}
end
end
section
open Go Go.RowKit
section
variable {rb g cap:Nat} {T:List Pu.Tok} {σ:St} {w:World}
def ChainR (rb g cap:Nat) (T:List Pu.Tok) (σ:St) (whole:M Nd) (step:Nat→Nat→Nd→M Nd) (frm:Nat) (w:World) (bx:Nat) (gk:Nat) (wr:World):Prop:=
 ∃(σr:St) (x:NV),SS wr rb g cap T σr∧Ke rb w wr∧bx<wr.heap.size∧Bx wr bx (nvA x)∧Bx wr w.heap.size qat∧
  Hid (∀fl,σr=.error fl→nx σ whole=.error fl)∧
  Hid (∀k',σr=.ok k'→T.length-k'≤gk∧∃k nd f,σ=.ok k∧k<k'∧T.length≤k'+f∧whole k=step (tk T k).frm f nd k'∧frm=(tk T k).frm∧NR wr (fun b=>w.heap.size<b∧b≠bx) nd x)
def GrownR (rb g cap:Nat) (T:List Pu.Tok) (σ2:St) (sub:M Nd) (kr K:Nat) (S:BA) (nd:Nd) (frm:Nat) (w:World) (bx:Nat) (wc:World):Prop:=
 ∃x:NV,SS wc rb g cap T σ2∧Ke rb w wc∧bx<wc.heap.size∧Bx wc bx (nvA x)∧Bx wc w.heap.size qat∧
  Hid (∀b k2,sub kr=.ok (b,k2)→NR wc (fun b=>w.heap.size<b∧b≠bx) (.mk K S 0 [nd,b] frm (qan T k2) frm) x)
theorem call_stop {sub:M Nd} {frm f:Nat} {x:Nd} {k:Nat} (h:¬qai (tk T k) 3=true):qd7 T sub frm f x k=.ok (x,k):=by
 cases f with
 |zero=>rfl
 |succ f=>unfold qd7;rw [if_neg h]
theorem call_step {sub:M Nd} {frm f:Nat} {x b:Nd} {k k2:Nat} (h:qai (tk T k) 3=true) (hs:sub k=.ok (b,k2)):qd7 T sub frm (f+1) x k=qd7 T sub frm f (.mk 8 kNo 0 [x,b] frm (qan T k2) frm) k2:=by
 conv=>lhs;unfold qd7
 rw [if_pos h,qcd hs]
theorem call_err {sub:M Nd} {frm f:Nat} {x:Nd} {k:Nat} {e:Fl} (h:qai (tk T k) 3=true) (hs:sub k=.error e):qd7 T sub frm (f+1) x k=.error e:=by
 unfold qd7
 rw [if_pos h,qb8 hs]
theorem call_rel {sub:M Nd} {frm f2 k kr bx:Nat} {nd:Nd} {wc:World} (hW:qbh T sub k=qd7 T sub (tk T k).frm (f2+1) nd kr) (hc:qai (tk T kr) 3=true) (hfrm:frm=(tk T k).frm) (hm:∀k a k',sub k=.ok (a,k')→k<k') (hkr:k<kr) (hfu:T.length≤kr+(f2+1))
 (hG:GrownR rb g cap T (nx (.ok kr) sub) sub kr 8 kNo nd frm w bx wc):ChainR rb g cap T (.ok k) (qbh T sub) (fun fr f nd k=>qd7 T sub fr f nd k) frm w bx (T.length-(kr+1)) wc:=by
 obtain ⟨x2,S8,K8,z8,X8,R8,N8⟩:=hG
 refine ⟨_,x2,S8,K8,z8,X8,R8,ai (fun fl e=>?_),ai (fun k2 e=>?_)⟩
 ·cases hq:sub kr with
  |error f3=>rw [qbn hq] at e;cases e;exact qbn (hW.trans (call_err hc hq))
  |ok p3=>rw [qas (k':=p3.2) (a:=p3.1) hq] at e;cases e
 ·obtain ⟨_,b,e1,hq⟩:=qbf e
  cases e1
  have hlt:=hm _ _ _ hq
  refine ⟨by omega,k,_,f2,rfl,by omega,by omega,hW.trans (call_step hc hq),hfrm,?_⟩
  rw [←hfrm]
  exact uh N8 b k2 hq
theorem call_C {n:Nat} {sub:M Nd} (HS:NodeC rb g cap T 171 #[.pointer (some ⟨rb,0,none⟩),.int .i64 3] sub n) (hm:∀k a k',sub k=.ok (a,k')→k<k'):NodeC rb g cap T 284 #[.pointer (some ⟨rb,0,none⟩)] (qbh T sub) n:=by
 intro w σ h hf
 have HS':=ai HS
 have hf':=ai hf
 have hm':=ai hm
 have ff:=qd4
 clear HS hf hm
 have hr:=h.hr
 have hg:=h.hg
 have H1:=ai h
 have K2:=ai (Ke.refl rb w)
 clear h
 go_enter Tryz.func284,Tryz.ntmps284
 go_wp2_with fail
 have H3:=ai ((uh H1).alloc (.cells qat 62))
 have K4:=ai ((uh K2).alloc (.cells qat 62))
 have B5:=ai (Bx.at w qat 62 (w.heap.size) (by simp [World.setCell]))
 clear H1 K2
 refine (qb5 (uh H3)).mono ?_
 rintro e w1 ⟨t,rfl,hb,ht⟩
 have H6:=ai ((uh H3).below hb)
 have K7:=ai ((uh K4).below hb)
 have z8:=hb.size
 try simp [World.setCell] at z8
 have B9:=ai ((uh B5).below hb)
 clear H3 K4 B5 hb
 obtain ⟨c10,f11,y12⟩:=uh B9
 have Ht:=ai ht
 clear ht
 unfold tokV
 go_wp2_with fail
 clear c10 f11 y12
 refine (uh HS' _ _ (uh H6) (uh hf')).mono ?_
 rintro e w2 ⟨x,rfl,hb,hS,hN⟩
 have H16:=ai hS
 have K17:=ai ((uh K7).trans hb)
 have z18:=hb.size
 try simp [World.setCell] at z18
 have B19:=ai ((uh B9).ke hb (by omega))
 clear H6 K7 B9 hb hS
 obtain ⟨c20,f21,y22⟩:=uh B19
 have hN1:=ai (fun k a k' (h1:σ=.ok k) (hq:sub k=.ok (a,k'))=>(hN k a k' h1 hq).rng w1.heap.size (fun b hb=>by simpa using hb))
 clear hN
 unfold NV.v
 go_wp2_with fail
 have H23:=ai ((uh H16).alloc (.cells (nvA x) 62))
 have K24:=ai ((uh K17).alloc (.cells (nvA x) 62))
 have B25:=ai ((uh B19).alloc (.cells (nvA x) 62))
 have B26:=ai (Bx.at w2 (nvA x) 62 (w2.heap.size) (by simp [World.setCell]))
 have R27:=ai (fun k a k' h1 hq=>(NR.bel (uh hN1 k a k' h1 hq) (bw (.cells (nvA x) 62))))
 clear H16 K17 B19 hN1 c20 f21 y22
 clear ff
 go_loopg [] T.length (fun gk wr=>ChainR rb g cap T σ (qbh T sub) (fun fr f nd k=>qd7 T sub fr f nd k) t.frm w w2.heap.size gk wr)
 case atStart=>
  refine ⟨nx σ sub,x,uh H23,uh K24,by simp,uh B26,uh B25,ai (fun fl e=>?_),ai (fun k1 e=>?_)⟩
  ·cases σ with
   |error f=>cases e;rfl
   |ok k=>
    cases hq:sub k with
    |error f=>rw [qbn hq] at e;cases e;rw [qbn];unfold qbh;exact qb8 hq
    |ok p=>rw [qas (k':=p.2) (a:=p.1) hq] at e;cases e
  ·obtain ⟨k,a,rfl,hq⟩:=qbf e
   refine ⟨by omega,k,a,T.length,rfl,uh hm' _ _ _ hq,by omega,?_,by rw [uh Ht k rfl],(uh R27 k a k1 rfl hq).move (br _) (fun _ _ _=>rfl) (fun b hb _=>by omega)⟩
   unfold qbh
   exact qcd hq
 case round=>
  clear H23 K24 R27 B25 B26
  obtain ⟨σr,y,HR0,KR0,zx,BX0,BR0,hE,hO⟩:=hrel
  have HR:=ai HR0
  have KR:=ai KR0
  have BX:=ai BX0
  have BR:=ai BR0
  clear HR0 KR0 BX0 BR0
  have zr:=(uh KR).size
  unfold nvA at BX
  cases σr with
  |error fl=>
   obtain ⟨c0,f0,y0⟩:=uh BX
   obtain ⟨c1,f1,y1⟩:=uh BR
   go_wp2_with fail
   refine (ok_S (uh HR)).mono ?_
   rintro e w9 ⟨rfl,rfl⟩
   go_wp2_with fail
   have H501:=ai ((uh HR).st7 (b:=w.heap.size) (by omega) (by omega) y)
   have K502:=ai ((uh KR).st7 (b:=w.heap.size) (by omega) y)
   have B503:=ai ((uh BR).st7 rfl y)
   have B504:=ai ((uh BX).stO7 (b:=w.heap.size) (by omega) y)
   clear HR KR BR BX c0 f0 y0 c1 f1 y1
   obtain ⟨cF,fF,zF⟩:=uh B503
   refine bodyPost_ret (v:=NV.v y) (by simp [results,Tryz.results284,go_sem,cF,NV.v];try rfl) rfl ⟨_,rfl,uh K502,?_,fun k b k' hk hq=>?_⟩
   ·rw [uh hE fl rfl];exact uh H501
   ·subst hk
    have:=uh hE fl rfl
    rw [qas hq] at this
    cases this
  |ok kr=>
   obtain ⟨hgk,k,nd,fu,rfl,hkr,hfu,hW0,hfrm0,hNN0⟩:=uh hO kr rfl
   have hNN:=ai (hNN0.move (Q:=fun b=>w.heap.size<b∧b≠w2.heap.size∧b<wr.heap.size) (br _) (fun _ _ _=>rfl) (fun b hb hz=>⟨hb.1,hb.2,hz⟩))
   have hkT:kr<T.length:=by have h':RS wr rb g cap T kr noFl:=uh HR;exact h'.hk
   have hW:=ai hW0
   have hfrm:=ai hfrm0
   clear hE hO hW0 hfrm0 hNN0
   rcases hbg:qai (tk T kr) 3 with _|_
   ·obtain ⟨c0,f0,y0⟩:=uh BX
    obtain ⟨c1,f1,y1⟩:=uh BR
    go_wp2_with fail
    refine (ok_S (uh HR)).mono ?_
    rintro e w9 ⟨rfl,rfl⟩
    go_wp2_with fail
    refine (qb5 (uh HR)).mono ?_
    rintro e w3 ⟨t3,rfl,hb,ht⟩
    have H501:=ai ((uh HR).below hb)
    have K502:=ai ((uh KR).below hb)
    have z503:=hb.size
    try simp [World.setCell] at z503
    have B504:=ai ((uh BR).below hb)
    have B505:=ai ((uh BX).below hb)
    have R506:=ai (NR.bel (uh hNN) hb)
    clear HR KR BR BX hNN hb
    obtain ⟨c507,f508,y509⟩:=uh B504
    obtain ⟨c510,f511,y512⟩:=uh B505
    have ht':=ht kr rfl
    subst ht'
    clear ht
    unfold tokV
    go_wp2_with fail
    refine (qbt (tk T kr) _ 3 (Or.inr (Or.inr rfl))).mono ?_
    rintro e w4 ⟨rfl,hb⟩
    have H513:=ai ((uh H501).below hb)
    have K514:=ai ((uh K502).below hb)
    have z515:=hb.size
    try simp [World.setCell] at z515
    have B516:=ai ((uh B504).below hb)
    have B517:=ai ((uh B505).below hb)
    have R518:=ai (NR.bel (uh R506) hb)
    clear H501 K502 B504 B505 R506 hb
    obtain ⟨c519,f520,y521⟩:=uh B516
    obtain ⟨c522,f523,y524⟩:=uh B517
    go_wp2_with fail
    have hE2:=ai ((uh hW).trans (call_stop (by simp [hbg])))
    clear hW
    have H525:=ai ((uh H513).st7 (b:=w.heap.size) (by omega) (by omega) y)
    have K526:=ai ((uh K514).st7 (b:=w.heap.size) (by omega) y)
    have B527:=ai ((uh B516).st7 rfl y)
    have B528:=ai ((uh B517).stO7 (b:=w.heap.size) (by omega) y)
    have R529:=ai ((NRst7 (uh R518) (b2:=w.heap.size) (fun b hb _=>by omega) y))
    clear H513 K514 B516 B517 R518 c0 f0 y0 c1 f1 y1 c507 f508 y509 c510 f511 y512 c519 f520 y521 c522 f523 y524
    obtain ⟨cF,fF,zF⟩:=uh B527
    refine bodyPost_ret (v:=NV.v y) (by simp [results,Tryz.results284,go_sem,cF,NV.v];try rfl) rfl ⟨_,rfl,uh K526,?_,fun k b k' hk hq=>?_⟩
    ·rw [qas (uh hE2)];exact uh H525
    ·cases hk
     rw [uh hE2] at hq
     cases hq
     exact (uh R529).wide _ (fun b hb=>by omega)
   ·obtain ⟨f2,rfl⟩:∃f2,fu=f2+1:=⟨fu-1,by omega⟩
    obtain ⟨c0,f0,y0⟩:=uh BX
    obtain ⟨c1,f1,y1⟩:=uh BR
    go_wp2_with fail
    refine (ok_S (uh HR)).mono ?_
    rintro e w9 ⟨rfl,rfl⟩
    go_wp2_with fail
    refine (qb5 (uh HR)).mono ?_
    rintro e w3 ⟨t3,rfl,hb,ht⟩
    have H501:=ai ((uh HR).below hb)
    have K502:=ai ((uh KR).below hb)
    have z503:=hb.size
    try simp [World.setCell] at z503
    have B504:=ai ((uh BR).below hb)
    have B505:=ai ((uh BX).below hb)
    have R506:=ai (NR.bel (uh hNN) hb)
    clear HR KR BR BX hNN hb
    obtain ⟨c507,f508,y509⟩:=uh B504
    obtain ⟨c510,f511,y512⟩:=uh B505
    have ht':=ht kr rfl
    subst ht'
    clear ht
    unfold tokV
    go_wp2_with fail
    refine (qbt (tk T kr) _ 3 (Or.inr (Or.inr rfl))).mono ?_
    rintro e w4 ⟨rfl,hb⟩
    have H513:=ai ((uh H501).below hb)
    have K514:=ai ((uh K502).below hb)
    have z515:=hb.size
    try simp [World.setCell] at z515
    have B516:=ai ((uh B504).below hb)
    have B517:=ai ((uh B505).below hb)
    have R518:=ai (NR.bel (uh R506) hb)
    clear H501 K502 B504 B505 R506 hb
    obtain ⟨c519,f520,y521⟩:=uh B516
    obtain ⟨c522,f523,y524⟩:=uh B517
    go_wp2_with fail
    clear c0 f0 y0 c1 f1 y1 c507 f508 y509 c510 f511 y512 c519 f520 y521 c522 f523 y524
    refine (uh HS' _ _ (uh H513) (by intro j hj;cases hj;have:=uh hf' k rfl;omega)).mono ?_
    rintro e w6 ⟨z,rfl,hb,hS,hN⟩
    have H529:=ai hS
    have K530:=ai ((uh K514).trans hb)
    have z531:=hb.size
    try simp [World.setCell] at z531
    have B532:=ai ((uh B516).ke hb (by omega))
    have B533:=ai ((uh B517).ke hb (by omega))
    have R534:=ai (NR.ke (uh R518) hb (fun b hb=>by omega))
    clear H513 K514 B516 B517 R518 hb hS
    obtain ⟨c535,f536,y537⟩:=uh B532
    obtain ⟨c538,f539,y540⟩:=uh B533
    have hNz:=ai (fun b k2 (hq:sub kr=.ok (b,k2))=>(hN _ b k2 rfl hq).rng w4.heap.size (fun b hb=>by simpa using hb))
    clear hN
    unfold NV.v
    go_wp2_with fail
    have H541:=ai ((uh H529).alloc (.cells (nvA z) 62))
    have K542:=ai ((uh K530).alloc (.cells (nvA z) 62))
    have B543:=ai ((uh B532).alloc (.cells (nvA z) 62))
    have B544:=ai ((uh B533).alloc (.cells (nvA z) 62))
    have B545:=ai (Bx.at w6 (nvA z) 62 (w6.heap.size) (by simp [World.setCell]))
    have R546:=ai ((NR.bel (uh R534) (bw (.cells (nvA z) 62))))
    have R547:=ai (fun b k2 hq=>(NR.bel (uh hNz b k2 hq) (bw (.cells (nvA z) 62))))
    clear H529 K530 B532 B533 R534 hNz
    have HX:∀W,(W=(w6.alloc (.cells (nvA z) 62)).drew∨W=((w6.alloc (.cells (nvA z) 62)).alloc (.cells (nvB y z) 62)).drew)→SS W rb g cap T (nx (.ok kr) sub)∧∀w7,Below W.heap.size W w7→SS w7 rb g cap T (nx (.ok kr) sub)∧Ke rb w w7∧Bx w7 (w.heap.size) #[.int .i64 0,.string ⟨#[]⟩,.int .i64 0,.slice none 0 0,.int .i64 0,.int .i64 0,.int .i64 0]∧Bx w7 (w2.heap.size) #[.int .i64 y.k,.string y.s,.int .i64 y.n,.slice y.la y.ll y.lc,.int .i64 y.f,.int .i64 y.t,.int .i64 y.a]∧Bx w7 (w6.heap.size) #[.int .i64 z.k,.string z.s,.int .i64 z.n,.slice z.la z.ll z.lc,.int .i64 z.f,.int .i64 z.t,.int .i64 z.a]∧(W=((w6.alloc (.cells (nvA z) 62)).alloc (.cells (nvB y z) 62)).drew→Bx w7 (w6.heap.size+1) (nvB y z))∧NR w7 (fun b=>w.heap.size<b∧b≠w2.heap.size∧b<w6.heap.size) nd y∧∀b k2,sub kr=.ok (b,k2)→NR w7 (fun b=>w.heap.size<b∧b≠w2.heap.size∧b<w6.heap.size) b z:=by
     rintro W (rfl|rfl)
     ·exact ⟨(uh H541).drew,fun w7 hb=>⟨((uh H541).drew).below hb,((uh K542).drew).below hb,((uh B543).drew).below hb,((uh B544).drew).below hb,((uh B545).drew).below hb,fun e=>absurd (congrArg (fun w=>w.heap.size) e) (by simp),(((uh R546).move (br _) (fun _ _ _=>rfl) (fun b hb _=>by omega)).bel ((Below.refl _ _).drew)).bel hb,fun b k2 hq=>(((uh R547 b k2 hq).move (br _) (fun _ _ _=>rfl) (fun b hb _=>by omega)).bel ((Below.refl _ _).drew)).bel hb⟩⟩
     ·exact ⟨((uh H541).alloc (.cells (nvB y z) 62)).drew,fun w7 hb=>⟨(((uh H541).alloc (.cells (nvB y z) 62)).drew).below hb,(((uh K542).alloc (.cells (nvB y z) 62)).drew).below hb,(((uh B543).alloc (.cells (nvB y z) 62)).drew).below hb,(((uh B544).alloc (.cells (nvB y z) 62)).drew).below hb,(((uh B545).alloc (.cells (nvB y z) 62)).drew).below hb,fun _=>((Bx.at _ (nvB y z) 62 (w6.heap.size+1) (by simp)).drew).below hb,(((uh R546).move (br _) (fun _ _ _=>rfl) (fun b hb _=>by omega)).bel ((bw (.cells (nvB y z) 62)).drew)).bel hb,fun b k2 hq=>(((uh R547 b k2 hq).move (br _) (fun _ _ _=>rfl) (fun b hb _=>by omega)).bel ((bw (.cells (nvB y z) 62)).drew)).bel hb⟩⟩
    have HX1:=ai HX
    clear HX
    go_region_with (go_at_call 174;refine (qd1 (uh HX1 _ (by first|exact Or.inl rfl|exact Or.inr rfl)).1).mono ?_;rintro e w7 ⟨m,rfl,hb,hn⟩;obtain ⟨S7,K7,b70,b71,b72,R7,Na7,Nb7⟩:=(uh HX1 _ (by first|exact Or.inl rfl|exact Or.inr rfl)).2 _ hb;have zz:=hb.size;have HB70:=ai b70;obtain ⟨q0c,q0f,q0z⟩:=b70;have HB71:=ai b71;obtain ⟨q1c,q1f,q1z⟩:=b71;have HB72:=ai b72;obtain ⟨q2c,q2f,q2z⟩:=b72;have HS7:=ai S7;have HK7:=ai K7;have HNa:=ai Na7;have HNb:=ai Nb7;have Hn:=ai hn;first|(have hRw:=R7 rfl;have HRow:=ai hRw;clear hRw)|(have HNo:Hid (0=0):=rfl);clear S7 K7 Na7 Nb7 R7 hb hn)
    all_goals
     go_wp2_with fail
     go_roundg (T.length-(kr+1))
     case measure=>omega
     case rel=>
      refine call_rel (uh hW) hbg (uh hfrm) (uh hm') hkr hfu ?_
      first
      |(have hRw:=uh HRow;refine ⟨⟨8,kNo,0,some ⟨w6.heap.size+1,0,none⟩,2,2,(t.frm:Int),(m:Int),(t.frm:Int)⟩,?_,?_,?_,?_,?_,ai (fun b k2 hq=>?_)⟩
        ·exact ((uh HS7).set7 (b:=w2.heap.size) (by omega) (by omega) (.int .i64 8) (.string kNo) (.int .i64 0) (.slice (some ⟨w6.heap.size+1,0,none⟩) 2 2) (.int .i64 (t.frm:Int)) (.int .i64 (m:Int)) (.int .i64 (t.frm:Int)))
        ·exact ((uh HK7).set7 (b:=w2.heap.size) (by omega) (.int .i64 8) (.string kNo) (.int .i64 0) (.slice (some ⟨w6.heap.size+1,0,none⟩) 2 2) (.int .i64 (t.frm:Int)) (.int .i64 (m:Int)) (.int .i64 (t.frm:Int)))
        ·simp [World.setCell];omega
        ·exact ((uh HB71).set7 rfl (.int .i64 8) (.string kNo) (.int .i64 0) (.slice (some ⟨w6.heap.size+1,0,none⟩) 2 2) (.int .i64 (t.frm:Int)) (.int .i64 (m:Int)) (.int .i64 (t.frm:Int)))
        ·exact ((uh HB70).setO7 (b:=w2.heap.size) (by omega) (.int .i64 8) (.string kNo) (.int .i64 0) (.slice (some ⟨w6.heap.size+1,0,none⟩) 2 2) (.int .i64 (t.frm:Int)) (.int .i64 (m:Int)) (.int .i64 (t.frm:Int)))
        ·rw [←uh Hn k2 (qas hq)]
         have na:=(qcf (uh HNa) (b2:=w2.heap.size) (fun b hb _=>hb.2.1) (.int .i64 8) (.string kNo) (.int .i64 0) (.slice (some ⟨w6.heap.size+1,0,none⟩) 2 2) (.int .i64 (t.frm:Int)) (.int .i64 (m:Int)) (.int .i64 (t.frm:Int))).move (Q:=fun b=>w.heap.size<b∧b≠w2.heap.size) (br _) (fun _ _ _=>rfl) (fun b hb _=>⟨hb.1,hb.2.1⟩)
         have nb:=(qcf (uh HNb b k2 hq) (b2:=w2.heap.size) (fun b hb _=>hb.2.1) (.int .i64 8) (.string kNo) (.int .i64 0) (.slice (some ⟨w6.heap.size+1,0,none⟩) 2 2) (.int .i64 (t.frm:Int)) (.int .i64 (m:Int)) (.int .i64 (t.frm:Int))).move (Q:=fun b=>w.heap.size<b∧b≠w2.heap.size) (br _) (fun _ _ _=>rfl) (fun b hb _=>⟨hb.1,hb.2.1⟩)
         exact NR.two (P:=fun b=>w.heap.size<b∧b≠w2.heap.size) 8 kNo 0 t.frm m t.frm (hRw.setO7 (b:=w2.heap.size) (by omega) (.int .i64 8) (.string kNo) (.int .i64 0) (.slice (some ⟨w6.heap.size+1,0,none⟩) 2 2) (.int .i64 (t.frm:Int)) (.int .i64 (m:Int)) (.int .i64 (t.frm:Int))) rfl na nb (by omega) 2)
      |(have hNo:=HNo;refine ⟨⟨8,kNo,0,some ⟨w7.heap.size,0,none⟩,2,2,(t.frm:Int),(m:Int),(t.frm:Int)⟩,?_,?_,?_,?_,?_,ai (fun b k2 hq=>?_)⟩
        ·exact (((uh HS7).set7 (b:=w2.heap.size) (by omega) (by omega) (.int .i64 8) (.string kNo) (.int .i64 0) (.slice (some ⟨w7.heap.size,0,none⟩) 2 2) (.int .i64 (t.frm:Int)) (.int .i64 (m:Int)) (.int .i64 (t.frm:Int))).alloc (.cells (nvB y z) 62))
        ·exact (((uh HK7).set7 (b:=w2.heap.size) (by omega) (.int .i64 8) (.string kNo) (.int .i64 0) (.slice (some ⟨w7.heap.size,0,none⟩) 2 2) (.int .i64 (t.frm:Int)) (.int .i64 (m:Int)) (.int .i64 (t.frm:Int))).alloc (.cells (nvB y z) 62))
        ·simp [World.setCell];omega
        ·exact (((uh HB71).set7 rfl (.int .i64 8) (.string kNo) (.int .i64 0) (.slice (some ⟨w7.heap.size,0,none⟩) 2 2) (.int .i64 (t.frm:Int)) (.int .i64 (m:Int)) (.int .i64 (t.frm:Int))).alloc (.cells (nvB y z) 62))
        ·exact (((uh HB70).setO7 (b:=w2.heap.size) (by omega) (.int .i64 8) (.string kNo) (.int .i64 0) (.slice (some ⟨w7.heap.size,0,none⟩) 2 2) (.int .i64 (t.frm:Int)) (.int .i64 (m:Int)) (.int .i64 (t.frm:Int))).alloc (.cells (nvB y z) 62))
        ·rw [←uh Hn k2 (qas hq)]
         have na:=(NR.bel (qcf (uh HNa) (b2:=w2.heap.size) (fun b hb _=>hb.2.1) (.int .i64 8) (.string kNo) (.int .i64 0) (.slice (some ⟨w7.heap.size,0,none⟩) 2 2) (.int .i64 (t.frm:Int)) (.int .i64 (m:Int)) (.int .i64 (t.frm:Int))) (bw (.cells (nvB y z) 62))).move (Q:=fun b=>w.heap.size<b∧b≠w2.heap.size) (br _) (fun _ _ _=>rfl) (fun b hb _=>⟨hb.1,hb.2.1⟩)
         have nb:=(NR.bel (qcf (uh HNb b k2 hq) (b2:=w2.heap.size) (fun b hb _=>hb.2.1) (.int .i64 8) (.string kNo) (.int .i64 0) (.slice (some ⟨w7.heap.size,0,none⟩) 2 2) (.int .i64 (t.frm:Int)) (.int .i64 (m:Int)) (.int .i64 (t.frm:Int))) (bw (.cells (nvB y z) 62))).move (Q:=fun b=>w.heap.size<b∧b≠w2.heap.size) (br _) (fun _ _ _=>rfl) (fun b hb _=>⟨hb.1,hb.2.1⟩)
         exact NR.two (P:=fun b=>w.heap.size<b∧b≠w2.heap.size) 8 kNo 0 t.frm m t.frm (Bx.at _ (nvB y z) 62 (w7.heap.size) (by simp [World.setCell])) rfl na nb (by omega) 2)
end
end
section
open Go Go.RowKit
section
variable {rb g cap:Nat} {T:List Pu.Tok} {σ:St} {w:World}
theorem product_stop {sub:M Nd} {frm f:Nat} {x:Nd} {k:Nat} (h:¬isT (tk T k) kStar=true):qec T sub frm f x k=.ok (x,k):=by
 cases f with
 |zero=>rfl
 |succ f=>unfold qec;rw [if_neg h]
theorem product_step {sub:M Nd} {frm f:Nat} {x b:Nd} {k k2:Nat} (h:isT (tk T k) kStar=true) (hs:sub (k+1)=.ok (b,k2)):qec T sub frm (f+1) x k=qec T sub frm f (.mk 7 kStar 0 [x,b] frm (qan T k2) frm) k2:=by
 conv=>lhs;unfold qec
 rw [if_pos h,qcd hs]
theorem product_err {sub:M Nd} {frm f:Nat} {x:Nd} {k:Nat} {e:Fl} (h:isT (tk T k) kStar=true) (hs:sub (k+1)=.error e):qec T sub frm (f+1) x k=.error e:=by
 unfold qec
 rw [if_pos h,qb8 hs]
theorem product_rel {sub:M Nd} {frm f2 k kr bx:Nat} {nd:Nd} {wc:World} (hW:qby T sub k=qec T sub (tk T k).frm (f2+1) nd kr) (hc:isT (tk T kr) kStar=true) (hfrm:frm=(tk T k).frm) (hm:∀k a k',sub k=.ok (a,k')→k<k') (hkr:k<kr) (hfu:T.length≤kr+(f2+1))
 (hG:GrownR rb g cap T (nx (.ok (kr+1)) sub) sub (kr+1) 7 kStar nd frm w bx wc):ChainR rb g cap T (.ok k) (qby T sub) (fun fr f nd k=>qec T sub fr f nd k) frm w bx (T.length-(kr+1)) wc:=by
 obtain ⟨x2,S8,K8,z8,X8,R8,N8⟩:=hG
 refine ⟨_,x2,S8,K8,z8,X8,R8,ai (fun fl e=>?_),ai (fun k2 e=>?_)⟩
 ·cases hq:sub (kr+1) with
  |error f3=>rw [qbn hq] at e;cases e;exact qbn (hW.trans (product_err hc hq))
  |ok p3=>rw [qas (k':=p3.2) (a:=p3.1) hq] at e;cases e
 ·obtain ⟨_,b,e1,hq⟩:=qbf e
  cases e1
  have hlt:=hm _ _ _ hq
  refine ⟨by omega,k,_,f2,rfl,by omega,by omega,hW.trans (product_step hc hq),hfrm,?_⟩
  rw [←hfrm]
  exact uh N8 b k2 hq
theorem product_C {n:Nat} {sub:M Nd} (HS:NodeC rb g cap T 284 #[.pointer (some ⟨rb,0,none⟩)] sub n) (hm:∀k a k',sub k=.ok (a,k')→k<k'):NodeC rb g cap T 252 #[.pointer (some ⟨rb,0,none⟩)] (qby T sub) n:=by
 intro w σ h hf
 have HS':=ai HS
 have hf':=ai hf
 have hm':=ai hm
 have ff:=qd4
 clear HS hf hm
 have hr:=h.hr
 have hg:=h.hg
 have H1:=ai h
 have K2:=ai (Ke.refl rb w)
 clear h
 go_enter Tryz.func252,Tryz.ntmps252
 go_wp2_with fail
 have H3:=ai ((uh H1).alloc (.cells qat 62))
 have K4:=ai ((uh K2).alloc (.cells qat 62))
 have B5:=ai (Bx.at w qat 62 (w.heap.size) (by simp [World.setCell]))
 clear H1 K2
 refine (qb5 (uh H3)).mono ?_
 rintro e w1 ⟨t,rfl,hb,ht⟩
 have H6:=ai ((uh H3).below hb)
 have K7:=ai ((uh K4).below hb)
 have z8:=hb.size
 try simp [World.setCell] at z8
 have B9:=ai ((uh B5).below hb)
 clear H3 K4 B5 hb
 obtain ⟨c10,f11,y12⟩:=uh B9
 have Ht:=ai ht
 clear ht
 unfold tokV
 go_wp2_with fail
 clear c10 f11 y12
 refine (uh HS' _ _ (uh H6) (uh hf')).mono ?_
 rintro e w2 ⟨x,rfl,hb,hS,hN⟩
 have H16:=ai hS
 have K17:=ai ((uh K7).trans hb)
 have z18:=hb.size
 try simp [World.setCell] at z18
 have B19:=ai ((uh B9).ke hb (by omega))
 clear H6 K7 B9 hb hS
 obtain ⟨c20,f21,y22⟩:=uh B19
 have hN1:=ai (fun k a k' (h1:σ=.ok k) (hq:sub k=.ok (a,k'))=>(hN k a k' h1 hq).rng w1.heap.size (fun b hb=>by simpa using hb))
 clear hN
 unfold NV.v
 go_wp2_with fail
 have H23:=ai ((uh H16).alloc (.cells (nvA x) 62))
 have K24:=ai ((uh K17).alloc (.cells (nvA x) 62))
 have B25:=ai ((uh B19).alloc (.cells (nvA x) 62))
 have B26:=ai (Bx.at w2 (nvA x) 62 (w2.heap.size) (by simp [World.setCell]))
 have R27:=ai (fun k a k' h1 hq=>(NR.bel (uh hN1 k a k' h1 hq) (bw (.cells (nvA x) 62))))
 clear H16 K17 B19 hN1 c20 f21 y22
 clear ff
 go_loopg [] T.length (fun gk wr=>ChainR rb g cap T σ (qby T sub) (fun fr f nd k=>qec T sub fr f nd k) t.frm w w2.heap.size gk wr)
 case atStart=>
  refine ⟨nx σ sub,x,uh H23,uh K24,by simp,uh B26,uh B25,ai (fun fl e=>?_),ai (fun k1 e=>?_)⟩
  ·cases σ with
   |error f=>cases e;rfl
   |ok k=>
    cases hq:sub k with
    |error f=>rw [qbn hq] at e;cases e;rw [qbn];unfold qby;exact qb8 hq
    |ok p=>rw [qas (k':=p.2) (a:=p.1) hq] at e;cases e
  ·obtain ⟨k,a,rfl,hq⟩:=qbf e
   refine ⟨by omega,k,a,T.length,rfl,uh hm' _ _ _ hq,by omega,?_,by rw [uh Ht k rfl],(uh R27 k a k1 rfl hq).move (br _) (fun _ _ _=>rfl) (fun b hb _=>by omega)⟩
   unfold qby
   exact qcd hq
 case round=>
  clear H23 K24 R27 B25 B26
  obtain ⟨σr,y,HR0,KR0,zx,BX0,BR0,hE,hO⟩:=hrel
  have HR:=ai HR0
  have KR:=ai KR0
  have BX:=ai BX0
  have BR:=ai BR0
  clear HR0 KR0 BX0 BR0
  have zr:=(uh KR).size
  unfold nvA at BX
  cases σr with
  |error fl=>
   obtain ⟨c0,f0,y0⟩:=uh BX
   obtain ⟨c1,f1,y1⟩:=uh BR
   have hikStar:isS T (.error fl) kStar=false:=rfl
   go_wp2_with fail
   refine (is_S (uh HR) kStar).mono ?_
   rintro e w3 ⟨rfl,hb⟩
   have H501:=ai ((uh HR).below hb)
   have K502:=ai ((uh KR).below hb)
   have z503:=hb.size
   try simp [World.setCell] at z503
   have B504:=ai ((uh BR).below hb)
   have B505:=ai ((uh BX).below hb)
   clear HR KR BR BX hb
   obtain ⟨c506,f507,y508⟩:=uh B504
   obtain ⟨c509,f510,y511⟩:=uh B505
   go_wp2_with fail
   have H512:=ai ((uh H501).st7 (b:=w.heap.size) (by omega) (by omega) y)
   have K513:=ai ((uh K502).st7 (b:=w.heap.size) (by omega) y)
   have B514:=ai ((uh B504).st7 rfl y)
   have B515:=ai ((uh B505).stO7 (b:=w.heap.size) (by omega) y)
   clear H501 K502 B504 B505 c0 f0 y0 c1 f1 y1 c506 f507 y508 c509 f510 y511
   obtain ⟨cF,fF,zF⟩:=uh B514
   refine bodyPost_ret (v:=NV.v y) (by simp [results,Tryz.results252,go_sem,cF,NV.v];try rfl) rfl ⟨_,rfl,uh K513,?_,fun k b k' hk hq=>?_⟩
   ·rw [uh hE fl rfl];exact uh H512
   ·subst hk
    have:=uh hE fl rfl
    rw [qas hq] at this
    cases this
  |ok kr=>
   obtain ⟨hgk,k,nd,fu,rfl,hkr,hfu,hW0,hfrm0,hNN0⟩:=uh hO kr rfl
   have hNN:=ai (hNN0.move (Q:=fun b=>w.heap.size<b∧b≠w2.heap.size∧b<wr.heap.size) (br _) (fun _ _ _=>rfl) (fun b hb hz=>⟨hb.1,hb.2,hz⟩))
   have hkT:kr<T.length:=by have h':RS wr rb g cap T kr noFl:=uh HR;exact h'.hk
   have hW:=ai hW0
   have hfrm:=ai hfrm0
   clear hE hO hW0 hfrm0 hNN0
   rcases hst:isT (tk T kr) kStar with _|_
   ·obtain ⟨c0,f0,y0⟩:=uh BX
    obtain ⟨c1,f1,y1⟩:=uh BR
    have hi:isS T (.ok kr) kStar=false:=hst
    go_wp2_with fail
    refine (is_S (uh HR) kStar).mono ?_
    rintro e w3 ⟨rfl,hb⟩
    have H501:=ai ((uh HR).below hb)
    have K502:=ai ((uh KR).below hb)
    have z503:=hb.size
    try simp [World.setCell] at z503
    have B504:=ai ((uh BR).below hb)
    have B505:=ai ((uh BX).below hb)
    have R506:=ai (NR.bel (uh hNN) hb)
    clear HR KR BR BX hNN hb
    obtain ⟨c507,f508,y509⟩:=uh B504
    obtain ⟨c510,f511,y512⟩:=uh B505
    go_wp2_with fail
    have hE2:=ai ((uh hW).trans (product_stop (by simp [hst])))
    clear hW
    have H513:=ai ((uh H501).st7 (b:=w.heap.size) (by omega) (by omega) y)
    have K514:=ai ((uh K502).st7 (b:=w.heap.size) (by omega) y)
    have B515:=ai ((uh B504).st7 rfl y)
    have B516:=ai ((uh B505).stO7 (b:=w.heap.size) (by omega) y)
    have R517:=ai ((NRst7 (uh R506) (b2:=w.heap.size) (fun b hb _=>by omega) y))
    clear H501 K502 B504 B505 R506 c0 f0 y0 c1 f1 y1 c507 f508 y509 c510 f511 y512
    obtain ⟨cF,fF,zF⟩:=uh B515
    refine bodyPost_ret (v:=NV.v y) (by simp [results,Tryz.results252,go_sem,cF,NV.v];try rfl) rfl ⟨_,rfl,uh K514,?_,fun k b k' hk hq=>?_⟩
    ·rw [qas (uh hE2)];exact uh H513
    ·cases hk
     rw [uh hE2] at hq
     cases hq
     exact (uh R517).wide _ (fun b hb=>by omega)
   ·obtain ⟨f2,rfl⟩:∃f2,fu=f2+1:=⟨fu-1,by omega⟩
    obtain ⟨c0,f0,y0⟩:=uh BX
    obtain ⟨c1,f1,y1⟩:=uh BR
    have hi:isS T (.ok kr) kStar=true:=hst
    have h7:(tk T kr).kind≠7:=by have:=qbe hst;omega
    have hst2:=ai hst
    clear hst
    go_wp2_with fail
    refine (is_S (uh HR) kStar).mono ?_
    rintro e w3 ⟨rfl,hb⟩
    have H501:=ai ((uh HR).below hb)
    have K502:=ai ((uh KR).below hb)
    have z503:=hb.size
    try simp [World.setCell] at z503
    have B504:=ai ((uh BR).below hb)
    have B505:=ai ((uh BX).below hb)
    have R506:=ai (NR.bel (uh hNN) hb)
    clear HR KR BR BX hNN hb
    obtain ⟨c507,f508,y509⟩:=uh B504
    obtain ⟨c510,f511,y512⟩:=uh B505
    go_wp2_with fail
    clear c0 f0 y0 c1 f1 y1 c507 f508 y509 c510 f511 y512
    refine (qcp (uh H501) h7).mono ?_
    rintro e w5 ⟨rfl,hb,hS⟩
    have H517:=ai hS
    have K518:=ai ((uh K502).trans hb)
    have z519:=hb.size
    try simp [World.setCell] at z519
    have B520:=ai ((uh B504).ke hb (by omega))
    have B521:=ai ((uh B505).ke hb (by omega))
    have R522:=ai (NR.ke (uh R506) hb (fun b hb=>by omega))
    clear H501 K502 B504 B505 R506 hb hS
    obtain ⟨c523,f524,y525⟩:=uh B520
    obtain ⟨c526,f527,y528⟩:=uh B521
    unfold tokV
    go_wp2_with fail
    clear c523 f524 y525 c526 f527 y528
    refine (uh HS' _ _ (uh H517) (by intro j hj;cases hj;have:=uh hf' k rfl;omega)).mono ?_
    rintro e w6 ⟨z,rfl,hb,hS,hN⟩
    have H533:=ai hS
    have K534:=ai ((uh K518).trans hb)
    have z535:=hb.size
    try simp [World.setCell] at z535
    have B536:=ai ((uh B520).ke hb (by omega))
    have B537:=ai ((uh B521).ke hb (by omega))
    have R538:=ai (NR.ke (uh R522) hb (fun b hb=>by omega))
    clear H517 K518 B520 B521 R522 hb hS
    obtain ⟨c539,f540,y541⟩:=uh B536
    obtain ⟨c542,f543,y544⟩:=uh B537
    have hNz:=ai (fun b k2 (hq:sub (kr+1)=.ok (b,k2))=>(hN _ b k2 rfl hq).rng w5.heap.size (fun b hb=>by simpa using hb))
    clear hN
    unfold NV.v
    go_wp2_with fail
    have H545:=ai ((uh H533).alloc (.cells (nvA z) 62))
    have K546:=ai ((uh K534).alloc (.cells (nvA z) 62))
    have B547:=ai ((uh B536).alloc (.cells (nvA z) 62))
    have B548:=ai ((uh B537).alloc (.cells (nvA z) 62))
    have B549:=ai (Bx.at w6 (nvA z) 62 (w6.heap.size) (by simp [World.setCell]))
    have R550:=ai ((NR.bel (uh R538) (bw (.cells (nvA z) 62))))
    have R551:=ai (fun b k2 hq=>(NR.bel (uh hNz b k2 hq) (bw (.cells (nvA z) 62))))
    clear H533 K534 B536 B537 R538 hNz
    have HX:∀W,(W=(w6.alloc (.cells (nvA z) 62)).drew∨W=((w6.alloc (.cells (nvA z) 62)).alloc (.cells (nvB y z) 62)).drew)→SS W rb g cap T (nx (.ok (kr+1)) sub)∧∀w7,Below W.heap.size W w7→SS w7 rb g cap T (nx (.ok (kr+1)) sub)∧Ke rb w w7∧Bx w7 (w.heap.size) #[.int .i64 0,.string ⟨#[]⟩,.int .i64 0,.slice none 0 0,.int .i64 0,.int .i64 0,.int .i64 0]∧Bx w7 (w2.heap.size) #[.int .i64 y.k,.string y.s,.int .i64 y.n,.slice y.la y.ll y.lc,.int .i64 y.f,.int .i64 y.t,.int .i64 y.a]∧Bx w7 (w6.heap.size) #[.int .i64 z.k,.string z.s,.int .i64 z.n,.slice z.la z.ll z.lc,.int .i64 z.f,.int .i64 z.t,.int .i64 z.a]∧(W=((w6.alloc (.cells (nvA z) 62)).alloc (.cells (nvB y z) 62)).drew→Bx w7 (w6.heap.size+1) (nvB y z))∧NR w7 (fun b=>w.heap.size<b∧b≠w2.heap.size∧b<w6.heap.size) nd y∧∀b k2,sub (kr+1)=.ok (b,k2)→NR w7 (fun b=>w.heap.size<b∧b≠w2.heap.size∧b<w6.heap.size) b z:=by
     rintro W (rfl|rfl)
     ·exact ⟨(uh H545).drew,fun w7 hb=>⟨((uh H545).drew).below hb,((uh K546).drew).below hb,((uh B547).drew).below hb,((uh B548).drew).below hb,((uh B549).drew).below hb,fun e=>absurd (congrArg (fun w=>w.heap.size) e) (by simp),(((uh R550).move (br _) (fun _ _ _=>rfl) (fun b hb _=>by omega)).bel ((Below.refl _ _).drew)).bel hb,fun b k2 hq=>(((uh R551 b k2 hq).move (br _) (fun _ _ _=>rfl) (fun b hb _=>by omega)).bel ((Below.refl _ _).drew)).bel hb⟩⟩
     ·exact ⟨((uh H545).alloc (.cells (nvB y z) 62)).drew,fun w7 hb=>⟨(((uh H545).alloc (.cells (nvB y z) 62)).drew).below hb,(((uh K546).alloc (.cells (nvB y z) 62)).drew).below hb,(((uh B547).alloc (.cells (nvB y z) 62)).drew).below hb,(((uh B548).alloc (.cells (nvB y z) 62)).drew).below hb,(((uh B549).alloc (.cells (nvB y z) 62)).drew).below hb,fun _=>((Bx.at _ (nvB y z) 62 (w6.heap.size+1) (by simp)).drew).below hb,(((uh R550).move (br _) (fun _ _ _=>rfl) (fun b hb _=>by omega)).bel ((bw (.cells (nvB y z) 62)).drew)).bel hb,fun b k2 hq=>(((uh R551 b k2 hq).move (br _) (fun _ _ _=>rfl) (fun b hb _=>by omega)).bel ((bw (.cells (nvB y z) 62)).drew)).bel hb⟩⟩
    have HX1:=ai HX
    clear HX
    go_region_with (go_at_call 174;refine (qd1 (uh HX1 _ (by first|exact Or.inl rfl|exact Or.inr rfl)).1).mono ?_;rintro e w7 ⟨m,rfl,hb,hn⟩;obtain ⟨S7,K7,b70,b71,b72,R7,Na7,Nb7⟩:=(uh HX1 _ (by first|exact Or.inl rfl|exact Or.inr rfl)).2 _ hb;have zz:=hb.size;have HB70:=ai b70;obtain ⟨q0c,q0f,q0z⟩:=b70;have HB71:=ai b71;obtain ⟨q1c,q1f,q1z⟩:=b71;have HB72:=ai b72;obtain ⟨q2c,q2f,q2z⟩:=b72;have HS7:=ai S7;have HK7:=ai K7;have HNa:=ai Na7;have HNb:=ai Nb7;have Hn:=ai hn;first|(have hRw:=R7 rfl;have HRow:=ai hRw;clear hRw)|(have HNo:Hid (0=0):=rfl);clear S7 K7 Na7 Nb7 R7 hb hn)
    all_goals
     go_wp2_with fail
     go_roundg (T.length-(kr+1))
     case measure=>omega
     case rel=>
      refine product_rel (uh hW) (uh hst2) (uh hfrm) (uh hm') hkr hfu ?_
      first
      |(have hRw:=uh HRow;refine ⟨⟨7,kStar,0,some ⟨w6.heap.size+1,0,none⟩,2,2,(t.frm:Int),(m:Int),(t.frm:Int)⟩,?_,?_,?_,?_,?_,ai (fun b k2 hq=>?_)⟩
        ·exact ((uh HS7).set7 (b:=w2.heap.size) (by omega) (by omega) (.int .i64 7) (.string kStar) (.int .i64 0) (.slice (some ⟨w6.heap.size+1,0,none⟩) 2 2) (.int .i64 (t.frm:Int)) (.int .i64 (m:Int)) (.int .i64 (t.frm:Int)))
        ·exact ((uh HK7).set7 (b:=w2.heap.size) (by omega) (.int .i64 7) (.string kStar) (.int .i64 0) (.slice (some ⟨w6.heap.size+1,0,none⟩) 2 2) (.int .i64 (t.frm:Int)) (.int .i64 (m:Int)) (.int .i64 (t.frm:Int)))
        ·simp [World.setCell];omega
        ·exact ((uh HB71).set7 rfl (.int .i64 7) (.string kStar) (.int .i64 0) (.slice (some ⟨w6.heap.size+1,0,none⟩) 2 2) (.int .i64 (t.frm:Int)) (.int .i64 (m:Int)) (.int .i64 (t.frm:Int)))
        ·exact ((uh HB70).setO7 (b:=w2.heap.size) (by omega) (.int .i64 7) (.string kStar) (.int .i64 0) (.slice (some ⟨w6.heap.size+1,0,none⟩) 2 2) (.int .i64 (t.frm:Int)) (.int .i64 (m:Int)) (.int .i64 (t.frm:Int)))
        ·rw [←uh Hn k2 (qas hq)]
         have na:=(qcf (uh HNa) (b2:=w2.heap.size) (fun b hb _=>hb.2.1) (.int .i64 7) (.string kStar) (.int .i64 0) (.slice (some ⟨w6.heap.size+1,0,none⟩) 2 2) (.int .i64 (t.frm:Int)) (.int .i64 (m:Int)) (.int .i64 (t.frm:Int))).move (Q:=fun b=>w.heap.size<b∧b≠w2.heap.size) (br _) (fun _ _ _=>rfl) (fun b hb _=>⟨hb.1,hb.2.1⟩)
         have nb:=(qcf (uh HNb b k2 hq) (b2:=w2.heap.size) (fun b hb _=>hb.2.1) (.int .i64 7) (.string kStar) (.int .i64 0) (.slice (some ⟨w6.heap.size+1,0,none⟩) 2 2) (.int .i64 (t.frm:Int)) (.int .i64 (m:Int)) (.int .i64 (t.frm:Int))).move (Q:=fun b=>w.heap.size<b∧b≠w2.heap.size) (br _) (fun _ _ _=>rfl) (fun b hb _=>⟨hb.1,hb.2.1⟩)
         exact NR.two (P:=fun b=>w.heap.size<b∧b≠w2.heap.size) 7 kStar 0 t.frm m t.frm (hRw.setO7 (b:=w2.heap.size) (by omega) (.int .i64 7) (.string kStar) (.int .i64 0) (.slice (some ⟨w6.heap.size+1,0,none⟩) 2 2) (.int .i64 (t.frm:Int)) (.int .i64 (m:Int)) (.int .i64 (t.frm:Int))) rfl na nb (by omega) 2)
      |(have hNo:=HNo;refine ⟨⟨7,kStar,0,some ⟨w7.heap.size,0,none⟩,2,2,(t.frm:Int),(m:Int),(t.frm:Int)⟩,?_,?_,?_,?_,?_,ai (fun b k2 hq=>?_)⟩
        ·exact (((uh HS7).set7 (b:=w2.heap.size) (by omega) (by omega) (.int .i64 7) (.string kStar) (.int .i64 0) (.slice (some ⟨w7.heap.size,0,none⟩) 2 2) (.int .i64 (t.frm:Int)) (.int .i64 (m:Int)) (.int .i64 (t.frm:Int))).alloc (.cells (nvB y z) 62))
        ·exact (((uh HK7).set7 (b:=w2.heap.size) (by omega) (.int .i64 7) (.string kStar) (.int .i64 0) (.slice (some ⟨w7.heap.size,0,none⟩) 2 2) (.int .i64 (t.frm:Int)) (.int .i64 (m:Int)) (.int .i64 (t.frm:Int))).alloc (.cells (nvB y z) 62))
        ·simp [World.setCell];omega
        ·exact (((uh HB71).set7 rfl (.int .i64 7) (.string kStar) (.int .i64 0) (.slice (some ⟨w7.heap.size,0,none⟩) 2 2) (.int .i64 (t.frm:Int)) (.int .i64 (m:Int)) (.int .i64 (t.frm:Int))).alloc (.cells (nvB y z) 62))
        ·exact (((uh HB70).setO7 (b:=w2.heap.size) (by omega) (.int .i64 7) (.string kStar) (.int .i64 0) (.slice (some ⟨w7.heap.size,0,none⟩) 2 2) (.int .i64 (t.frm:Int)) (.int .i64 (m:Int)) (.int .i64 (t.frm:Int))).alloc (.cells (nvB y z) 62))
        ·rw [←uh Hn k2 (qas hq)]
         have na:=(NR.bel (qcf (uh HNa) (b2:=w2.heap.size) (fun b hb _=>hb.2.1) (.int .i64 7) (.string kStar) (.int .i64 0) (.slice (some ⟨w7.heap.size,0,none⟩) 2 2) (.int .i64 (t.frm:Int)) (.int .i64 (m:Int)) (.int .i64 (t.frm:Int))) (bw (.cells (nvB y z) 62))).move (Q:=fun b=>w.heap.size<b∧b≠w2.heap.size) (br _) (fun _ _ _=>rfl) (fun b hb _=>⟨hb.1,hb.2.1⟩)
         have nb:=(NR.bel (qcf (uh HNb b k2 hq) (b2:=w2.heap.size) (fun b hb _=>hb.2.1) (.int .i64 7) (.string kStar) (.int .i64 0) (.slice (some ⟨w7.heap.size,0,none⟩) 2 2) (.int .i64 (t.frm:Int)) (.int .i64 (m:Int)) (.int .i64 (t.frm:Int))) (bw (.cells (nvB y z) 62))).move (Q:=fun b=>w.heap.size<b∧b≠w2.heap.size) (br _) (fun _ _ _=>rfl) (fun b hb _=>⟨hb.1,hb.2.1⟩)
         exact NR.two (P:=fun b=>w.heap.size<b∧b≠w2.heap.size) 7 kStar 0 t.frm m t.frm (Bx.at _ (nvB y z) 62 (w7.heap.size) (by simp [World.setCell])) rfl na nb (by omega) 2)
end
end
section
open Go Go.RowKit
section
variable {rb g cap:Nat} {T:List Pu.Tok} {σ:St} {w:World}
theorem sum_stop {sub:M Nd} {frm f:Nat} {x:Nd} {k:Nat} (h:¬(isT (tk T k) kPlus=true∨isT (tk T k) kMinus=true)):sumF T sub frm f x k=.ok (x,k):=by
 cases f with
 |zero=>rfl
 |succ f=>unfold sumF;rw [if_neg h]
theorem sum_step {sub:M Nd} {frm f:Nat} {x b:Nd} {k k2:Nat} (h:(isT (tk T k) kPlus=true∨isT (tk T k) kMinus=true)) (hs:sub (k+1)=.ok (b,k2)):sumF T sub frm (f+1) x k=sumF T sub frm f (.mk 7 (tk T k).text 0 [x,b] frm (qan T k2) frm) k2:=by
 conv=>lhs;unfold sumF
 rw [if_pos h,qcd hs]
theorem sum_err {sub:M Nd} {frm f:Nat} {x:Nd} {k:Nat} {e:Fl} (h:(isT (tk T k) kPlus=true∨isT (tk T k) kMinus=true)) (hs:sub (k+1)=.error e):sumF T sub frm (f+1) x k=.error e:=by
 unfold sumF
 rw [if_pos h,qb8 hs]
theorem sum_rel {sub:M Nd} {frm f2 k kr bx:Nat} {nd:Nd} {wc:World} (hW:sumM T sub k=sumF T sub (tk T k).frm (f2+1) nd kr) (hc:(isT (tk T kr) kPlus=true∨isT (tk T kr) kMinus=true)) (hfrm:frm=(tk T k).frm) (hm:∀k a k',sub k=.ok (a,k')→k<k') (hkr:k<kr) (hfu:T.length≤kr+(f2+1))
 (hG:GrownR rb g cap T (nx (.ok (kr+1)) sub) sub (kr+1) 7 (tk T kr).text nd frm w bx wc):ChainR rb g cap T (.ok k) (sumM T sub) (fun fr f nd k=>sumF T sub fr f nd k) frm w bx (T.length-(kr+1)) wc:=by
 obtain ⟨x2,S8,K8,z8,X8,R8,N8⟩:=hG
 refine ⟨_,x2,S8,K8,z8,X8,R8,ai (fun fl e=>?_),ai (fun k2 e=>?_)⟩
 ·cases hq:sub (kr+1) with
  |error f3=>rw [qbn hq] at e;cases e;exact qbn (hW.trans (sum_err hc hq))
  |ok p3=>rw [qas (k':=p3.2) (a:=p3.1) hq] at e;cases e
 ·obtain ⟨_,b,e1,hq⟩:=qbf e
  cases e1
  have hlt:=hm _ _ _ hq
  refine ⟨by omega,k,_,f2,rfl,by omega,by omega,hW.trans (sum_step hc hq),hfrm,?_⟩
  rw [←hfrm]
  exact uh N8 b k2 hq
theorem sum_C {n:Nat} {sub:M Nd} (HS:NodeC rb g cap T 252 #[.pointer (some ⟨rb,0,none⟩)] sub n) (hm:∀k a k',sub k=.ok (a,k')→k<k'):NodeC rb g cap T 177 #[.pointer (some ⟨rb,0,none⟩)] (sumM T sub) n:=by
 intro w σ h hf
 have HS':=ai HS
 have hf':=ai hf
 have hm':=ai hm
 have ff:=qd4
 clear HS hf hm
 have hr:=h.hr
 have hg:=h.hg
 have H1:=ai h
 have K2:=ai (Ke.refl rb w)
 clear h
 go_enter Tryz.func177,Tryz.ntmps177
 go_wp2_with fail
 have H3:=ai ((uh H1).alloc (.cells qat 62))
 have K4:=ai ((uh K2).alloc (.cells qat 62))
 have B5:=ai (Bx.at w qat 62 (w.heap.size) (by simp [World.setCell]))
 clear H1 K2
 refine (qb5 (uh H3)).mono ?_
 rintro e w1 ⟨t,rfl,hb,ht⟩
 have H6:=ai ((uh H3).below hb)
 have K7:=ai ((uh K4).below hb)
 have z8:=hb.size
 try simp [World.setCell] at z8
 have B9:=ai ((uh B5).below hb)
 clear H3 K4 B5 hb
 obtain ⟨c10,f11,y12⟩:=uh B9
 have Ht:=ai ht
 clear ht
 unfold tokV
 go_wp2_with fail
 clear c10 f11 y12
 refine (uh HS' _ _ (uh H6) (uh hf')).mono ?_
 rintro e w2 ⟨x,rfl,hb,hS,hN⟩
 have H16:=ai hS
 have K17:=ai ((uh K7).trans hb)
 have z18:=hb.size
 try simp [World.setCell] at z18
 have B19:=ai ((uh B9).ke hb (by omega))
 clear H6 K7 B9 hb hS
 obtain ⟨c20,f21,y22⟩:=uh B19
 have hN1:=ai (fun k a k' (h1:σ=.ok k) (hq:sub k=.ok (a,k'))=>(hN k a k' h1 hq).rng w1.heap.size (fun b hb=>by simpa using hb))
 clear hN
 unfold NV.v
 go_wp2_with fail
 have H23:=ai ((uh H16).alloc (.cells (nvA x) 62))
 have K24:=ai ((uh K17).alloc (.cells (nvA x) 62))
 have B25:=ai ((uh B19).alloc (.cells (nvA x) 62))
 have B26:=ai (Bx.at w2 (nvA x) 62 (w2.heap.size) (by simp [World.setCell]))
 have R27:=ai (fun k a k' h1 hq=>(NR.bel (uh hN1 k a k' h1 hq) (bw (.cells (nvA x) 62))))
 clear H16 K17 B19 hN1 c20 f21 y22
 clear ff
 go_loopg [] T.length (fun gk wr=>ChainR rb g cap T σ (sumM T sub) (fun fr f nd k=>sumF T sub fr f nd k) t.frm w w2.heap.size gk wr)
 case atStart=>
  refine ⟨nx σ sub,x,uh H23,uh K24,by simp,uh B26,uh B25,ai (fun fl e=>?_),ai (fun k1 e=>?_)⟩
  ·cases σ with
   |error f=>cases e;rfl
   |ok k=>
    cases hq:sub k with
    |error f=>rw [qbn hq] at e;cases e;rw [qbn];unfold sumM;exact qb8 hq
    |ok p=>rw [qas (k':=p.2) (a:=p.1) hq] at e;cases e
  ·obtain ⟨k,a,rfl,hq⟩:=qbf e
   refine ⟨by omega,k,a,T.length,rfl,uh hm' _ _ _ hq,by omega,?_,by rw [uh Ht k rfl],(uh R27 k a k1 rfl hq).move (br _) (fun _ _ _=>rfl) (fun b hb _=>by omega)⟩
   unfold sumM
   exact qcd hq
 case round=>
  clear H23 K24 R27 B25 B26
  obtain ⟨σr,y,HR0,KR0,zx,BX0,BR0,hE,hO⟩:=hrel
  have HR:=ai HR0
  have KR:=ai KR0
  have BX:=ai BX0
  have BR:=ai BR0
  clear HR0 KR0 BX0 BR0
  have zr:=(uh KR).size
  unfold nvA at BX
  cases σr with
  |error fl=>
   obtain ⟨c0,f0,y0⟩:=uh BX
   obtain ⟨c1,f1,y1⟩:=uh BR
   have hikPlus:isS T (.error fl) kPlus=false:=rfl
   have hikMinus:isS T (.error fl) kMinus=false:=rfl
   go_wp2_with fail
   refine (is_S (uh HR) kPlus).mono ?_
   rintro e w3 ⟨rfl,hb⟩
   have H501:=ai ((uh HR).below hb)
   have K502:=ai ((uh KR).below hb)
   have z503:=hb.size
   try simp [World.setCell] at z503
   have B504:=ai ((uh BR).below hb)
   have B505:=ai ((uh BX).below hb)
   clear HR KR BR BX hb
   obtain ⟨c506,f507,y508⟩:=uh B504
   obtain ⟨c509,f510,y511⟩:=uh B505
   go_wp2_with fail
   refine (is_S (uh H501) kMinus).mono ?_
   rintro e w4 ⟨rfl,hb⟩
   have H512:=ai ((uh H501).below hb)
   have K513:=ai ((uh K502).below hb)
   have z514:=hb.size
   try simp [World.setCell] at z514
   have B515:=ai ((uh B504).below hb)
   have B516:=ai ((uh B505).below hb)
   clear H501 K502 B504 B505 hb
   obtain ⟨c517,f518,y519⟩:=uh B515
   obtain ⟨c520,f521,y522⟩:=uh B516
   go_wp2_with fail
   have H523:=ai ((uh H512).st7 (b:=w.heap.size) (by omega) (by omega) y)
   have K524:=ai ((uh K513).st7 (b:=w.heap.size) (by omega) y)
   have B525:=ai ((uh B515).st7 rfl y)
   have B526:=ai ((uh B516).stO7 (b:=w.heap.size) (by omega) y)
   clear H512 K513 B515 B516 c0 f0 y0 c1 f1 y1 c506 f507 y508 c509 f510 y511 c517 f518 y519 c520 f521 y522
   obtain ⟨cF,fF,zF⟩:=uh B525
   refine bodyPost_ret (v:=NV.v y) (by simp [results,Tryz.results177,go_sem,cF,NV.v];try rfl) rfl ⟨_,rfl,uh K524,?_,fun k b k' hk hq=>?_⟩
   ·rw [uh hE fl rfl];exact uh H523
   ·subst hk
    have:=uh hE fl rfl
    rw [qas hq] at this
    cases this
  |ok kr=>
   obtain ⟨hgk,k,nd,fu,rfl,hkr,hfu,hW0,hfrm0,hNN0⟩:=uh hO kr rfl
   have hNN:=ai (hNN0.move (Q:=fun b=>w.heap.size<b∧b≠w2.heap.size∧b<wr.heap.size) (br _) (fun _ _ _=>rfl) (fun b hb hz=>⟨hb.1,hb.2,hz⟩))
   have hkT:kr<T.length:=by have h':RS wr rb g cap T kr noFl:=uh HR;exact h'.hk
   have hW:=ai hW0
   have hfrm:=ai hfrm0
   clear hE hO hW0 hfrm0 hNN0
   rcases hpl:isT (tk T kr) kPlus with _|_
   ·rcases hmi:isT (tk T kr) kMinus with _|_
    ·obtain ⟨c0,f0,y0⟩:=uh BX
     obtain ⟨c1,f1,y1⟩:=uh BR
     have hi:isS T (.ok kr) kPlus=false:=hpl
     have hj:isS T (.ok kr) kMinus=false:=hmi
     go_wp2_with fail
     refine (is_S (uh HR) kPlus).mono ?_
     rintro e w3 ⟨rfl,hb⟩
     have H501:=ai ((uh HR).below hb)
     have K502:=ai ((uh KR).below hb)
     have z503:=hb.size
     try simp [World.setCell] at z503
     have B504:=ai ((uh BR).below hb)
     have B505:=ai ((uh BX).below hb)
     have R506:=ai (NR.bel (uh hNN) hb)
     clear HR KR BR BX hNN hb
     obtain ⟨c507,f508,y509⟩:=uh B504
     obtain ⟨c510,f511,y512⟩:=uh B505
     go_wp2_with fail
     refine (is_S (uh H501) kMinus).mono ?_
     rintro e w4 ⟨rfl,hb⟩
     have H513:=ai ((uh H501).below hb)
     have K514:=ai ((uh K502).below hb)
     have z515:=hb.size
     try simp [World.setCell] at z515
     have B516:=ai ((uh B504).below hb)
     have B517:=ai ((uh B505).below hb)
     have R518:=ai (NR.bel (uh R506) hb)
     clear H501 K502 B504 B505 R506 hb
     obtain ⟨c519,f520,y521⟩:=uh B516
     obtain ⟨c522,f523,y524⟩:=uh B517
     go_wp2_with fail
     have hE2:=ai ((uh hW).trans (sum_stop (by simp [hpl,hmi])))
     clear hW
     have H525:=ai ((uh H513).st7 (b:=w.heap.size) (by omega) (by omega) y)
     have K526:=ai ((uh K514).st7 (b:=w.heap.size) (by omega) y)
     have B527:=ai ((uh B516).st7 rfl y)
     have B528:=ai ((uh B517).stO7 (b:=w.heap.size) (by omega) y)
     have R529:=ai ((NRst7 (uh R518) (b2:=w.heap.size) (fun b hb _=>by omega) y))
     clear H513 K514 B516 B517 R518 c0 f0 y0 c1 f1 y1 c507 f508 y509 c510 f511 y512 c519 f520 y521 c522 f523 y524
     obtain ⟨cF,fF,zF⟩:=uh B527
     refine bodyPost_ret (v:=NV.v y) (by simp [results,Tryz.results177,go_sem,cF,NV.v];try rfl) rfl ⟨_,rfl,uh K526,?_,fun k b k' hk hq=>?_⟩
     ·rw [qas (uh hE2)];exact uh H525
     ·cases hk
      rw [uh hE2] at hq
      cases hq
      exact (uh R529).wide _ (fun b hb=>by omega)
    ·obtain ⟨f2,rfl⟩:∃f2,fu=f2+1:=⟨fu-1,by omega⟩
     obtain ⟨c0,f0,y0⟩:=uh BX
     obtain ⟨c1,f1,y1⟩:=uh BR
     have hi:isS T (.ok kr) kPlus=false:=hpl
     have hj:isS T (.ok kr) kMinus=true:=hmi
     have h7:(tk T kr).kind≠7:=by have:=qbe hmi;omega
     have hst2:Hid (isT (tk T kr) kPlus=true∨isT (tk T kr) kMinus=true):=Or.inr hmi
     clear hpl hmi
     go_wp2_with fail
     refine (is_S (uh HR) kPlus).mono ?_
     rintro e w3 ⟨rfl,hb⟩
     have H501:=ai ((uh HR).below hb)
     have K502:=ai ((uh KR).below hb)
     have z503:=hb.size
     try simp [World.setCell] at z503
     have B504:=ai ((uh BR).below hb)
     have B505:=ai ((uh BX).below hb)
     have R506:=ai (NR.bel (uh hNN) hb)
     clear HR KR BR BX hNN hb
     obtain ⟨c507,f508,y509⟩:=uh B504
     obtain ⟨c510,f511,y512⟩:=uh B505
     go_wp2_with fail
     refine (is_S (uh H501) kMinus).mono ?_
     rintro e w4 ⟨rfl,hb⟩
     have H513:=ai ((uh H501).below hb)
     have K514:=ai ((uh K502).below hb)
     have z515:=hb.size
     try simp [World.setCell] at z515
     have B516:=ai ((uh B504).below hb)
     have B517:=ai ((uh B505).below hb)
     have R518:=ai (NR.bel (uh R506) hb)
     clear H501 K502 B504 B505 R506 hb
     obtain ⟨c519,f520,y521⟩:=uh B516
     obtain ⟨c522,f523,y524⟩:=uh B517
     go_wp2_with fail
     clear c0 f0 y0 c1 f1 y1 c507 f508 y509 c510 f511 y512 c519 f520 y521 c522 f523 y524
     refine (qcp (uh H513) h7).mono ?_
     rintro e w5 ⟨rfl,hb,hS⟩
     have H529:=ai hS
     have K530:=ai ((uh K514).trans hb)
     have z531:=hb.size
     try simp [World.setCell] at z531
     have B532:=ai ((uh B516).ke hb (by omega))
     have B533:=ai ((uh B517).ke hb (by omega))
     have R534:=ai (NR.ke (uh R518) hb (fun b hb=>by omega))
     clear H513 K514 B516 B517 R518 hb hS
     obtain ⟨c535,f536,y537⟩:=uh B532
     obtain ⟨c538,f539,y540⟩:=uh B533
     unfold tokV
     go_wp2_with fail
     have H541:=ai ((uh H529).alloc (.cells #[.int .i64 ((tk T kr).kind:Int),.string (tk T kr).text,.int .i64 ((tk T kr).frm:Int),.int .i64 ((tk T kr).to:Int)] 58))
     have K542:=ai ((uh K530).alloc (.cells #[.int .i64 ((tk T kr).kind:Int),.string (tk T kr).text,.int .i64 ((tk T kr).frm:Int),.int .i64 ((tk T kr).to:Int)] 58))
     have B543:=ai ((uh B532).alloc (.cells #[.int .i64 ((tk T kr).kind:Int),.string (tk T kr).text,.int .i64 ((tk T kr).frm:Int),.int .i64 ((tk T kr).to:Int)] 58))
     have B544:=ai ((uh B533).alloc (.cells #[.int .i64 ((tk T kr).kind:Int),.string (tk T kr).text,.int .i64 ((tk T kr).frm:Int),.int .i64 ((tk T kr).to:Int)] 58))
     have B545:=ai (Bx.at w5 #[.int .i64 ((tk T kr).kind:Int),.string (tk T kr).text,.int .i64 ((tk T kr).frm:Int),.int .i64 ((tk T kr).to:Int)] 58 (w5.heap.size) (by simp [World.setCell]))
     have R546:=ai ((NR.bel (uh R534) (bw (.cells #[.int .i64 ((tk T kr).kind:Int),.string (tk T kr).text,.int .i64 ((tk T kr).frm:Int),.int .i64 ((tk T kr).to:Int)] 58))))
     clear H529 K530 B532 B533 R534 c535 f536 y537 c538 f539 y540
     refine (uh HS' _ _ (uh H541) (by intro j hj;cases hj;have:=uh hf' k rfl;omega)).mono ?_
     rintro e w6 ⟨z,rfl,hb,hS,hN⟩
     have H547:=ai hS
     have K548:=ai ((uh K542).trans hb)
     have z549:=hb.size
     try simp [World.setCell] at z549
     have B550:=ai ((uh B543).ke hb (by omega))
     have B551:=ai ((uh B544).ke hb (by omega))
     have B552:=ai ((uh B545).ke hb (by omega))
     have R553:=ai (NR.ke (uh R546) hb (fun b hb=>by omega))
     clear H541 K542 B543 B544 B545 R546 hb hS
     obtain ⟨c554,f555,y556⟩:=uh B550
     obtain ⟨c557,f558,y559⟩:=uh B551
     obtain ⟨c560,f561,y562⟩:=uh B552
     have hNz:=ai (fun b k2 (hq:sub (kr+1)=.ok (b,k2))=>(hN _ b k2 rfl hq).rng w5.heap.size (fun b hb=>by have h5:=hb;simp at h5;omega))
     clear hN
     unfold NV.v
     go_wp2_with fail
     have H563:=ai ((uh H547).alloc (.cells (nvA z) 62))
     have K564:=ai ((uh K548).alloc (.cells (nvA z) 62))
     have B565:=ai ((uh B550).alloc (.cells (nvA z) 62))
     have B566:=ai ((uh B551).alloc (.cells (nvA z) 62))
     have B567:=ai ((uh B552).alloc (.cells (nvA z) 62))
     have B568:=ai (Bx.at w6 (nvA z) 62 (w6.heap.size) (by simp [World.setCell]))
     have R569:=ai ((NR.bel (uh R553) (bw (.cells (nvA z) 62))))
     have R570:=ai (fun b k2 hq=>(NR.bel (uh hNz b k2 hq) (bw (.cells (nvA z) 62))))
     clear H547 K548 B550 B551 B552 R553 hNz
     have HX:∀W,(W=(w6.alloc (.cells (nvA z) 62)).drew∨W=((w6.alloc (.cells (nvA z) 62)).alloc (.cells (nvB y z) 62)).drew)→SS W rb g cap T (nx (.ok (kr+1)) sub)∧∀w7,Below W.heap.size W w7→SS w7 rb g cap T (nx (.ok (kr+1)) sub)∧Ke rb w w7∧Bx w7 (w.heap.size) #[.int .i64 0,.string ⟨#[]⟩,.int .i64 0,.slice none 0 0,.int .i64 0,.int .i64 0,.int .i64 0]∧Bx w7 (w2.heap.size) #[.int .i64 y.k,.string y.s,.int .i64 y.n,.slice y.la y.ll y.lc,.int .i64 y.f,.int .i64 y.t,.int .i64 y.a]∧Bx w7 (w5.heap.size) #[.int .i64 ((tk T kr).kind:Int),.string (tk T kr).text,.int .i64 ((tk T kr).frm:Int),.int .i64 ((tk T kr).to:Int)]∧Bx w7 (w6.heap.size) #[.int .i64 z.k,.string z.s,.int .i64 z.n,.slice z.la z.ll z.lc,.int .i64 z.f,.int .i64 z.t,.int .i64 z.a]∧(W=((w6.alloc (.cells (nvA z) 62)).alloc (.cells (nvB y z) 62)).drew→Bx w7 (w6.heap.size+1) (nvB y z))∧NR w7 (fun b=>w.heap.size<b∧b≠w2.heap.size∧b<w6.heap.size) nd y∧∀b k2,sub (kr+1)=.ok (b,k2)→NR w7 (fun b=>w.heap.size<b∧b≠w2.heap.size∧b<w6.heap.size) b z:=by
      rintro W (rfl|rfl)
      ·exact ⟨(uh H563).drew,fun w7 hb=>⟨((uh H563).drew).below hb,((uh K564).drew).below hb,((uh B565).drew).below hb,((uh B566).drew).below hb,((uh B567).drew).below hb,((uh B568).drew).below hb,fun e=>absurd (congrArg (fun w=>w.heap.size) e) (by simp),(((uh R569).move (br _) (fun _ _ _=>rfl) (fun b hb _=>by omega)).bel ((Below.refl _ _).drew)).bel hb,fun b k2 hq=>(((uh R570 b k2 hq).move (br _) (fun _ _ _=>rfl) (fun b hb _=>by omega)).bel ((Below.refl _ _).drew)).bel hb⟩⟩
      ·exact ⟨((uh H563).alloc (.cells (nvB y z) 62)).drew,fun w7 hb=>⟨(((uh H563).alloc (.cells (nvB y z) 62)).drew).below hb,(((uh K564).alloc (.cells (nvB y z) 62)).drew).below hb,(((uh B565).alloc (.cells (nvB y z) 62)).drew).below hb,(((uh B566).alloc (.cells (nvB y z) 62)).drew).below hb,(((uh B567).alloc (.cells (nvB y z) 62)).drew).below hb,(((uh B568).alloc (.cells (nvB y z) 62)).drew).below hb,fun _=>((Bx.at _ (nvB y z) 62 (w6.heap.size+1) (by simp)).drew).below hb,(((uh R569).move (br _) (fun _ _ _=>rfl) (fun b hb _=>by omega)).bel ((bw (.cells (nvB y z) 62)).drew)).bel hb,fun b k2 hq=>(((uh R570 b k2 hq).move (br _) (fun _ _ _=>rfl) (fun b hb _=>by omega)).bel ((bw (.cells (nvB y z) 62)).drew)).bel hb⟩⟩
     have HX1:=ai HX
     clear HX
     go_region_with (go_at_call 174;refine (qd1 (uh HX1 _ (by first|exact Or.inl rfl|exact Or.inr rfl)).1).mono ?_;rintro e w7 ⟨m,rfl,hb,hn⟩;obtain ⟨S7,K7,b70,b71,b72,b73,R7,Na7,Nb7⟩:=(uh HX1 _ (by first|exact Or.inl rfl|exact Or.inr rfl)).2 _ hb;have zz:=hb.size;have HB70:=ai b70;obtain ⟨q0c,q0f,q0z⟩:=b70;have HB71:=ai b71;obtain ⟨q1c,q1f,q1z⟩:=b71;have HB72:=ai b72;obtain ⟨q2c,q2f,q2z⟩:=b72;have HB73:=ai b73;obtain ⟨q3c,q3f,q3z⟩:=b73;have HS7:=ai S7;have HK7:=ai K7;have HNa:=ai Na7;have HNb:=ai Nb7;have Hn:=ai hn;first|(have hRw:=R7 rfl;have HRow:=ai hRw;clear hRw)|(have HNo:Hid (0=0):=rfl);clear S7 K7 Na7 Nb7 R7 hb hn)
     all_goals
      go_wp2_with fail
      go_roundg (T.length-(kr+1))
      case measure=>omega
      case rel=>
       refine sum_rel (uh hW) (uh hst2) (uh hfrm) (uh hm') hkr hfu ?_
       first
       |(have hRw:=uh HRow;refine ⟨⟨7,(tk T kr).text,0,some ⟨w6.heap.size+1,0,none⟩,2,2,(t.frm:Int),(m:Int),(t.frm:Int)⟩,?_,?_,?_,?_,?_,ai (fun b k2 hq=>?_)⟩
         ·exact ((uh HS7).set7 (b:=w2.heap.size) (by omega) (by omega) (.int .i64 7) (.string (tk T kr).text) (.int .i64 0) (.slice (some ⟨w6.heap.size+1,0,none⟩) 2 2) (.int .i64 (t.frm:Int)) (.int .i64 (m:Int)) (.int .i64 (t.frm:Int)))
         ·exact ((uh HK7).set7 (b:=w2.heap.size) (by omega) (.int .i64 7) (.string (tk T kr).text) (.int .i64 0) (.slice (some ⟨w6.heap.size+1,0,none⟩) 2 2) (.int .i64 (t.frm:Int)) (.int .i64 (m:Int)) (.int .i64 (t.frm:Int)))
         ·simp [World.setCell];omega
         ·exact ((uh HB71).set7 rfl (.int .i64 7) (.string (tk T kr).text) (.int .i64 0) (.slice (some ⟨w6.heap.size+1,0,none⟩) 2 2) (.int .i64 (t.frm:Int)) (.int .i64 (m:Int)) (.int .i64 (t.frm:Int)))
         ·exact ((uh HB70).setO7 (b:=w2.heap.size) (by omega) (.int .i64 7) (.string (tk T kr).text) (.int .i64 0) (.slice (some ⟨w6.heap.size+1,0,none⟩) 2 2) (.int .i64 (t.frm:Int)) (.int .i64 (m:Int)) (.int .i64 (t.frm:Int)))
         ·rw [←uh Hn k2 (qas hq)]
          have na:=(qcf (uh HNa) (b2:=w2.heap.size) (fun b hb _=>hb.2.1) (.int .i64 7) (.string (tk T kr).text) (.int .i64 0) (.slice (some ⟨w6.heap.size+1,0,none⟩) 2 2) (.int .i64 (t.frm:Int)) (.int .i64 (m:Int)) (.int .i64 (t.frm:Int))).move (Q:=fun b=>w.heap.size<b∧b≠w2.heap.size) (br _) (fun _ _ _=>rfl) (fun b hb _=>⟨hb.1,hb.2.1⟩)
          have nb:=(qcf (uh HNb b k2 hq) (b2:=w2.heap.size) (fun b hb _=>hb.2.1) (.int .i64 7) (.string (tk T kr).text) (.int .i64 0) (.slice (some ⟨w6.heap.size+1,0,none⟩) 2 2) (.int .i64 (t.frm:Int)) (.int .i64 (m:Int)) (.int .i64 (t.frm:Int))).move (Q:=fun b=>w.heap.size<b∧b≠w2.heap.size) (br _) (fun _ _ _=>rfl) (fun b hb _=>⟨hb.1,hb.2.1⟩)
          exact NR.two (P:=fun b=>w.heap.size<b∧b≠w2.heap.size) 7 (tk T kr).text 0 t.frm m t.frm (hRw.setO7 (b:=w2.heap.size) (by omega) (.int .i64 7) (.string (tk T kr).text) (.int .i64 0) (.slice (some ⟨w6.heap.size+1,0,none⟩) 2 2) (.int .i64 (t.frm:Int)) (.int .i64 (m:Int)) (.int .i64 (t.frm:Int))) rfl na nb (by omega) 2)
       |(have hNo:=HNo;refine ⟨⟨7,(tk T kr).text,0,some ⟨w7.heap.size,0,none⟩,2,2,(t.frm:Int),(m:Int),(t.frm:Int)⟩,?_,?_,?_,?_,?_,ai (fun b k2 hq=>?_)⟩
         ·exact (((uh HS7).set7 (b:=w2.heap.size) (by omega) (by omega) (.int .i64 7) (.string (tk T kr).text) (.int .i64 0) (.slice (some ⟨w7.heap.size,0,none⟩) 2 2) (.int .i64 (t.frm:Int)) (.int .i64 (m:Int)) (.int .i64 (t.frm:Int))).alloc (.cells (nvB y z) 62))
         ·exact (((uh HK7).set7 (b:=w2.heap.size) (by omega) (.int .i64 7) (.string (tk T kr).text) (.int .i64 0) (.slice (some ⟨w7.heap.size,0,none⟩) 2 2) (.int .i64 (t.frm:Int)) (.int .i64 (m:Int)) (.int .i64 (t.frm:Int))).alloc (.cells (nvB y z) 62))
         ·simp [World.setCell];omega
         ·exact (((uh HB71).set7 rfl (.int .i64 7) (.string (tk T kr).text) (.int .i64 0) (.slice (some ⟨w7.heap.size,0,none⟩) 2 2) (.int .i64 (t.frm:Int)) (.int .i64 (m:Int)) (.int .i64 (t.frm:Int))).alloc (.cells (nvB y z) 62))
         ·exact (((uh HB70).setO7 (b:=w2.heap.size) (by omega) (.int .i64 7) (.string (tk T kr).text) (.int .i64 0) (.slice (some ⟨w7.heap.size,0,none⟩) 2 2) (.int .i64 (t.frm:Int)) (.int .i64 (m:Int)) (.int .i64 (t.frm:Int))).alloc (.cells (nvB y z) 62))
         ·rw [←uh Hn k2 (qas hq)]
          have na:=(NR.bel (qcf (uh HNa) (b2:=w2.heap.size) (fun b hb _=>hb.2.1) (.int .i64 7) (.string (tk T kr).text) (.int .i64 0) (.slice (some ⟨w7.heap.size,0,none⟩) 2 2) (.int .i64 (t.frm:Int)) (.int .i64 (m:Int)) (.int .i64 (t.frm:Int))) (bw (.cells (nvB y z) 62))).move (Q:=fun b=>w.heap.size<b∧b≠w2.heap.size) (br _) (fun _ _ _=>rfl) (fun b hb _=>⟨hb.1,hb.2.1⟩)
          have nb:=(NR.bel (qcf (uh HNb b k2 hq) (b2:=w2.heap.size) (fun b hb _=>hb.2.1) (.int .i64 7) (.string (tk T kr).text) (.int .i64 0) (.slice (some ⟨w7.heap.size,0,none⟩) 2 2) (.int .i64 (t.frm:Int)) (.int .i64 (m:Int)) (.int .i64 (t.frm:Int))) (bw (.cells (nvB y z) 62))).move (Q:=fun b=>w.heap.size<b∧b≠w2.heap.size) (br _) (fun _ _ _=>rfl) (fun b hb _=>⟨hb.1,hb.2.1⟩)
          exact NR.two (P:=fun b=>w.heap.size<b∧b≠w2.heap.size) 7 (tk T kr).text 0 t.frm m t.frm (Bx.at _ (nvB y z) 62 (w7.heap.size) (by simp [World.setCell])) rfl na nb (by omega) 2)
   ·obtain ⟨f2,rfl⟩:∃f2,fu=f2+1:=⟨fu-1,by omega⟩
    obtain ⟨c0,f0,y0⟩:=uh BX
    obtain ⟨c1,f1,y1⟩:=uh BR
    have hi:isS T (.ok kr) kPlus=true:=hpl
    have h7:(tk T kr).kind≠7:=by have:=qbe hpl;omega
    have hst2:Hid (isT (tk T kr) kPlus=true∨isT (tk T kr) kMinus=true):=Or.inl hpl
    clear hpl
    go_wp2_with fail
    refine (is_S (uh HR) kPlus).mono ?_
    rintro e w3 ⟨rfl,hb⟩
    have H501:=ai ((uh HR).below hb)
    have K502:=ai ((uh KR).below hb)
    have z503:=hb.size
    try simp [World.setCell] at z503
    have B504:=ai ((uh BR).below hb)
    have B505:=ai ((uh BX).below hb)
    have R506:=ai (NR.bel (uh hNN) hb)
    clear HR KR BR BX hNN hb
    obtain ⟨c507,f508,y509⟩:=uh B504
    obtain ⟨c510,f511,y512⟩:=uh B505
    go_wp2_with fail
    clear c0 f0 y0 c1 f1 y1 c507 f508 y509 c510 f511 y512
    refine (qcp (uh H501) h7).mono ?_
    rintro e w5 ⟨rfl,hb,hS⟩
    have H517:=ai hS
    have K518:=ai ((uh K502).trans hb)
    have z519:=hb.size
    try simp [World.setCell] at z519
    have B520:=ai ((uh B504).ke hb (by omega))
    have B521:=ai ((uh B505).ke hb (by omega))
    have R522:=ai (NR.ke (uh R506) hb (fun b hb=>by omega))
    clear H501 K502 B504 B505 R506 hb hS
    obtain ⟨c523,f524,y525⟩:=uh B520
    obtain ⟨c526,f527,y528⟩:=uh B521
    unfold tokV
    go_wp2_with fail
    have H529:=ai ((uh H517).alloc (.cells #[.int .i64 ((tk T kr).kind:Int),.string (tk T kr).text,.int .i64 ((tk T kr).frm:Int),.int .i64 ((tk T kr).to:Int)] 58))
    have K530:=ai ((uh K518).alloc (.cells #[.int .i64 ((tk T kr).kind:Int),.string (tk T kr).text,.int .i64 ((tk T kr).frm:Int),.int .i64 ((tk T kr).to:Int)] 58))
    have B531:=ai ((uh B520).alloc (.cells #[.int .i64 ((tk T kr).kind:Int),.string (tk T kr).text,.int .i64 ((tk T kr).frm:Int),.int .i64 ((tk T kr).to:Int)] 58))
    have B532:=ai ((uh B521).alloc (.cells #[.int .i64 ((tk T kr).kind:Int),.string (tk T kr).text,.int .i64 ((tk T kr).frm:Int),.int .i64 ((tk T kr).to:Int)] 58))
    have B533:=ai (Bx.at w5 #[.int .i64 ((tk T kr).kind:Int),.string (tk T kr).text,.int .i64 ((tk T kr).frm:Int),.int .i64 ((tk T kr).to:Int)] 58 (w5.heap.size) (by simp [World.setCell]))
    have R534:=ai ((NR.bel (uh R522) (bw (.cells #[.int .i64 ((tk T kr).kind:Int),.string (tk T kr).text,.int .i64 ((tk T kr).frm:Int),.int .i64 ((tk T kr).to:Int)] 58))))
    clear H517 K518 B520 B521 R522 c523 f524 y525 c526 f527 y528
    refine (uh HS' _ _ (uh H529) (by intro j hj;cases hj;have:=uh hf' k rfl;omega)).mono ?_
    rintro e w6 ⟨z,rfl,hb,hS,hN⟩
    have H535:=ai hS
    have K536:=ai ((uh K530).trans hb)
    have z537:=hb.size
    try simp [World.setCell] at z537
    have B538:=ai ((uh B531).ke hb (by omega))
    have B539:=ai ((uh B532).ke hb (by omega))
    have B540:=ai ((uh B533).ke hb (by omega))
    have R541:=ai (NR.ke (uh R534) hb (fun b hb=>by omega))
    clear H529 K530 B531 B532 B533 R534 hb hS
    obtain ⟨c542,f543,y544⟩:=uh B538
    obtain ⟨c545,f546,y547⟩:=uh B539
    obtain ⟨c548,f549,y550⟩:=uh B540
    have hNz:=ai (fun b k2 (hq:sub (kr+1)=.ok (b,k2))=>(hN _ b k2 rfl hq).rng w5.heap.size (fun b hb=>by have h5:=hb;simp at h5;omega))
    clear hN
    unfold NV.v
    go_wp2_with fail
    have H551:=ai ((uh H535).alloc (.cells (nvA z) 62))
    have K552:=ai ((uh K536).alloc (.cells (nvA z) 62))
    have B553:=ai ((uh B538).alloc (.cells (nvA z) 62))
    have B554:=ai ((uh B539).alloc (.cells (nvA z) 62))
    have B555:=ai ((uh B540).alloc (.cells (nvA z) 62))
    have B556:=ai (Bx.at w6 (nvA z) 62 (w6.heap.size) (by simp [World.setCell]))
    have R557:=ai ((NR.bel (uh R541) (bw (.cells (nvA z) 62))))
    have R558:=ai (fun b k2 hq=>(NR.bel (uh hNz b k2 hq) (bw (.cells (nvA z) 62))))
    clear H535 K536 B538 B539 B540 R541 hNz
    have HX:∀W,(W=(w6.alloc (.cells (nvA z) 62)).drew∨W=((w6.alloc (.cells (nvA z) 62)).alloc (.cells (nvB y z) 62)).drew)→SS W rb g cap T (nx (.ok (kr+1)) sub)∧∀w7,Below W.heap.size W w7→SS w7 rb g cap T (nx (.ok (kr+1)) sub)∧Ke rb w w7∧Bx w7 (w.heap.size) #[.int .i64 0,.string ⟨#[]⟩,.int .i64 0,.slice none 0 0,.int .i64 0,.int .i64 0,.int .i64 0]∧Bx w7 (w2.heap.size) #[.int .i64 y.k,.string y.s,.int .i64 y.n,.slice y.la y.ll y.lc,.int .i64 y.f,.int .i64 y.t,.int .i64 y.a]∧Bx w7 (w5.heap.size) #[.int .i64 ((tk T kr).kind:Int),.string (tk T kr).text,.int .i64 ((tk T kr).frm:Int),.int .i64 ((tk T kr).to:Int)]∧Bx w7 (w6.heap.size) #[.int .i64 z.k,.string z.s,.int .i64 z.n,.slice z.la z.ll z.lc,.int .i64 z.f,.int .i64 z.t,.int .i64 z.a]∧(W=((w6.alloc (.cells (nvA z) 62)).alloc (.cells (nvB y z) 62)).drew→Bx w7 (w6.heap.size+1) (nvB y z))∧NR w7 (fun b=>w.heap.size<b∧b≠w2.heap.size∧b<w6.heap.size) nd y∧∀b k2,sub (kr+1)=.ok (b,k2)→NR w7 (fun b=>w.heap.size<b∧b≠w2.heap.size∧b<w6.heap.size) b z:=by
     rintro W (rfl|rfl)
     ·exact ⟨(uh H551).drew,fun w7 hb=>⟨((uh H551).drew).below hb,((uh K552).drew).below hb,((uh B553).drew).below hb,((uh B554).drew).below hb,((uh B555).drew).below hb,((uh B556).drew).below hb,fun e=>absurd (congrArg (fun w=>w.heap.size) e) (by simp),(((uh R557).move (br _) (fun _ _ _=>rfl) (fun b hb _=>by omega)).bel ((Below.refl _ _).drew)).bel hb,fun b k2 hq=>(((uh R558 b k2 hq).move (br _) (fun _ _ _=>rfl) (fun b hb _=>by omega)).bel ((Below.refl _ _).drew)).bel hb⟩⟩
     ·exact ⟨((uh H551).alloc (.cells (nvB y z) 62)).drew,fun w7 hb=>⟨(((uh H551).alloc (.cells (nvB y z) 62)).drew).below hb,(((uh K552).alloc (.cells (nvB y z) 62)).drew).below hb,(((uh B553).alloc (.cells (nvB y z) 62)).drew).below hb,(((uh B554).alloc (.cells (nvB y z) 62)).drew).below hb,(((uh B555).alloc (.cells (nvB y z) 62)).drew).below hb,(((uh B556).alloc (.cells (nvB y z) 62)).drew).below hb,fun _=>((Bx.at _ (nvB y z) 62 (w6.heap.size+1) (by simp)).drew).below hb,(((uh R557).move (br _) (fun _ _ _=>rfl) (fun b hb _=>by omega)).bel ((bw (.cells (nvB y z) 62)).drew)).bel hb,fun b k2 hq=>(((uh R558 b k2 hq).move (br _) (fun _ _ _=>rfl) (fun b hb _=>by omega)).bel ((bw (.cells (nvB y z) 62)).drew)).bel hb⟩⟩
    have HX1:=ai HX
    clear HX
    go_region_with (go_at_call 174;refine (qd1 (uh HX1 _ (by first|exact Or.inl rfl|exact Or.inr rfl)).1).mono ?_;rintro e w7 ⟨m,rfl,hb,hn⟩;obtain ⟨S7,K7,b70,b71,b72,b73,R7,Na7,Nb7⟩:=(uh HX1 _ (by first|exact Or.inl rfl|exact Or.inr rfl)).2 _ hb;have zz:=hb.size;have HB70:=ai b70;obtain ⟨q0c,q0f,q0z⟩:=b70;have HB71:=ai b71;obtain ⟨q1c,q1f,q1z⟩:=b71;have HB72:=ai b72;obtain ⟨q2c,q2f,q2z⟩:=b72;have HB73:=ai b73;obtain ⟨q3c,q3f,q3z⟩:=b73;have HS7:=ai S7;have HK7:=ai K7;have HNa:=ai Na7;have HNb:=ai Nb7;have Hn:=ai hn;first|(have hRw:=R7 rfl;have HRow:=ai hRw;clear hRw)|(have HNo:Hid (0=0):=rfl);clear S7 K7 Na7 Nb7 R7 hb hn)
    all_goals
     go_wp2_with fail
     go_roundg (T.length-(kr+1))
     case measure=>omega
     case rel=>
      refine sum_rel (uh hW) (uh hst2) (uh hfrm) (uh hm') hkr hfu ?_
      first
      |(have hRw:=uh HRow;refine ⟨⟨7,(tk T kr).text,0,some ⟨w6.heap.size+1,0,none⟩,2,2,(t.frm:Int),(m:Int),(t.frm:Int)⟩,?_,?_,?_,?_,?_,ai (fun b k2 hq=>?_)⟩
        ·exact ((uh HS7).set7 (b:=w2.heap.size) (by omega) (by omega) (.int .i64 7) (.string (tk T kr).text) (.int .i64 0) (.slice (some ⟨w6.heap.size+1,0,none⟩) 2 2) (.int .i64 (t.frm:Int)) (.int .i64 (m:Int)) (.int .i64 (t.frm:Int)))
        ·exact ((uh HK7).set7 (b:=w2.heap.size) (by omega) (.int .i64 7) (.string (tk T kr).text) (.int .i64 0) (.slice (some ⟨w6.heap.size+1,0,none⟩) 2 2) (.int .i64 (t.frm:Int)) (.int .i64 (m:Int)) (.int .i64 (t.frm:Int)))
        ·simp [World.setCell];omega
        ·exact ((uh HB71).set7 rfl (.int .i64 7) (.string (tk T kr).text) (.int .i64 0) (.slice (some ⟨w6.heap.size+1,0,none⟩) 2 2) (.int .i64 (t.frm:Int)) (.int .i64 (m:Int)) (.int .i64 (t.frm:Int)))
        ·exact ((uh HB70).setO7 (b:=w2.heap.size) (by omega) (.int .i64 7) (.string (tk T kr).text) (.int .i64 0) (.slice (some ⟨w6.heap.size+1,0,none⟩) 2 2) (.int .i64 (t.frm:Int)) (.int .i64 (m:Int)) (.int .i64 (t.frm:Int)))
        ·rw [←uh Hn k2 (qas hq)]
         have na:=(qcf (uh HNa) (b2:=w2.heap.size) (fun b hb _=>hb.2.1) (.int .i64 7) (.string (tk T kr).text) (.int .i64 0) (.slice (some ⟨w6.heap.size+1,0,none⟩) 2 2) (.int .i64 (t.frm:Int)) (.int .i64 (m:Int)) (.int .i64 (t.frm:Int))).move (Q:=fun b=>w.heap.size<b∧b≠w2.heap.size) (br _) (fun _ _ _=>rfl) (fun b hb _=>⟨hb.1,hb.2.1⟩)
         have nb:=(qcf (uh HNb b k2 hq) (b2:=w2.heap.size) (fun b hb _=>hb.2.1) (.int .i64 7) (.string (tk T kr).text) (.int .i64 0) (.slice (some ⟨w6.heap.size+1,0,none⟩) 2 2) (.int .i64 (t.frm:Int)) (.int .i64 (m:Int)) (.int .i64 (t.frm:Int))).move (Q:=fun b=>w.heap.size<b∧b≠w2.heap.size) (br _) (fun _ _ _=>rfl) (fun b hb _=>⟨hb.1,hb.2.1⟩)
         exact NR.two (P:=fun b=>w.heap.size<b∧b≠w2.heap.size) 7 (tk T kr).text 0 t.frm m t.frm (hRw.setO7 (b:=w2.heap.size) (by omega) (.int .i64 7) (.string (tk T kr).text) (.int .i64 0) (.slice (some ⟨w6.heap.size+1,0,none⟩) 2 2) (.int .i64 (t.frm:Int)) (.int .i64 (m:Int)) (.int .i64 (t.frm:Int))) rfl na nb (by omega) 2)
      |(have hNo:=HNo;refine ⟨⟨7,(tk T kr).text,0,some ⟨w7.heap.size,0,none⟩,2,2,(t.frm:Int),(m:Int),(t.frm:Int)⟩,?_,?_,?_,?_,?_,ai (fun b k2 hq=>?_)⟩
        ·exact (((uh HS7).set7 (b:=w2.heap.size) (by omega) (by omega) (.int .i64 7) (.string (tk T kr).text) (.int .i64 0) (.slice (some ⟨w7.heap.size,0,none⟩) 2 2) (.int .i64 (t.frm:Int)) (.int .i64 (m:Int)) (.int .i64 (t.frm:Int))).alloc (.cells (nvB y z) 62))
        ·exact (((uh HK7).set7 (b:=w2.heap.size) (by omega) (.int .i64 7) (.string (tk T kr).text) (.int .i64 0) (.slice (some ⟨w7.heap.size,0,none⟩) 2 2) (.int .i64 (t.frm:Int)) (.int .i64 (m:Int)) (.int .i64 (t.frm:Int))).alloc (.cells (nvB y z) 62))
        ·simp [World.setCell];omega
        ·exact (((uh HB71).set7 rfl (.int .i64 7) (.string (tk T kr).text) (.int .i64 0) (.slice (some ⟨w7.heap.size,0,none⟩) 2 2) (.int .i64 (t.frm:Int)) (.int .i64 (m:Int)) (.int .i64 (t.frm:Int))).alloc (.cells (nvB y z) 62))
        ·exact (((uh HB70).setO7 (b:=w2.heap.size) (by omega) (.int .i64 7) (.string (tk T kr).text) (.int .i64 0) (.slice (some ⟨w7.heap.size,0,none⟩) 2 2) (.int .i64 (t.frm:Int)) (.int .i64 (m:Int)) (.int .i64 (t.frm:Int))).alloc (.cells (nvB y z) 62))
        ·rw [←uh Hn k2 (qas hq)]
         have na:=(NR.bel (qcf (uh HNa) (b2:=w2.heap.size) (fun b hb _=>hb.2.1) (.int .i64 7) (.string (tk T kr).text) (.int .i64 0) (.slice (some ⟨w7.heap.size,0,none⟩) 2 2) (.int .i64 (t.frm:Int)) (.int .i64 (m:Int)) (.int .i64 (t.frm:Int))) (bw (.cells (nvB y z) 62))).move (Q:=fun b=>w.heap.size<b∧b≠w2.heap.size) (br _) (fun _ _ _=>rfl) (fun b hb _=>⟨hb.1,hb.2.1⟩)
         have nb:=(NR.bel (qcf (uh HNb b k2 hq) (b2:=w2.heap.size) (fun b hb _=>hb.2.1) (.int .i64 7) (.string (tk T kr).text) (.int .i64 0) (.slice (some ⟨w7.heap.size,0,none⟩) 2 2) (.int .i64 (t.frm:Int)) (.int .i64 (m:Int)) (.int .i64 (t.frm:Int))) (bw (.cells (nvB y z) 62))).move (Q:=fun b=>w.heap.size<b∧b≠w2.heap.size) (br _) (fun _ _ _=>rfl) (fun b hb _=>⟨hb.1,hb.2.1⟩)
         exact NR.two (P:=fun b=>w.heap.size<b∧b≠w2.heap.size) 7 (tk T kr).text 0 t.frm m t.frm (Bx.at _ (nvB y z) 62 (w7.heap.size) (by simp [World.setCell])) rfl na nb (by omega) 2)
end
end
section
open Go Go.RowKit
section
variable {rb g cap:Nat} {T:List Pu.Tok} {σ:St} {w:World}
theorem expr_function {n:Nat} {m:M Nd} (HF:NodeC rb g cap T 107 #[.pointer (some ⟨rb,0,none⟩)] m n) (h:SS w rb g cap T σ) (hf:∀k,σ=.ok k→T.length≤k+n) (hy:isS T σ kFun=true):
 Calls Tryz.prog 108 #[.pointer (some ⟨rb,0,none⟩)] w fun e w'=>∃x:NV,e=.returned x.v∧Ke rb w w'∧SS w' rb g cap T (nx σ m)∧∀k a k',σ=.ok k→m k=.ok (a,k')→NR w' (fun b=>w.heap.size≤b) a x:=by
 have HF':=ai HF
 have hf':=ai hf
 have ff:=qd4
 clear HF hf
 have hr:=h.hr
 have hg:=h.hg
 have H1:=ai h
 have K2:=ai (Ke.refl rb w)
 clear h
 go_enter Tryz.func108,Tryz.ntmps108
 go_wp2_with fail
 have H3:=ai ((uh H1).alloc (.cells qat 62))
 have K4:=ai ((uh K2).alloc (.cells qat 62))
 have B5:=ai (Bx.at w qat 62 (w.heap.size) (by simp [World.setCell]))
 clear H1 K2
 refine (qb5 (uh H3)).mono ?_
 rintro e w1 ⟨t,rfl,hb,ht⟩
 have H6:=ai ((uh H3).below hb)
 have K7:=ai ((uh K4).below hb)
 have z8:=hb.size
 try simp [World.setCell] at z8
 have B9:=ai ((uh B5).below hb)
 clear H3 K4 B5 hb
 obtain ⟨c10,f11,y12⟩:=uh B9
 have Ht:=ai ht
 clear ht
 unfold tokV
 go_wp2_with fail
 clear c10 f11 y12
 refine (is_S (uh H6) kFun).mono ?_
 rintro e w2 ⟨rfl,hb⟩
 have H16:=ai ((uh H6).below hb)
 have K17:=ai ((uh K7).below hb)
 have z18:=hb.size
 try simp [World.setCell] at z18
 have B19:=ai ((uh B9).below hb)
 clear H6 K7 B9 hb
 obtain ⟨c20,f21,y22⟩:=uh B19
 go_wp2_with fail
 clear c20 f21 y22
 refine (uh HF' _ _ (uh H16) (uh hf')).mono ?_
 rintro e w8 ⟨x,rfl,hb,hS,hN⟩
 have H26:=ai hS
 have K27:=ai ((uh K17).trans hb)
 have z28:=hb.size
 try simp [World.setCell] at z28
 have B29:=ai ((uh B19).ke hb (by omega))
 clear H16 K17 B19 hb hS
 obtain ⟨c30,f31,y32⟩:=uh B29
 have hN1:=ai (fun k a k' (h1:σ=.ok k) (hq:m k=.ok (a,k'))=>(hN k a k' h1 hq).rng w2.heap.size (fun b hb=>by simpa using hb))
 clear hN
 unfold NV.v
 go_wp2_with fail
 have H33:=ai ((uh H26).st7 (b:=w.heap.size) (by omega) (by omega) x)
 have K34:=ai ((uh K27).st7 (b:=w.heap.size) (by omega) x)
 have B35:=ai ((uh B29).st7 rfl x)
 have R36:=ai (fun k a k' h1 hq=>(NRst7 (uh hN1 k a k' h1 hq) (b2:=w.heap.size) (fun b hb _=>by omega) x))
 clear H26 K27 B29 hN1 c30 f31 y32
 obtain ⟨cF,fF,zF⟩:=uh B35
 refine bodyPost_ret (v:=NV.v x) (by simp [results,Tryz.results108,go_sem,cF,NV.v];try rfl) rfl ⟨_,rfl,uh K34,uh H33,fun k a k' h1 hq=>?_⟩
 exact (uh R36 k a k' h1 hq).wide _ (fun b hb=>by omega)
theorem expr_choice {n:Nat} {m:M Nd} (HF:NodeC rb g cap T 175 #[.pointer (some ⟨rb,0,none⟩)] m n) (h:SS w rb g cap T σ) (hf:∀k,σ=.ok k→T.length≤k+n) (h0:isS T σ kFun=false) (hy:isS T σ kIf=true):
 Calls Tryz.prog 108 #[.pointer (some ⟨rb,0,none⟩)] w fun e w'=>∃x:NV,e=.returned x.v∧Ke rb w w'∧SS w' rb g cap T (nx σ m)∧∀k a k',σ=.ok k→m k=.ok (a,k')→NR w' (fun b=>w.heap.size≤b) a x:=by
 have HF':=ai HF
 have hf':=ai hf
 have ff:=qd4
 clear HF hf
 have hr:=h.hr
 have hg:=h.hg
 have H1:=ai h
 have K2:=ai (Ke.refl rb w)
 clear h
 go_enter Tryz.func108,Tryz.ntmps108
 go_wp2_with fail
 have H3:=ai ((uh H1).alloc (.cells qat 62))
 have K4:=ai ((uh K2).alloc (.cells qat 62))
 have B5:=ai (Bx.at w qat 62 (w.heap.size) (by simp [World.setCell]))
 clear H1 K2
 refine (qb5 (uh H3)).mono ?_
 rintro e w1 ⟨t,rfl,hb,ht⟩
 have H6:=ai ((uh H3).below hb)
 have K7:=ai ((uh K4).below hb)
 have z8:=hb.size
 try simp [World.setCell] at z8
 have B9:=ai ((uh B5).below hb)
 clear H3 K4 B5 hb
 obtain ⟨c10,f11,y12⟩:=uh B9
 have Ht:=ai ht
 clear ht
 unfold tokV
 go_wp2_with fail
 clear c10 f11 y12
 refine (is_S (uh H6) kFun).mono ?_
 rintro e w2 ⟨rfl,hb⟩
 have H16:=ai ((uh H6).below hb)
 have K17:=ai ((uh K7).below hb)
 have z18:=hb.size
 try simp [World.setCell] at z18
 have B19:=ai ((uh B9).below hb)
 clear H6 K7 B9 hb
 obtain ⟨c20,f21,y22⟩:=uh B19
 go_wp2_with fail
 clear c20 f21 y22
 refine (is_S (uh H16) kIf).mono ?_
 rintro e w3 ⟨rfl,hb⟩
 have H26:=ai ((uh H16).below hb)
 have K27:=ai ((uh K17).below hb)
 have z28:=hb.size
 try simp [World.setCell] at z28
 have B29:=ai ((uh B19).below hb)
 clear H16 K17 B19 hb
 obtain ⟨c30,f31,y32⟩:=uh B29
 go_wp2_with fail
 clear c30 f31 y32
 refine (uh HF' _ _ (uh H26) (uh hf')).mono ?_
 rintro e w8 ⟨x,rfl,hb,hS,hN⟩
 have H36:=ai hS
 have K37:=ai ((uh K27).trans hb)
 have z38:=hb.size
 try simp [World.setCell] at z38
 have B39:=ai ((uh B29).ke hb (by omega))
 clear H26 K27 B29 hb hS
 obtain ⟨c40,f41,y42⟩:=uh B39
 have hN1:=ai (fun k a k' (h1:σ=.ok k) (hq:m k=.ok (a,k'))=>(hN k a k' h1 hq).rng w3.heap.size (fun b hb=>by simpa using hb))
 clear hN
 unfold NV.v
 go_wp2_with fail
 have H43:=ai ((uh H36).st7 (b:=w.heap.size) (by omega) (by omega) x)
 have K44:=ai ((uh K37).st7 (b:=w.heap.size) (by omega) x)
 have B45:=ai ((uh B39).st7 rfl x)
 have R46:=ai (fun k a k' h1 hq=>(NRst7 (uh hN1 k a k' h1 hq) (b2:=w.heap.size) (fun b hb _=>by omega) x))
 clear H36 K37 B39 hN1 c40 f41 y42
 obtain ⟨cF,fF,zF⟩:=uh B45
 refine bodyPost_ret (v:=NV.v x) (by simp [results,Tryz.results108,go_sem,cF,NV.v];try rfl) rfl ⟨_,rfl,uh K44,uh H43,fun k a k' h1 hq=>?_⟩
 exact (uh R46 k a k' h1 hq).wide _ (fun b hb=>by omega)
theorem expr_match {n:Nat} {m:M Nd} (HF:NodeC rb g cap T 176 #[.pointer (some ⟨rb,0,none⟩)] m n) (h:SS w rb g cap T σ) (hf:∀k,σ=.ok k→T.length≤k+n) (h0:isS T σ kFun=false) (h1:isS T σ kIf=false) (hy:isS T σ qbc=true):
 Calls Tryz.prog 108 #[.pointer (some ⟨rb,0,none⟩)] w fun e w'=>∃x:NV,e=.returned x.v∧Ke rb w w'∧SS w' rb g cap T (nx σ m)∧∀k a k',σ=.ok k→m k=.ok (a,k')→NR w' (fun b=>w.heap.size≤b) a x:=by
 have HF':=ai HF
 have hf':=ai hf
 have ff:=qd4
 clear HF hf
 have hr:=h.hr
 have hg:=h.hg
 have H1:=ai h
 have K2:=ai (Ke.refl rb w)
 clear h
 go_enter Tryz.func108,Tryz.ntmps108
 go_wp2_with fail
 have H3:=ai ((uh H1).alloc (.cells qat 62))
 have K4:=ai ((uh K2).alloc (.cells qat 62))
 have B5:=ai (Bx.at w qat 62 (w.heap.size) (by simp [World.setCell]))
 clear H1 K2
 refine (qb5 (uh H3)).mono ?_
 rintro e w1 ⟨t,rfl,hb,ht⟩
 have H6:=ai ((uh H3).below hb)
 have K7:=ai ((uh K4).below hb)
 have z8:=hb.size
 try simp [World.setCell] at z8
 have B9:=ai ((uh B5).below hb)
 clear H3 K4 B5 hb
 obtain ⟨c10,f11,y12⟩:=uh B9
 have Ht:=ai ht
 clear ht
 unfold tokV
 go_wp2_with fail
 clear c10 f11 y12
 refine (is_S (uh H6) kFun).mono ?_
 rintro e w2 ⟨rfl,hb⟩
 have H16:=ai ((uh H6).below hb)
 have K17:=ai ((uh K7).below hb)
 have z18:=hb.size
 try simp [World.setCell] at z18
 have B19:=ai ((uh B9).below hb)
 clear H6 K7 B9 hb
 obtain ⟨c20,f21,y22⟩:=uh B19
 go_wp2_with fail
 clear c20 f21 y22
 refine (is_S (uh H16) kIf).mono ?_
 rintro e w3 ⟨rfl,hb⟩
 have H26:=ai ((uh H16).below hb)
 have K27:=ai ((uh K17).below hb)
 have z28:=hb.size
 try simp [World.setCell] at z28
 have B29:=ai ((uh B19).below hb)
 clear H16 K17 B19 hb
 obtain ⟨c30,f31,y32⟩:=uh B29
 go_wp2_with fail
 clear c30 f31 y32
 refine (is_S (uh H26) qbc).mono ?_
 rintro e w4 ⟨rfl,hb⟩
 have H36:=ai ((uh H26).below hb)
 have K37:=ai ((uh K27).below hb)
 have z38:=hb.size
 try simp [World.setCell] at z38
 have B39:=ai ((uh B29).below hb)
 clear H26 K27 B29 hb
 obtain ⟨c40,f41,y42⟩:=uh B39
 go_wp2_with fail
 clear c40 f41 y42
 refine (uh HF' _ _ (uh H36) (uh hf')).mono ?_
 rintro e w8 ⟨x,rfl,hb,hS,hN⟩
 have H46:=ai hS
 have K47:=ai ((uh K37).trans hb)
 have z48:=hb.size
 try simp [World.setCell] at z48
 have B49:=ai ((uh B39).ke hb (by omega))
 clear H36 K37 B39 hb hS
 obtain ⟨c50,f51,y52⟩:=uh B49
 have hN1:=ai (fun k a k' (h1:σ=.ok k) (hq:m k=.ok (a,k'))=>(hN k a k' h1 hq).rng w4.heap.size (fun b hb=>by simpa using hb))
 clear hN
 unfold NV.v
 go_wp2_with fail
 have H53:=ai ((uh H46).st7 (b:=w.heap.size) (by omega) (by omega) x)
 have K54:=ai ((uh K47).st7 (b:=w.heap.size) (by omega) x)
 have B55:=ai ((uh B49).st7 rfl x)
 have R56:=ai (fun k a k' h1 hq=>(NRst7 (uh hN1 k a k' h1 hq) (b2:=w.heap.size) (fun b hb _=>by omega) x))
 clear H46 K47 B49 hN1 c50 f51 y52
 obtain ⟨cF,fF,zF⟩:=uh B55
 refine bodyPost_ret (v:=NV.v x) (by simp [results,Tryz.results108,go_sem,cF,NV.v];try rfl) rfl ⟨_,rfl,uh K54,uh H53,fun k a k' h1 hq=>?_⟩
 exact (uh R56 k a k' h1 hq).wide _ (fun b hb=>by omega)
theorem less_no {n:Nat} {sum:M Nd} (HS:NodeC rb g cap T 177 #[.pointer (some ⟨rb,0,none⟩)] sum n) (h:SS w rb g cap T σ) (hf:∀k,σ=.ok k→T.length≤k+n) (h0:isS T σ kFun=false) (h1:isS T σ kIf=false) (h2:isS T σ qbc=false) (h3:isS T σ kLet=false) (hl:isS T (nx σ sum) kLess=false):
 Calls Tryz.prog 108 #[.pointer (some ⟨rb,0,none⟩)] w fun e w'=>∃x:NV,e=.returned x.v∧Ke rb w w'∧SS w' rb g cap T (nx σ sum)∧∀k a k',σ=.ok k→sum k=.ok (a,k')→NR w' (fun b=>w.heap.size≤b) a x:=by
 have HS':=ai HS
 have hf':=ai hf
 have ff:=qd4
 clear HS hf
 have hr:=h.hr
 have hg:=h.hg
 have H1:=ai h
 have K2:=ai (Ke.refl rb w)
 clear h
 go_enter Tryz.func108,Tryz.ntmps108
 go_wp2_with fail
 have H3:=ai ((uh H1).alloc (.cells qat 62))
 have K4:=ai ((uh K2).alloc (.cells qat 62))
 have B5:=ai (Bx.at w qat 62 (w.heap.size) (by simp [World.setCell]))
 clear H1 K2
 refine (qb5 (uh H3)).mono ?_
 rintro e w1 ⟨t,rfl,hb,ht⟩
 have H6:=ai ((uh H3).below hb)
 have K7:=ai ((uh K4).below hb)
 have z8:=hb.size
 try simp [World.setCell] at z8
 have B9:=ai ((uh B5).below hb)
 clear H3 K4 B5 hb
 obtain ⟨c10,f11,y12⟩:=uh B9
 have Ht:=ai ht
 clear ht
 unfold tokV
 go_wp2_with fail
 clear c10 f11 y12
 refine (is_S (uh H6) kFun).mono ?_
 rintro e w2 ⟨rfl,hb⟩
 have H16:=ai ((uh H6).below hb)
 have K17:=ai ((uh K7).below hb)
 have z18:=hb.size
 try simp [World.setCell] at z18
 have B19:=ai ((uh B9).below hb)
 clear H6 K7 B9 hb
 obtain ⟨c20,f21,y22⟩:=uh B19
 go_wp2_with fail
 clear c20 f21 y22
 refine (is_S (uh H16) kIf).mono ?_
 rintro e w3 ⟨rfl,hb⟩
 have H26:=ai ((uh H16).below hb)
 have K27:=ai ((uh K17).below hb)
 have z28:=hb.size
 try simp [World.setCell] at z28
 have B29:=ai ((uh B19).below hb)
 clear H16 K17 B19 hb
 obtain ⟨c30,f31,y32⟩:=uh B29
 go_wp2_with fail
 clear c30 f31 y32
 refine (is_S (uh H26) qbc).mono ?_
 rintro e w4 ⟨rfl,hb⟩
 have H36:=ai ((uh H26).below hb)
 have K37:=ai ((uh K27).below hb)
 have z38:=hb.size
 try simp [World.setCell] at z38
 have B39:=ai ((uh B29).below hb)
 clear H26 K27 B29 hb
 obtain ⟨c40,f41,y42⟩:=uh B39
 go_wp2_with fail
 clear c40 f41 y42
 refine (is_S (uh H36) kLet).mono ?_
 rintro e w5 ⟨rfl,hb⟩
 have H46:=ai ((uh H36).below hb)
 have K47:=ai ((uh K37).below hb)
 have z48:=hb.size
 try simp [World.setCell] at z48
 have B49:=ai ((uh B39).below hb)
 clear H36 K37 B39 hb
 obtain ⟨c50,f51,y52⟩:=uh B49
 go_wp2_with fail
 clear c50 f51 y52
 refine (uh HS' _ _ (uh H46) (uh hf')).mono ?_
 rintro e w6 ⟨x,rfl,hb,hS,hN⟩
 have H56:=ai hS
 have K57:=ai ((uh K47).trans hb)
 have z58:=hb.size
 try simp [World.setCell] at z58
 have B59:=ai ((uh B49).ke hb (by omega))
 clear H46 K47 B49 hb hS
 obtain ⟨c60,f61,y62⟩:=uh B59
 have hN1:=ai (fun k a k' (h1:σ=.ok k) (hq:sum k=.ok (a,k'))=>(hN k a k' h1 hq).rng w5.heap.size (fun b hb=>by simpa using hb))
 clear hN
 unfold NV.v
 go_wp2_with fail
 have H63:=ai ((uh H56).alloc (.cells (nvA x) 62))
 have K64:=ai ((uh K57).alloc (.cells (nvA x) 62))
 have B65:=ai ((uh B59).alloc (.cells (nvA x) 62))
 have B66:=ai (Bx.at w6 (nvA x) 62 (w6.heap.size) (by simp [World.setCell]))
 have R67:=ai (fun k a k' h1 hq=>(NR.bel (uh hN1 k a k' h1 hq) (bw (.cells (nvA x) 62))))
 clear H56 K57 B59 hN1 c60 f61 y62
 refine (is_S (uh H63) kLess).mono ?_
 rintro e w7 ⟨rfl,hb⟩
 have H68:=ai ((uh H63).below hb)
 have K69:=ai ((uh K64).below hb)
 have z70:=hb.size
 try simp [World.setCell] at z70
 have B71:=ai ((uh B65).below hb)
 have B72:=ai ((uh B66).below hb)
 have R73:=ai (fun k a k' h1 hq=>NR.bel (uh R67 k a k' h1 hq) hb)
 clear H63 K64 B65 B66 R67 hb
 obtain ⟨c74,f75,y76⟩:=uh B71
 obtain ⟨c77,f78,y79⟩:=uh B72
 go_wp2_with fail
 have H80:=ai ((uh H68).st7 (b:=w.heap.size) (by omega) (by omega) x)
 have K81:=ai ((uh K69).st7 (b:=w.heap.size) (by omega) x)
 have B82:=ai ((uh B71).st7 rfl x)
 have B83:=ai ((uh B72).stO7 (b:=w.heap.size) (by omega) x)
 have R84:=ai (fun k a k' h1 hq=>(NRst7 (uh R73 k a k' h1 hq) (b2:=w.heap.size) (fun b hb _=>by omega) x))
 clear H68 K69 B71 B72 R73 c74 f75 y76 c77 f78 y79
 obtain ⟨cF,fF,zF⟩:=uh B82
 refine bodyPost_ret (v:=NV.v x) (by simp [results,Tryz.results108,go_sem,cF,NV.v];try rfl) rfl ⟨_,rfl,uh K81,uh H80,fun k a k' h1 hq=>?_⟩
 exact (uh R84 k a k' h1 hq).wide _ (fun b hb=>by omega)
end
end
section
open Go Go.RowKit
section
variable {rb g cap:Nat} {T:List Pu.Tok} {σ:St} {w:World}
theorem let_nx (σ:St) (expr:M Nd):nx σ (letM T expr)=nx (nx (nx σ (qbg T expr)) (qag T kIn)) expr:=by
 cases σ with
 |error f=>rfl
 |ok k=>
  simp only [nx,letM,bnd]
  cases e0:qbg T expr k with
  |error f=>rfl
  |ok p0=>
   simp only
   cases e1:qag T kIn p0.2 with
   |error f=>rfl
   |ok p1=>
    simp only
    cases e2:expr p1.2 with
    |error f=>rfl
    |ok p2=>rfl
theorem bound_mono {expr:M Nd} (hm:Mono expr):∀k b k',qbg T expr k=.ok (b,k')→k≤k':=by
 intro k b k' h
 unfold qbg at h
 obtain ⟨_,k1,q1,r1⟩:=qad h
 have:=qah _ _ _ _ q1
 split at r1
 ·obtain ⟨_,k2,q2,r2⟩:=qad r1
  obtain ⟨_,k3,q3,r3⟩:=qad r2
  obtain ⟨_,k4,q4,r4⟩:=qad r3
  cases r4
  have:=qbk _ _ _ _ q2
  have:=qah _ _ _ _ q3
  unfold funM at q4
  obtain ⟨_,j1,p1,s1⟩:=qad q4
  obtain ⟨_,j2,p2,s2⟩:=qad s1
  obtain ⟨_,j3,p3,s3⟩:=qad s2
  obtain ⟨_,j4,p4,s4⟩:=qad s3
  cases s4
  have:=qah _ _ _ _ p1
  have:=qbk _ _ _ _ p2
  have:=qah _ _ _ _ p3
  have:=hm _ _ _ p4
  omega
 ·obtain ⟨_,k2,q2,r2⟩:=qad r1
  obtain ⟨_,k3,q3,r3⟩:=qad r2
  obtain ⟨_,k4,q4,r4⟩:=qad r3
  cases r4
  have:=qbk _ _ _ _ q2
  have:=qah _ _ _ _ q3
  have:=hm _ _ _ q4
  omega
theorem expr_let {n:Nat} {expr:M Nd} (HB:BoundC rb g cap T (qbg T expr) (n+1)) (HE:NodeC rb g cap T 108 #[.pointer (some ⟨rb,0,none⟩)] expr n) (hm:Mono expr) (h:SS w rb g cap T σ) (hf:∀k,σ=.ok k→T.length≤k+(n+1)) (h0:isS T σ kFun=false) (h1:isS T σ kIf=false) (h2:isS T σ qbc=false) (hy:isS T σ kLet=true):
 Calls Tryz.prog 108 #[.pointer (some ⟨rb,0,none⟩)] w fun e w'=>∃x:NV,e=.returned x.v∧Ke rb w w'∧SS w' rb g cap T (nx σ (letM T expr))∧∀k a k',σ=.ok k→letM T expr k=.ok (a,k')→NR w' (fun b=>w.heap.size≤b) a x:=by
 have HB':=ai HB
 have HE':=ai HE
 have hf':=ai hf
 have hmo:=ai hm
 have ff:=qd4
 rw [let_nx]
 clear HB HE hf hm
 have hr:=h.hr
 have hg:=h.hg
 have H1:=ai h
 have K2:=ai (Ke.refl rb w)
 clear h
 go_enter Tryz.func108,Tryz.ntmps108
 go_wp2_with fail
 have H3:=ai ((uh H1).alloc (.cells qat 62))
 have K4:=ai ((uh K2).alloc (.cells qat 62))
 have B5:=ai (Bx.at w qat 62 (w.heap.size) (by simp [World.setCell]))
 clear H1 K2
 refine (qb5 (uh H3)).mono ?_
 rintro e w1 ⟨t,rfl,hb,ht⟩
 have H6:=ai ((uh H3).below hb)
 have K7:=ai ((uh K4).below hb)
 have z8:=hb.size
 try simp [World.setCell] at z8
 have B9:=ai ((uh B5).below hb)
 clear H3 K4 B5 hb
 obtain ⟨c10,f11,y12⟩:=uh B9
 have Ht:=ai ht
 clear ht
 unfold tokV
 go_wp2_with fail
 clear c10 f11 y12
 refine (is_S (uh H6) kFun).mono ?_
 rintro e w2 ⟨rfl,hb⟩
 have H16:=ai ((uh H6).below hb)
 have K17:=ai ((uh K7).below hb)
 have z18:=hb.size
 try simp [World.setCell] at z18
 have B19:=ai ((uh B9).below hb)
 clear H6 K7 B9 hb
 obtain ⟨c20,f21,y22⟩:=uh B19
 go_wp2_with fail
 clear c20 f21 y22
 refine (is_S (uh H16) kIf).mono ?_
 rintro e w3 ⟨rfl,hb⟩
 have H26:=ai ((uh H16).below hb)
 have K27:=ai ((uh K17).below hb)
 have z28:=hb.size
 try simp [World.setCell] at z28
 have B29:=ai ((uh B19).below hb)
 clear H16 K17 B19 hb
 obtain ⟨c30,f31,y32⟩:=uh B29
 go_wp2_with fail
 clear c30 f31 y32
 refine (is_S (uh H26) qbc).mono ?_
 rintro e w4 ⟨rfl,hb⟩
 have H36:=ai ((uh H26).below hb)
 have K37:=ai ((uh K27).below hb)
 have z38:=hb.size
 try simp [World.setCell] at z38
 have B39:=ai ((uh B29).below hb)
 clear H26 K27 B29 hb
 obtain ⟨c40,f41,y42⟩:=uh B39
 go_wp2_with fail
 clear c40 f41 y42
 refine (is_S (uh H36) kLet).mono ?_
 rintro e w5 ⟨rfl,hb⟩
 have H46:=ai ((uh H36).below hb)
 have K47:=ai ((uh K37).below hb)
 have z48:=hb.size
 try simp [World.setCell] at z48
 have B49:=ai ((uh B39).below hb)
 clear H36 K37 B39 hb
 obtain ⟨c50,f51,y52⟩:=uh B49
 go_wp2_with fail
 clear c50 f51 y52
 refine (uh HB' _ _ (uh H46) (uh hf')).mono ?_
 rintro e w66 ⟨kd,tb,x,rfl,hb,hS,hN⟩
 have H56:=ai hS
 have K57:=ai ((uh K47).trans hb)
 have z58:=hb.size
 try simp [World.setCell] at z58
 have B59:=ai ((uh B49).ke hb (by omega))
 clear H46 K47 B49 hb hS
 obtain ⟨c60,f61,y62⟩:=uh B59
 have Hkt:=ai (fun k b k' (h1:σ=.ok k) (hq:qbg T expr k=.ok (b,k'))=>And.intro (hN k b k' h1 hq).1 (hN k b k' h1 hq).2.1)
 have hN1:=ai (fun k a k' (h1:σ=.ok k) (hq:qbg T expr k=.ok (a,k'))=>(hN k a k' h1 hq).2.2.rng w5.heap.size (fun b hb=>by simpa using hb))
 clear hN
 unfold NV.v tokV
 go_wp2_with fail
 have H63:=ai (((uh H56).alloc (.cells #[.int .i64 (tb.kind:Int),.string tb.text,.int .i64 (tb.frm:Int),.int .i64 (tb.to:Int)] 58)).alloc (.cells (nvA x) 62))
 have K64:=ai (((uh K57).alloc (.cells #[.int .i64 (tb.kind:Int),.string tb.text,.int .i64 (tb.frm:Int),.int .i64 (tb.to:Int)] 58)).alloc (.cells (nvA x) 62))
 have B65:=ai (((uh B59).alloc (.cells #[.int .i64 (tb.kind:Int),.string tb.text,.int .i64 (tb.frm:Int),.int .i64 (tb.to:Int)] 58)).alloc (.cells (nvA x) 62))
 have B66:=ai ((Bx.at w66 #[.int .i64 (tb.kind:Int),.string tb.text,.int .i64 (tb.frm:Int),.int .i64 (tb.to:Int)] 58 (w66.heap.size) (by simp [World.setCell])).alloc (.cells (nvA x) 62))
 have B67:=ai (Bx.at (w66.alloc (.cells #[.int .i64 (tb.kind:Int),.string tb.text,.int .i64 (tb.frm:Int),.int .i64 (tb.to:Int)] 58)) #[.int .i64 x.k,.string x.s,.int .i64 x.n,.slice x.la x.ll x.lc,.int .i64 x.f,.int .i64 x.t,.int .i64 x.a] 62 (w66.heap.size+1) (by simp [World.setCell]))
 have R68:=ai (fun k a k' h1 hq=>(NR.bel (NR.bel (uh hN1 k a k' h1 hq) (bw (.cells #[.int .i64 (tb.kind:Int),.string tb.text,.int .i64 (tb.frm:Int),.int .i64 (tb.to:Int)] 58))) (bw (.cells (nvA x) 62))))
 clear H56 K57 B59 hN1 c60 f61 y62
 refine (qch (uh H63) kIn).mono ?_
 rintro e w7 ⟨rfl,hb,hS⟩
 have H69:=ai hS
 have K70:=ai ((uh K64).trans hb)
 have z71:=hb.size
 try simp [World.setCell] at z71
 have B72:=ai ((uh B65).ke hb (by omega))
 have B73:=ai ((uh B66).ke hb (by omega))
 have B74:=ai ((uh B67).ke hb (by omega))
 have R75:=ai (fun k a k' h1 hq=>NR.ke (uh R68 k a k' h1 hq) hb (fun b hb=>by omega))
 clear H63 K64 B65 B66 B67 R68 hb hS
 obtain ⟨c76,f77,y78⟩:=uh B72
 obtain ⟨c79,f80,y81⟩:=uh B73
 obtain ⟨c82,f83,y84⟩:=uh B74
 go_wp2_with fail
 clear c76 f77 y78 c79 f80 y81 c82 f83 y84
 refine (uh HE' _ _ (uh H69) (by intro j hj;obtain ⟨k2,_,e2,m2⟩:=qbf hj;obtain ⟨k1,_,e1,m1⟩:=qbf e2;have:=uh hf' k1 e1;have:=qah _ _ _ _ m2;have:=bound_mono (uh hmo) _ _ _ m1;omega)).mono ?_
 rintro e w8 ⟨y,rfl,hb,hS,hN⟩
 have H90:=ai hS
 have K91:=ai ((uh K70).trans hb)
 have z92:=hb.size
 try simp [World.setCell] at z92
 have B93:=ai ((uh B72).ke hb (by omega))
 have B94:=ai ((uh B73).ke hb (by omega))
 have B95:=ai ((uh B74).ke hb (by omega))
 have R96:=ai (fun k a k' h1 hq=>NR.ke (uh R75 k a k' h1 hq) hb (fun b hb=>by omega))
 clear H69 K70 B72 B73 B74 R75 hb hS
 obtain ⟨c97,f98,y99⟩:=uh B93
 obtain ⟨c100,f101,y102⟩:=uh B94
 obtain ⟨c103,f104,y105⟩:=uh B95
 have hN2:=ai (fun k a k' (h1:(nx (nx σ (qbg T expr)) (qag T kIn))=.ok k) (hq:expr k=.ok (a,k'))=>(hN k a k' h1 hq).rng w7.heap.size (fun b hb=>by simpa using hb))
 clear hN
 unfold NV.v
 go_wp2_with fail
 have H106:=ai ((uh H90).alloc (.cells (nvA y) 62))
 have K107:=ai ((uh K91).alloc (.cells (nvA y) 62))
 have B108:=ai ((uh B93).alloc (.cells (nvA y) 62))
 have B109:=ai ((uh B94).alloc (.cells (nvA y) 62))
 have B110:=ai ((uh B95).alloc (.cells (nvA y) 62))
 have B111:=ai (Bx.at w8 (nvA y) 62 (w8.heap.size) (by simp [World.setCell]))
 have R112:=ai (fun k a k' h1 hq=>(NR.bel (uh R96 k a k' h1 hq) (bw (.cells (nvA y) 62))))
 have R113:=ai (fun k a k' h1 hq=>(NR.bel (uh hN2 k a k' h1 hq) (bw (.cells (nvA y) 62))))
 clear H90 K91 B93 B94 B95 R96 hN2
 have HX:∀W,(W=(w8.alloc (.cells (nvA y) 62)).drew∨W=((w8.alloc (.cells (nvA y) 62)).alloc (.cells (nvB x y) 62)).drew)→SS W rb g cap T (nx (nx (nx σ (qbg T expr)) (qag T kIn)) expr)∧∀w6,Below W.heap.size W w6→SS w6 rb g cap T (nx (nx (nx σ (qbg T expr)) (qag T kIn)) expr)∧Ke rb w w6∧Bx w6 (w.heap.size) #[.int .i64 0,.string ⟨#[]⟩,.int .i64 0,.slice none 0 0,.int .i64 0,.int .i64 0,.int .i64 0]∧Bx w6 (w66.heap.size) #[.int .i64 (tb.kind:Int),.string tb.text,.int .i64 (tb.frm:Int),.int .i64 (tb.to:Int)]∧Bx w6 (w66.heap.size+1) #[.int .i64 x.k,.string x.s,.int .i64 x.n,.slice x.la x.ll x.lc,.int .i64 x.f,.int .i64 x.t,.int .i64 x.a]∧Bx w6 (w8.heap.size) #[.int .i64 y.k,.string y.s,.int .i64 y.n,.slice y.la y.ll y.lc,.int .i64 y.f,.int .i64 y.t,.int .i64 y.a]∧(∀k a k',σ=.ok k→qbg T expr k=.ok (a,k')→NR w6 (fun b=>w.heap.size<b∧b<w8.heap.size) a.2.2 x)∧(∀k a k',(nx (nx σ (qbg T expr)) (qag T kIn))=.ok k→expr k=.ok (a,k')→NR w6 (fun b=>w.heap.size<b∧b<w8.heap.size) a y)∧(W=((w8.alloc (.cells (nvA y) 62)).alloc (.cells (nvB x y) 62)).drew→Bx w6 (w8.heap.size+1) (nvB x y)):=by
  rintro W (rfl|rfl)
  ·exact ⟨(uh H106).drew,fun w6 hb=>⟨((uh H106).drew).below hb,((uh K107).drew).below hb,((uh B108).drew).below hb,((uh B109).drew).below hb,((uh B110).drew).below hb,((uh B111).drew).below hb,fun k a k' h1 hq=>((((uh R112 k a k' h1 hq)).move (br _) (fun _ _ _=>rfl) (fun b hb _=>by omega)).bel ((Below.refl _ _).drew)).bel hb,fun k a k' h1 hq=>((((uh R113 k a k' h1 hq)).move (br _) (fun _ _ _=>rfl) (fun b hb _=>by omega)).bel ((Below.refl _ _).drew)).bel hb,fun e=>absurd (congrArg (fun w=>w.heap.size) e) (by simp)⟩⟩
  ·exact ⟨((uh H106).alloc (.cells (nvB x y) 62)).drew,fun w6 hb=>⟨(((uh H106).alloc (.cells (nvB x y) 62)).drew).below hb,(((uh K107).alloc (.cells (nvB x y) 62)).drew).below hb,(((uh B108).alloc (.cells (nvB x y) 62)).drew).below hb,(((uh B109).alloc (.cells (nvB x y) 62)).drew).below hb,(((uh B110).alloc (.cells (nvB x y) 62)).drew).below hb,(((uh B111).alloc (.cells (nvB x y) 62)).drew).below hb,fun k a k' h1 hq=>((((uh R112 k a k' h1 hq)).move (br _) (fun _ _ _=>rfl) (fun b hb _=>by omega)).bel ((bw (.cells (nvB x y) 62)).drew)).bel hb,fun k a k' h1 hq=>((((uh R113 k a k' h1 hq)).move (br _) (fun _ _ _=>rfl) (fun b hb _=>by omega)).bel ((bw (.cells (nvB x y) 62)).drew)).bel hb,fun _=>((Bx.at _ (nvB x y) 62 (w8.heap.size+1) (by simp)).drew).below hb⟩⟩
 have HX1:=ai HX
 clear HX
 have ne0:¬w.heap.size=w66.heap.size:=by omega
 have ne1:¬w.heap.size=w66.heap.size+1:=by omega
 have ne2:¬w.heap.size=w8.heap.size:=by omega
 go_region_held3 (fun w'=>w'.cell? ⟨w66.heap.size,0,none⟩=some (.int .i64 (tb.kind:Int))∧w'.cell? ⟨w66.heap.size,1,none⟩=some (.string tb.text)∧w'.cell? ⟨w66.heap.size,2,none⟩=some (.int .i64 (tb.frm:Int))∧w'.cell? ⟨w66.heap.size,3,none⟩=some (.int .i64 (tb.to:Int))∧w'.cell? ⟨w66.heap.size+1,0,none⟩=some (.int .i64 x.k)∧w'.cell? ⟨w66.heap.size+1,1,none⟩=some (.string x.s)∧w'.cell? ⟨w66.heap.size+1,2,none⟩=some (.int .i64 x.n)∧w'.cell? ⟨w66.heap.size+1,3,none⟩=some (.slice x.la x.ll x.lc)∧w'.cell? ⟨w66.heap.size+1,4,none⟩=some (.int .i64 x.f)∧w'.cell? ⟨w66.heap.size+1,5,none⟩=some (.int .i64 x.t)∧w'.cell? ⟨w66.heap.size+1,6,none⟩=some (.int .i64 x.a)∧w'.cell? ⟨w8.heap.size,0,none⟩=some (.int .i64 y.k)∧w'.cell? ⟨w8.heap.size,1,none⟩=some (.string y.s)∧w'.cell? ⟨w8.heap.size,2,none⟩=some (.int .i64 y.n)∧w'.cell? ⟨w8.heap.size,3,none⟩=some (.slice y.la y.ll y.lc)∧w'.cell? ⟨w8.heap.size,4,none⟩=some (.int .i64 y.f)∧w'.cell? ⟨w8.heap.size,5,none⟩=some (.int .i64 y.t)∧w'.cell? ⟨w8.heap.size,6,none⟩=some (.int .i64 y.a)) (first|go_keep|(simp [World.cell?_setCell_other,ne0,ne1,ne2,q1c,q2c,q3c])) (first|(go_at_call 174;refine (qd1 (uh HX1 _ (by first|exact Or.inl rfl|exact Or.inr rfl)).1).mono ?_;rintro e w6 ⟨m,rfl,hb,hn⟩;obtain ⟨S6,K6,b60,b61,b62,b63,n60,n61,R6⟩:=(uh HX1 _ (by first|exact Or.inl rfl|exact Or.inr rfl)).2 _ hb;have zz:=hb.size;obtain ⟨q0c,q0f,q0z⟩:=b60;obtain ⟨q1c,q1f,q1z⟩:=b61;obtain ⟨q2c,q2f,q2z⟩:=b62;obtain ⟨q3c,q3f,q3z⟩:=b63;have HS6:=ai S6;have HK6:=ai K6;have HN0:=ai n60;have HN1:=ai n61;have HR6:=ai R6;have Hlast:=ai hn;clear S6 K6 n60 n61 R6 hb hn))
 ·go_wp2_with fail
  refine bodyPost_ret (v:=NV.v ⟨(kd:Int),tb.text,0,some ⟨w8.heap.size+1,0,none⟩,2,2,(t.frm:Int),(m:Int),(tb.frm:Int)⟩) (by simp [results,Tryz.results108,go_sem,q0c,q0z,NV.v];try rfl) rfl ⟨_,rfl,?_,?_,?_⟩
  ·exact (uh HK6).set7 (br _) _ _ _ _ _ _ _
  ·exact (uh HS6).set7 (by omega) (by omega) _ _ _ _ _ _ _
  ·intro k a k' hk hq
   unfold letM at hq
   obtain ⟨b,k1,q1,r1⟩:=qad hq
   obtain ⟨_,k2,q2,r2⟩:=qad r1
   obtain ⟨f,k3,q3,r3⟩:=qad r2
   cases r3
   obtain rfl:=uh Ht k hk
   obtain ⟨ek,et⟩:=uh Hkt k b k1 hk q1
   have g1:nx σ (qbg T expr)=.ok k1:=by rw [hk];exact qas q1
   have g2:(nx (nx σ (qbg T expr)) (qag T kIn))=.ok k2:=by rw [g1];exact qas q2
   rw [←uh Hlast k' (by rw [g2];exact qas q3),←ek,←et]
   exact NR.two (P:=fun b=>w.heap.size≤b) kd tb.text 0 (tk T k).frm m tb.frm ((uh HR6 (by first|trivial|rfl)).setO7 (b:=w.heap.size) (by omega) _ _ _ _ _ _ _) rfl ((((((((((uh HN0 k b k1 hk q1).set (b2:=w.heap.size) (fun b hb _=>by omega) 0 _).set (b2:=w.heap.size) (fun b hb _=>by omega) 1 _).set (b2:=w.heap.size) (fun b hb _=>by omega) 2 _).set (b2:=w.heap.size) (fun b hb _=>by omega) 3 _).set (b2:=w.heap.size) (fun b hb _=>by omega) 4 _).set (b2:=w.heap.size) (fun b hb _=>by omega) 5 _).set (b2:=w.heap.size) (fun b hb _=>by omega) 6 _)).wide _ (fun b hb=>by omega)) ((((((((((uh HN1 k2 f k' g2 q3).set (b2:=w.heap.size) (fun b hb _=>by omega) 0 _).set (b2:=w.heap.size) (fun b hb _=>by omega) 1 _).set (b2:=w.heap.size) (fun b hb _=>by omega) 2 _).set (b2:=w.heap.size) (fun b hb _=>by omega) 3 _).set (b2:=w.heap.size) (fun b hb _=>by omega) 4 _).set (b2:=w.heap.size) (fun b hb _=>by omega) 5 _).set (b2:=w.heap.size) (fun b hb _=>by omega) 6 _)).wide _ (fun b hb=>by omega)) (by omega) 2
 ·go_wp2_with fail
  refine bodyPost_ret (v:=NV.v ⟨(kd:Int),tb.text,0,some ⟨w6.heap.size,0,none⟩,2,2,(t.frm:Int),(m:Int),(tb.frm:Int)⟩) (by simp [results,Tryz.results108,go_sem,q0c,q0z,NV.v];try rfl) rfl ⟨_,rfl,?_,?_,?_⟩
  ·exact ((uh HK6).set7 (br _) _ _ _ _ _ _ _).alloc _
  ·exact ((uh HS6).set7 (by omega) (by omega) _ _ _ _ _ _ _).alloc _
  ·intro k a k' hk hq
   unfold letM at hq
   obtain ⟨b,k1,q1,r1⟩:=qad hq
   obtain ⟨_,k2,q2,r2⟩:=qad r1
   obtain ⟨f,k3,q3,r3⟩:=qad r2
   cases r3
   obtain rfl:=uh Ht k hk
   obtain ⟨ek,et⟩:=uh Hkt k b k1 hk q1
   have g1:nx σ (qbg T expr)=.ok k1:=by rw [hk];exact qas q1
   have g2:(nx (nx σ (qbg T expr)) (qag T kIn))=.ok k2:=by rw [g1];exact qas q2
   rw [←uh Hlast k' (by rw [g2];exact qas q3),←ek,←et]
   exact NR.two (P:=fun b=>w.heap.size≤b) kd tb.text 0 (tk T k).frm m tb.frm (Bx.at _ _ _ _ (by simp [World.setCell])) rfl (NR.bel ((((((((((uh HN0 k b k1 hk q1).set (b2:=w.heap.size) (fun b hb _=>by omega) 0 _).set (b2:=w.heap.size) (fun b hb _=>by omega) 1 _).set (b2:=w.heap.size) (fun b hb _=>by omega) 2 _).set (b2:=w.heap.size) (fun b hb _=>by omega) 3 _).set (b2:=w.heap.size) (fun b hb _=>by omega) 4 _).set (b2:=w.heap.size) (fun b hb _=>by omega) 5 _).set (b2:=w.heap.size) (fun b hb _=>by omega) 6 _)).wide _ (fun b hb=>by omega)) (bw _)) (NR.bel ((((((((((uh HN1 k2 f k' g2 q3).set (b2:=w.heap.size) (fun b hb _=>by omega) 0 _).set (b2:=w.heap.size) (fun b hb _=>by omega) 1 _).set (b2:=w.heap.size) (fun b hb _=>by omega) 2 _).set (b2:=w.heap.size) (fun b hb _=>by omega) 3 _).set (b2:=w.heap.size) (fun b hb _=>by omega) 4 _).set (b2:=w.heap.size) (fun b hb _=>by omega) 5 _).set (b2:=w.heap.size) (fun b hb _=>by omega) 6 _)).wide _ (fun b hb=>by omega)) (bw _)) (by omega) 2
end
end
section
open Go Go.RowKit
section
variable {rb g cap:Nat} {T:List Pu.Tok} {σ:St} {w:World}
theorem Fr.s7 {S:Nat→Prop} {a w:World} (h:Fr S a w) {b:Nat} (hb:S b∨a.heap.size≤b) (v0 v1 v2 v3 v4 v5 v6:Value):Fr S a (((((((w.setCell ⟨b,0,none⟩ v0).setCell ⟨b,1,none⟩ v1).setCell ⟨b,2,none⟩ v2).setCell ⟨b,3,none⟩ v3).setCell ⟨b,4,none⟩ v4).setCell ⟨b,5,none⟩ v5).setCell ⟨b,6,none⟩ v6):=
 ((((((h.set hb 0 v0).set hb 1 v1).set hb 2 v2).set hb 3 v3).set hb 4 v4).set hb 5 v5).set hb 6 v6
theorem fin0 {w w10 Wf:World} {rb g cap:Nat} {T:List Pu.Tok} {σ:St} {u6:Nat} (F:Fr (fun b=>b=w.heap.size∨b=u6) w10 Wf) (hK:Ke rb w w10) (hS:SS w10 rb g cap T σ) (hr:rb<w.heap.size) (hg:g<w.heap.size) (hu:w.heap.size<u6):Ke rb w Wf∧SS Wf rb g cap T σ:=by
 have hz:=hS.hr
 have hgz:=hS.hg
 exact ⟨⟨F.os.trans hK.os,F.tape.trans hK.tape,F.output.trans hK.output,Nat.le_trans hK.size F.size,fun k hk hn=>(F.block k (Nat.lt_of_lt_of_le hk hK.size) (by intro e;have e:k=w.heap.size∨k=u6:=e;omega)).trans (hK.block k hk hn)⟩,hS.same F.size (F.block rb hz (by intro e;have e:rb=w.heap.size∨rb=u6:=e;omega)) (F.block g hgz (by intro e;have e:g=w.heap.size∨g=u6:=e;omega))⟩
theorem less_fin {w w10 Wf:World} {rb g cap:Nat} {T:List Pu.Tok} {σ:St} {u6 r:Nat} {a b:Nd} {x z:NV} {P:Nat→Prop} {C:Array Value} (F:Fr (fun b=>b=w.heap.size∨b=u6) w10 Wf) (hK:Ke rb w w10) (hS:SS w10 rb g cap T σ) (hr:rb<w.heap.size) (hg:g<w.heap.size) (hu:w.heap.size<u6)
 (hP:∀b,P b→w.heap.size<b∧b≠u6) (hR:Bx Wf r C) (hC:C=(flat [x,z]).toArray) (hr0:w.heap.size≤r) (f t q:Nat) (ha:NR w10 P a x) (hb:NR w10 P b z):
 Ke rb w Wf∧SS Wf rb g cap T σ∧NR Wf (fun b=>w.heap.size≤b) (.mk 7 kLess 0 [a,b] f t q) ⟨7,kLess,0,some ⟨r,0,none⟩,2,2,f,t,q⟩:=by
 have hz:=hS.hr
 have hgz:=hS.hg
 refine ⟨⟨F.os.trans hK.os,F.tape.trans hK.tape,F.output.trans hK.output,Nat.le_trans hK.size F.size,fun k hk hn=>(F.block k (Nat.lt_of_lt_of_le hk hK.size) (by intro e;have e:k=w.heap.size∨k=u6:=e;omega)).trans (hK.block k hk hn)⟩,hS.same F.size (F.block rb hz (by intro e;have e:rb=w.heap.size∨rb=u6:=e;omega)) (F.block g hgz (by intro e;have e:g=w.heap.size∨g=u6:=e;omega)),?_⟩
 have mv:∀{nd:Nd} {y:NV},NR w10 P nd y→NR Wf (fun b=>w.heap.size≤b) nd y:=fun k=>k.move F.size (fun c p hz=>F.block c hz (by intro e;have e:c=w.heap.size∨c=u6:=e;have:=hP c p;omega)) (fun c p _=>Nat.le_of_lt (hP c p).1)
 exact NR.two (P:=fun b=>w.heap.size≤b) 7 kLess 0 f t q hR hC (mv ha) (mv hb) hr0 2
theorem less_yes {n k:Nat} {sum:M Nd} (HS:NodeC rb g cap T 177 #[.pointer (some ⟨rb,0,none⟩)] sum n) (hm:∀k a k',sum k=.ok (a,k')→k<k') (h:SS w rb g cap T (.ok k)) (hf:T.length≤k+n) (h0:isT (tk T k) kFun=false) (h1:isT (tk T k) kIf=false) (h2:isT (tk T k) qbc=false) (h3:isT (tk T k) kLet=false) {a:Nd} {k1:Nat} (hp:sum k=.ok (a,k1)) (hl:isT (tk T k1) kLess=true):
 Calls Tryz.prog 108 #[.pointer (some ⟨rb,0,none⟩)] w fun e w'=>∃x:NV,e=.returned x.v∧Ke rb w w'∧SS w' rb g cap T (nx (.ok (k1+1)) sum)∧∀b k',sum (k1+1)=.ok (b,k')→NR w' (fun b=>w.heap.size≤b) (.mk 7 kLess 0 [a,b] (tk T k).frm (qan T k') (tk T k).frm) x:=by
 have HS':=ai HS
 have hf':=ai hf
 have hp':=ai hp
 have hlt:=hm _ _ _ hp
 have ff:=qd4
 have i0:isS T (.ok k) kFun=false:=h0
 have i1:isS T (.ok k) kIf=false:=h1
 have i2:isS T (.ok k) qbc=false:=h2
 have i3:isS T (.ok k) kLet=false:=h3
 have hD:isS T (.ok k1) kLess=true:=hl
 have h7:(tk T k1).kind≠7:=by have:=qbe hl;omega
 clear HS hf hp hm h0 h1 h2 h3 hl
 have hr:=h.hr
 have hg:=h.hg
 have H1:=ai h
 have K2:=ai (Ke.refl rb w)
 clear h
 go_enter Tryz.func108,Tryz.ntmps108
 go_wp2_with fail
 have H3:=ai ((uh H1).alloc (.cells qat 62))
 have K4:=ai ((uh K2).alloc (.cells qat 62))
 have B5:=ai (Bx.at w qat 62 (w.heap.size) (by simp [World.setCell]))
 clear H1 K2
 refine (qb5 (uh H3)).mono ?_
 rintro e w1 ⟨t,rfl,hb,ht⟩
 have H6:=ai ((uh H3).below hb)
 have K7:=ai ((uh K4).below hb)
 have z8:=hb.size
 try simp [World.setCell] at z8
 have B9:=ai ((uh B5).below hb)
 clear H3 K4 B5 hb
 obtain ⟨c10,f11,y12⟩:=uh B9
 have Ht:=ai ht
 clear ht
 unfold tokV
 go_wp2_with fail
 clear c10 f11 y12
 refine (is_S (uh H6) kFun).mono ?_
 rintro e w2 ⟨rfl,hb⟩
 have H16:=ai ((uh H6).below hb)
 have K17:=ai ((uh K7).below hb)
 have z18:=hb.size
 try simp [World.setCell] at z18
 have B19:=ai ((uh B9).below hb)
 clear H6 K7 B9 hb
 obtain ⟨c20,f21,y22⟩:=uh B19
 go_wp2_with fail
 clear c20 f21 y22
 refine (is_S (uh H16) kIf).mono ?_
 rintro e w3 ⟨rfl,hb⟩
 have H26:=ai ((uh H16).below hb)
 have K27:=ai ((uh K17).below hb)
 have z28:=hb.size
 try simp [World.setCell] at z28
 have B29:=ai ((uh B19).below hb)
 clear H16 K17 B19 hb
 obtain ⟨c30,f31,y32⟩:=uh B29
 go_wp2_with fail
 clear c30 f31 y32
 refine (is_S (uh H26) qbc).mono ?_
 rintro e w4 ⟨rfl,hb⟩
 have H36:=ai ((uh H26).below hb)
 have K37:=ai ((uh K27).below hb)
 have z38:=hb.size
 try simp [World.setCell] at z38
 have B39:=ai ((uh B29).below hb)
 clear H26 K27 B29 hb
 obtain ⟨c40,f41,y42⟩:=uh B39
 go_wp2_with fail
 clear c40 f41 y42
 refine (is_S (uh H36) kLet).mono ?_
 rintro e w5 ⟨rfl,hb⟩
 have H46:=ai ((uh H36).below hb)
 have K47:=ai ((uh K37).below hb)
 have z48:=hb.size
 try simp [World.setCell] at z48
 have B49:=ai ((uh B39).below hb)
 clear H36 K37 B39 hb
 obtain ⟨c50,f51,y52⟩:=uh B49
 go_wp2_with fail
 clear c50 f51 y52
 refine (uh HS' _ _ (uh H46) (by intro j hj;cases hj;exact uh hf')).mono ?_
 rintro e w6 ⟨x,rfl,hb,hS,hN⟩
 have H56:=ai hS
 have K57:=ai ((uh K47).trans hb)
 have z58:=hb.size
 try simp [World.setCell] at z58
 have B59:=ai ((uh B49).ke hb (by omega))
 clear H46 K47 B49 hb hS
 obtain ⟨c60,f61,y62⟩:=uh B59
 rw [qas (uh hp')] at H56
 have hN1:=ai ((hN _ _ _ rfl (uh hp')).rng w5.heap.size (fun b hb=>by simpa using hb))
 clear hN
 have ht':=uh Ht k rfl
 subst ht'
 clear Ht
 unfold NV.v
 go_wp2_with fail
 have H63:=ai ((uh H56).alloc (.cells (nvA x) 62))
 have K64:=ai ((uh K57).alloc (.cells (nvA x) 62))
 have B65:=ai ((uh B59).alloc (.cells (nvA x) 62))
 have B66:=ai (Bx.at w6 (nvA x) 62 (w6.heap.size) (by simp [World.setCell]))
 have R67:=ai ((NR.bel (uh hN1) (bw (.cells (nvA x) 62))))
 clear H56 K57 B59 hN1 c60 f61 y62
 refine (is_S (uh H63) kLess).mono ?_
 rintro e w7 ⟨rfl,hb⟩
 have H68:=ai ((uh H63).below hb)
 have K69:=ai ((uh K64).below hb)
 have z70:=hb.size
 try simp [World.setCell] at z70
 have B71:=ai ((uh B65).below hb)
 have B72:=ai ((uh B66).below hb)
 have R73:=ai (NR.bel (uh R67) hb)
 clear H63 K64 B65 B66 R67 hb
 obtain ⟨c74,f75,y76⟩:=uh B71
 obtain ⟨c77,f78,y79⟩:=uh B72
 go_wp2_with fail
 clear c74 f75 y76 c77 f78 y79
 refine (qcp (uh H68) h7).mono ?_
 rintro e w8 ⟨rfl,hb,hS⟩
 have H84:=ai hS
 have K85:=ai ((uh K69).trans hb)
 have z86:=hb.size
 try simp [World.setCell] at z86
 have B87:=ai ((uh B71).ke hb (by omega))
 have B88:=ai ((uh B72).ke hb (by omega))
 have R89:=ai (NR.ke (uh R73) hb (fun b hb=>by omega))
 clear H68 K69 B71 B72 R73 hb hS
 obtain ⟨c90,f91,y92⟩:=uh B87
 obtain ⟨c93,f94,y95⟩:=uh B88
 go_wp2_with fail
 clear c90 f91 y92 c93 f94 y95
 refine (uh HS' _ _ (uh H84) (by intro j hj;cases hj;have:=uh hf';omega)).mono ?_
 rintro e w9 ⟨z,rfl,hb,hS,hN⟩
 have H100:=ai hS
 have K101:=ai ((uh K85).trans hb)
 have z102:=hb.size
 try simp [World.setCell] at z102
 have B103:=ai ((uh B87).ke hb (by omega))
 have B104:=ai ((uh B88).ke hb (by omega))
 have R105:=ai (NR.ke (uh R89) hb (fun b hb=>by omega))
 clear H84 K85 B87 B88 R89 hb hS
 obtain ⟨c106,f107,y108⟩:=uh B103
 obtain ⟨c109,f110,y111⟩:=uh B104
 have hNz:=ai (fun b k2 (hq:sum (k1+1)=.ok (b,k2))=>(hN _ b k2 rfl hq).rng w8.heap.size (fun b hb=>by simpa using hb))
 clear hN
 unfold NV.v
 go_wp2_with fail
 have H112:=ai ((uh H100).alloc (.cells (nvA z) 62))
 have K113:=ai ((uh K101).alloc (.cells (nvA z) 62))
 have B114:=ai ((uh B103).alloc (.cells (nvA z) 62))
 have B115:=ai ((uh B104).alloc (.cells (nvA z) 62))
 have B116:=ai (Bx.at w9 (nvA z) 62 (w9.heap.size) (by simp [World.setCell]))
 have R117:=ai ((NR.bel (uh R105) (bw (.cells (nvA z) 62))))
 have R118:=ai (fun b k2 hq=>(NR.bel (uh hNz b k2 hq) (bw (.cells (nvA z) 62))))
 clear H100 K101 B103 B104 R105 hNz
 have HX:∀W,(W=(w9.alloc (.cells (nvA z) 62)).drew∨W=((w9.alloc (.cells (nvA z) 62)).alloc (.cells (nvB x z) 62)).drew)→SS W rb g cap T (nx (.ok (k1+1)) sum)∧∀w10,Below W.heap.size W w10→SS w10 rb g cap T (nx (.ok (k1+1)) sum)∧Ke rb w w10∧Bx w10 (w.heap.size) #[.int .i64 0,.string ⟨#[]⟩,.int .i64 0,.slice none 0 0,.int .i64 0,.int .i64 0,.int .i64 0]∧Bx w10 (w6.heap.size) #[.int .i64 x.k,.string x.s,.int .i64 x.n,.slice x.la x.ll x.lc,.int .i64 x.f,.int .i64 x.t,.int .i64 x.a]∧Bx w10 (w9.heap.size) #[.int .i64 z.k,.string z.s,.int .i64 z.n,.slice z.la z.ll z.lc,.int .i64 z.f,.int .i64 z.t,.int .i64 z.a]∧(W=((w9.alloc (.cells (nvA z) 62)).alloc (.cells (nvB x z) 62)).drew→Bx w10 (w9.heap.size+1) (nvB x z))∧NR w10 (fun b=>w.heap.size<b∧b≠w6.heap.size∧b<w9.heap.size) a x∧∀b k2,sum (k1+1)=.ok (b,k2)→NR w10 (fun b=>w.heap.size<b∧b≠w6.heap.size∧b<w9.heap.size) b z:=by
  rintro W (rfl|rfl)
  ·exact ⟨(uh H112).drew,fun w10 hb=>⟨((uh H112).drew).below hb,((uh K113).drew).below hb,((uh B114).drew).below hb,((uh B115).drew).below hb,((uh B116).drew).below hb,fun e=>absurd (congrArg (fun w=>w.heap.size) e) (by simp),(((uh R117).move (br _) (fun _ _ _=>rfl) (fun b hb _=>by omega)).bel ((Below.refl _ _).drew)).bel hb,fun b k2 hq=>(((uh R118 b k2 hq).move (br _) (fun _ _ _=>rfl) (fun b hb _=>by omega)).bel ((Below.refl _ _).drew)).bel hb⟩⟩
  ·exact ⟨((uh H112).alloc (.cells (nvB x z) 62)).drew,fun w10 hb=>⟨(((uh H112).alloc (.cells (nvB x z) 62)).drew).below hb,(((uh K113).alloc (.cells (nvB x z) 62)).drew).below hb,(((uh B114).alloc (.cells (nvB x z) 62)).drew).below hb,(((uh B115).alloc (.cells (nvB x z) 62)).drew).below hb,(((uh B116).alloc (.cells (nvB x z) 62)).drew).below hb,fun _=>((Bx.at _ (nvB x z) 62 (w9.heap.size+1) (by simp)).drew).below hb,(((uh R117).move (br _) (fun _ _ _=>rfl) (fun b hb _=>by omega)).bel ((bw (.cells (nvB x z) 62)).drew)).bel hb,fun b k2 hq=>(((uh R118 b k2 hq).move (br _) (fun _ _ _=>rfl) (fun b hb _=>by omega)).bel ((bw (.cells (nvB x z) 62)).drew)).bel hb⟩⟩
 have HX1:=ai HX
 clear HX
 go_region_with (go_at_call 174;refine (qd1 (uh HX1 _ (by first|exact Or.inl rfl|exact Or.inr rfl)).1).mono ?_;rintro e w10 ⟨m,rfl,hb,hn⟩;obtain ⟨S7,K7,b70,b71,b72,R7,Na7,Nb7⟩:=(uh HX1 _ (by first|exact Or.inl rfl|exact Or.inr rfl)).2 _ hb;have zz:=hb.size;have HB70:=ai b70;obtain ⟨q0c,q0f,q0z⟩:=b70;have HB71:=ai b71;obtain ⟨q1c,q1f,q1z⟩:=b71;have HB72:=ai b72;obtain ⟨q2c,q2f,q2z⟩:=b72;have HS7:=ai S7;have HK7:=ai K7;have HNa:=ai Na7;have HNb:=ai Nb7;have Hn:=ai hn;first|(have hRw:=R7 rfl;have HRow:=ai hRw;clear hRw)|(have HNo:Hid (0=0):=rfl);clear S7 K7 Na7 Nb7 R7 hb hn)
 all_goals
  go_wp2_with fail
  have h6w:w.heap.size<w6.heap.size:=by omega
  have hne6:w.heap.size≠w6.heap.size:=Nat.ne_of_lt h6w
  first
  |(have hRw:=uh HRow
    have F:=(((Fr.refl (fun b=>b=w.heap.size∨b=w6.heap.size) w10).s7 (b:=w6.heap.size) (Or.inl (Or.inr rfl)) (.int .i64 7) (.string kLess) (.int .i64 0) (.slice (some ⟨w9.heap.size+1,0,none⟩) 2 2) (.int .i64 ((tk T k).frm:Int)) (.int .i64 (m:Int)) (.int .i64 ((tk T k).frm:Int))).s7 (b:=w.heap.size) (Or.inl (Or.inl rfl)) (.int .i64 7) (.string kLess) (.int .i64 0) (.slice (some ⟨w9.heap.size+1,0,none⟩) 2 2) (.int .i64 ((tk T k).frm:Int)) (.int .i64 (m:Int)) (.int .i64 ((tk T k).frm:Int)))
    have BF:=(((uh HB70).setO7 (b:=w6.heap.size) hne6 (.int .i64 7) (.string kLess) (.int .i64 0) (.slice (some ⟨w9.heap.size+1,0,none⟩) 2 2) (.int .i64 ((tk T k).frm:Int)) (.int .i64 (m:Int)) (.int .i64 ((tk T k).frm:Int))).set7 rfl (.int .i64 7) (.string kLess) (.int .i64 0) (.slice (some ⟨w9.heap.size+1,0,none⟩) 2 2) (.int .i64 ((tk T k).frm:Int)) (.int .i64 (m:Int)) (.int .i64 ((tk T k).frm:Int)))
    obtain ⟨cF,fF,zF⟩:=BF
    have hRF:=(hRw.setO7 (b:=w6.heap.size) (by omega) (.int .i64 7) (.string kLess) (.int .i64 0) (.slice (some ⟨w9.heap.size+1,0,none⟩) 2 2) (.int .i64 ((tk T k).frm:Int)) (.int .i64 (m:Int)) (.int .i64 ((tk T k).frm:Int))).setO7 (b:=w.heap.size) (by omega) (.int .i64 7) (.string kLess) (.int .i64 0) (.slice (some ⟨w9.heap.size+1,0,none⟩) 2 2) (.int .i64 ((tk T k).frm:Int)) (.int .i64 (m:Int)) (.int .i64 ((tk T k).frm:Int))
    refine bodyPost_ret (v:=NV.v ⟨7,kLess,0,some ⟨w9.heap.size+1,0,none⟩,2,2,((tk T k).frm:Int),(m:Int),((tk T k).frm:Int)⟩) (by simp [results,Tryz.results108,go_sem,cF,NV.v];try rfl) rfl ⟨_,rfl,?_⟩
    have fin:=fun b q=>less_fin (b:=b) F (uh HK7) (uh HS7) hr hg h6w (fun b hb=>⟨by omega,hb.2.1⟩) hRF rfl (by omega) (tk T k).frm m (tk T k).frm (uh HNa) q
    refine ⟨(fin0 F (uh HK7) (uh HS7) hr hg h6w).1,(fin0 F (uh HK7) (uh HS7) hr hg h6w).2,fun b k' hq=>?_⟩
    rw [←uh Hn k' (qas hq)]
    exact (fin b (uh HNb b k' hq)).2.2)
  |(have hNo:=HNo
    have F:=(((Fr.refl (fun b=>b=w.heap.size∨b=w6.heap.size) w10).s7 (b:=w6.heap.size) (Or.inl (Or.inr rfl)) (.int .i64 7) (.string kLess) (.int .i64 0) (.slice (some ⟨w10.heap.size,0,none⟩) 2 2) (.int .i64 ((tk T k).frm:Int)) (.int .i64 (m:Int)) (.int .i64 ((tk T k).frm:Int))).s7 (b:=w.heap.size) (Or.inl (Or.inl rfl)) (.int .i64 7) (.string kLess) (.int .i64 0) (.slice (some ⟨w10.heap.size,0,none⟩) 2 2) (.int .i64 ((tk T k).frm:Int)) (.int .i64 (m:Int)) (.int .i64 ((tk T k).frm:Int))).trans (Fr.of (bw (.cells (nvB x z) 62)))
    have BF:=(((uh HB70).setO7 (b:=w6.heap.size) hne6 (.int .i64 7) (.string kLess) (.int .i64 0) (.slice (some ⟨w10.heap.size,0,none⟩) 2 2) (.int .i64 ((tk T k).frm:Int)) (.int .i64 (m:Int)) (.int .i64 ((tk T k).frm:Int))).set7 rfl (.int .i64 7) (.string kLess) (.int .i64 0) (.slice (some ⟨w10.heap.size,0,none⟩) 2 2) (.int .i64 ((tk T k).frm:Int)) (.int .i64 (m:Int)) (.int .i64 ((tk T k).frm:Int))).alloc (.cells (nvB x z) 62)
    obtain ⟨cF,fF,zF⟩:=BF
    have hRF:=Bx.at ((((((((((((((w10.setCell ⟨w6.heap.size,0,none⟩ (.int .i64 7)).setCell ⟨w6.heap.size,1,none⟩ (.string kLess)).setCell ⟨w6.heap.size,2,none⟩ (.int .i64 0)).setCell ⟨w6.heap.size,3,none⟩ (.slice (some ⟨w10.heap.size,0,none⟩) 2 2)).setCell ⟨w6.heap.size,4,none⟩ (.int .i64 ((tk T k).frm:Int))).setCell ⟨w6.heap.size,5,none⟩ (.int .i64 (m:Int))).setCell ⟨w6.heap.size,6,none⟩ (.int .i64 ((tk T k).frm:Int))).setCell ⟨w.heap.size,0,none⟩ (.int .i64 7)).setCell ⟨w.heap.size,1,none⟩ (.string kLess)).setCell ⟨w.heap.size,2,none⟩ (.int .i64 0)).setCell ⟨w.heap.size,3,none⟩ (.slice (some ⟨w10.heap.size,0,none⟩) 2 2)).setCell ⟨w.heap.size,4,none⟩ (.int .i64 ((tk T k).frm:Int))).setCell ⟨w.heap.size,5,none⟩ (.int .i64 (m:Int))).setCell ⟨w.heap.size,6,none⟩ (.int .i64 ((tk T k).frm:Int))) (nvB x z) 62 (w10.heap.size) (by simp [World.setCell])
    refine bodyPost_ret (v:=NV.v ⟨7,kLess,0,some ⟨w10.heap.size,0,none⟩,2,2,((tk T k).frm:Int),(m:Int),((tk T k).frm:Int)⟩) (by simp [results,Tryz.results108,go_sem,cF,NV.v];try rfl) rfl ⟨_,rfl,?_⟩
    have fin:=fun b q=>less_fin (b:=b) F (uh HK7) (uh HS7) hr hg h6w (fun b hb=>⟨by omega,hb.2.1⟩) hRF rfl (by omega) (tk T k).frm m (tk T k).frm (uh HNa) q
    refine ⟨(fin0 F (uh HK7) (uh HS7) hr hg h6w).1,(fin0 F (uh HK7) (uh HS7) hr hg h6w).2,fun b k' hq=>?_⟩
    rw [←uh Hn k' (qas hq)]
    exact (fin b (uh HNb b k' hq)).2.2)
end
end
end Go.Proofs.YtnhnocmpodaggaaGreatDoor

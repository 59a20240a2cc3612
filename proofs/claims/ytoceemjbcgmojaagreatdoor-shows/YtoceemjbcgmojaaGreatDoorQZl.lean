import Derived.Test.YtoceemjbcgmojaaGreatDoorQSw
import Derived.Test.YtoceemjbcgmojaaGreatDoorQDf
import Derived.Test.YtoceemjbcgmojaaGreatDoorQZi
import Derived.Test.YtoceemjbcgmojaaGreatDoorQVn
set_option linter.all false
set_option maxRecDepth 100000
set_option maxHeartbeats 10000000
namespace Go.Proofs.YtoceemjbcgmojaaGreatDoor
section
open Go Go.RowKit Go.ChangeMaps Un
theorem armN_mem:∀(A:List (Nd×Nd))(p:Nd×Nd),p∈A->p.1∈armN A/\p.2∈armN A
 |[],p,h=>by simp at h|q::r,p,h=>by
  rcases List.mem_cons.1 h with rfl|h
  .simp[armN]
  .have:=armN_mem r p h
   simp[armN,this]
theorem armN_len:∀A:List (Nd×Nd),(armN A).length=2*A.length
 |[]=>rfl|q::r=>by simp[armN,armN_len r];omega
section
variable {w:World}
theorem bareE_mt(s:BA)(n:Nat)(L:List Nd)(f t a:Nat)(hLl:L.length<=1001)(HE:∀y∈L,AtEC y)(HP:∀y∈L,AtPC y):BareEC (.mk 13 s n L f t a):=by
 intro w B pb bv l last mv Q v h hp hq hm hl hB
 obtain⟨nd,e⟩:∃nd,nd=Nd.mk 13 s n L f t a:=⟨_,rfl⟩
 rw[<-e]at hp
 cases hp with
 |mt s2 n2 x A f2 t2 a2 vx g sc vp ve h0 hg hz hc hx hp2 he2=>
  injection e with e1 e2 e3 e4 e5 e6 e7
  subst e2 e3 e4 e5 e6 e7
  have hx0:=hx
  obtain⟨tx,xx,rfl⟩:=hx.iface
  have esh:=sh_match s2 n2 x A h0 f2 t2 a2
  rw[esh]at hl⊢
  have ha0:=taExpr_Match_Fun
  have ha1:=taExpr_Match_Let
  have ha2:=taExpr_Match_If
  have ha3:=qe3
  have hbW:Below w.heap.size w (w.alloc (.cells #[.int .i64 (f2:Int),.int .i64 (t2:Int),.iface tx (.agg xx),.slice (some ⟨g,0,none⟩) A.length sc] 225)):=bw _
  have FW:=FN.of (B:=B) (pb:=pb) hbW
  have hAl:A.length<=1001:=by have:=armN_len A;simp at hLl;omega
  have cb:∀o,(w.alloc (.cells #[.int .i64 (f2:Int),.int .i64 (t2:Int),.iface tx (.agg xx),.slice (some ⟨g,0,none⟩) A.length sc] 225)).cell? ⟨g,o,none⟩=w.cell? ⟨g,o,none⟩:=fun o=>World.cell?_of_block (a:=⟨g,o,none⟩) (hbW.block g hz)
  have HC:=matchW_C x A (HE x (by simp)) (fun i hi=>HP _ (List.mem_cons_of_mem _ (armN_mem A _ (List.getElem_mem hi)).1)) (fun i hi=>HE _ (List.mem_cons_of_mem _ (armN_mem A _ (List.getElem_mem hi)).2)) hAl (f2:Int) (t2:Int) g sc vp ve (h.bel hbW) (hx0.bel hbW) hg (by simp;omega) (fun i hi=>by rw[cb,cb,cb,cb];exact hc i hi) (fun i hi=>(hp2 i hi).bel hbW) (fun i hi=>(he2 i hi).bel hbW) (hq.fn FW) (hm.fn FW) hl hB
  clear hc hp2 he2 hm cb
  go_enter Tryz.func302,Tryz.ntmps302
  go_wp2_with fail
  refine HC.mono ?_
  rintro e w1⟨rfl,bv1,last1,N1,fi1,F1⟩
  have HN:=ai N1
  have HF:=ai (FW.trans F1)
  clear N1 F1
  go_wp2_with fail
  go_end0
  exact⟨rfl,bv1,last1,uh HN,fi1,uh HF⟩
 |_=>exfalso;injection e with e1;omega
theorem opIn_C(s:BA)(x y:Nd)(Hx:AtEC x)(Hy:AtEC y)(hs:s=kPlus\/s=kMinus\/s=kStar\/s=kLess){B pb:Nat}{bv:Value}{l:List UInt8}{last:BA}{mv:Value}{Q:Nat->Prop}(f t:Int){tx ty:TypeId}{xx xy:Array Value}(lx ly:Nat)(hlx:lx<=4)(hly:ly<=4)(b0 b1 b2 b3:Nat)(n0:b0≠pb)(n1:b1≠pb)(n2:b2≠pb)(n3:b3≠pb)(h:PN w B pb bv l last mv)(hx0:PE w Q x (.iface tx (.agg xx)))(hy0:PE w Q y (.iface ty (.agg xy)))(hq:NT w pb Q)(hm:PM w pb mv)(h0:Bx w b0 #[.pointer (some ⟨pb,0,none⟩)])(h1:Bx w b1 #[.int .i64 f,.int .i64 t,.string s,.iface tx (.agg xx),.iface ty (.agg xy)])(h2:Bx w b2 #[.int .i64 (lx:Int)])(h3:Bx w b3 #[.int .i64 (ly:Int)])(hl:(l++(sep last++(atW x lx++(32::(s.toList++(32::atW y ly)))))).length<=800000)(hB:B<=pb):
 Calls Tryz.prog 297 #[.pointer (some ⟨b0,0,none⟩),.pointer (some ⟨b1,0,none⟩),.pointer (some ⟨b2,0,none⟩),.pointer (some ⟨b3,0,none⟩)] w (qcc B pb mv (l++(sep last++(atW x lx++(32::(s.toList++(32::atW y ly)))))) w):=by
 have hss:s.size<=1000:=by rcases hs with rfl|rfl|rfl|rfl<;>decide
 have hsn:s.toList≠[41]/\s.toList≠[44]/\s.toList≠[59]/\Fine s:=by unfold Fine;rcases hs with rfl|rfl|rfl|rfl<;>simp[ByteArray.toList_eq]
 obtain⟨m1,m2,m3,hfi⟩:=hsn
 clear hs
 simp only[lqa,lqc,lqn]at hl
 have FW:=FN.refl B pb w
 have zW:w.heap.size=w.heap.size:=rfl
 have hzp:=h.lt
 have N0:=ai h
 have F0:=ai (FN.refl B pb w)
 have BXa:=ai h0
 have BXb:=ai h1
 have BXc:=ai h2
 have BXd:=ai h3
 have Vx:=ai hx0
 have Vy:=ai hy0
 have HM:=ai hm
 have HQ:=ai hq
 clear h0 h1 h2 h3 h hm hq
 go_enter Tryz.func297,Tryz.ntmps297
 obtain⟨c1,fc1,zc1⟩:=(uh F0).pn_ne (uh BXa) (by assumption) (by intro x hx c;simp at hx;subst hx;intro q;cases q)
 obtain⟨c2,fc2,zc2⟩:=(uh F0).pn_ne (uh BXb) (by assumption) (by intro x hx c;simp at hx;subst hx;intro q;cases q)
 obtain⟨c3,fc3,zc3⟩:=(uh F0).pn_ne (uh BXc) (by assumption) (by intro x hx c;simp at hx;subst hx;intro q;cases q)
 obtain⟨c4,fc4,zc4⟩:=(uh F0).pn_ne (uh BXd) (by assumption) (by intro x hx c;simp at hx;subst hx;intro q;cases q)
 have HS5:=Hx w B pb _ _ last mv Q _ lx (uh N0) ((uh Vx).fnQ (uh HQ) (uh F0)) ((uh HQ).fn (uh F0)) ((uh HM).fn (uh F0)) (by omega) (by simp only[lqa,lqc,lqn];omega) hB
 go_wp2_with fail
 clear c1 fc1 zc1 c2 fc2 zc2 c3 fc3 zc3 c4 fc4 zc4
 refine HS5.mono ?_
 rintro e w1⟨rfl,bvw1,lastw1,hN,fiw1,hF⟩
 have N6:=ai hN
 have F7:=ai ((uh F0).trans hF)
 have zw1:=(uh F7).size
 skip
 clear hN hF HS5 N0 F0
 obtain⟨c8,fc8,zc8⟩:=(uh F7).pn_ne (uh BXa) (by assumption) (by intro x hx c;simp at hx;subst hx;intro q;cases q)
 obtain⟨c9,fc9,zc9⟩:=(uh F7).pn_ne (uh BXb) (by assumption) (by intro x hx c;simp at hx;subst hx;intro q;cases q)
 have zp10:=(uh N6).lt
 have hb10:Below w1.heap.size w1 (w1.alloc (.cells #[.string s] 9)):=bw _
 have eT10:qbs (l++(sep last++atW x lx)) lastw1 [s]=((l++(sep last++atW x lx))++([32]++s.toList)):=by
  show(putL' (l++(sep last++atW x lx)) lastw1 s)=_
  rw[qav rfl m1 m2 m3,qba fiw1]
 have HP10:=qbl ((uh N6).bel hb10) [s] (by intro t ht;simp only[List.mem_cons,List.not_mem_nil,or_false]at ht;rcases ht with rfl<;>first|decide|assumption) (by simp) (by first|omega|(simp only[lqa,lqc,lqn];omega)) (w1.heap.size) (Bx.at w1 #[.string s] 9 (w1.heap.size) (by simp)) (by omega) (Or.inr ((Bx.at w1 #[.string s] 9 (w1.heap.size) (by simp)).nby (by intro x hx c;simp at hx;subst hx;intro q;cases q)))
 rw[eT10]at HP10
 go_wp2_with fail
 clear c8 fc8 zc8 c9 fc9 zc9
 refine HP10.mono ?_
 rintro e w2⟨rfl,bvw2,hN,hF⟩
 have N11:Hid (PN w2 B pb bvw2 ((l++(sep last++atW x lx))++([32]++s.toList)) s mv):=ai hN
 have F12:=ai ((uh F7).trans ((FN.of hb10).trans hF))
 have zw2:=(uh F12).size
 skip
 clear hN hF HP10 hb10 eT10 N6 F7
 obtain⟨c13,fc13,zc13⟩:=(uh F12).pn_ne (uh BXa) (by assumption) (by intro x hx c;simp at hx;subst hx;intro q;cases q)
 obtain⟨c14,fc14,zc14⟩:=(uh F12).pn_ne (uh BXb) (by assumption) (by intro x hx c;simp at hx;subst hx;intro q;cases q)
 obtain⟨c15,fc15,zc15⟩:=(uh F12).pn_ne (uh BXd) (by assumption) (by intro x hx c;simp at hx;subst hx;intro q;cases q)
 have HS16:=Hy w2 B pb _ _ s mv Q _ ly (uh N11) ((uh Vy).fnQ (uh HQ) (uh F12)) ((uh HQ).fn (uh F12)) ((uh HM).fn (uh F12)) (by omega) (by rw[qba hfi];simp only[lqa,lqc,lqn];omega) hB
 rw[qba hfi]at HS16
 go_wp2_with fail
 clear c13 fc13 zc13 c14 fc14 zc14 c15 fc15 zc15
 refine HS16.mono ?_
 rintro e w3⟨rfl,bvw3,lastw3,hN,fiw3,hF⟩
 have N17:=ai hN
 have F18:=ai ((uh F12).trans hF)
 have zw3:=(uh F18).size
 skip
 clear hN hF HS16 N11 F12
 go_wp2_with fail
 go_end0
 refine⟨rfl,bvw3,lastw3,?_,fiw3,FW.trans (uh F18)⟩
 show PN w3 B pb bvw3 (l++(sep last++(atW x lx++(32::(s.toList++(32::atW y ly)))))) lastw3 mv
 rw[show l++(sep last++(atW x lx++(32::(s.toList++(32::atW y ly)))))=(((l++(sep last++atW x lx))++([32]++s.toList))++([32]++atW y ly)) by simp]
 exact uh N17
end
end
section
open Go Go.RowKit Go.ChangeMaps Un
def opI(s:BA):Nat:=if s.toList=[60]then 0 else if s.toList=[43]then 1 else if s.toList=[45]then 2 else 3
theorem sh_opn(s:BA)(hs:s=kPlus\/s=kMinus\/s=kStar\/s=kLess)(n:Nat)(x y:Nd)(f t a:Nat):sh (.mk 7 s n [x,y] f t a)=atW x (opN (opI s) 1)++(32::(s.toList++(32::atW y (opN (opI s) 2))))/\lv (.mk 7 s n [x,y] f t a)-1=opN (opI s) 0:=by
 have e43:kPlus.toList=[43]:=qab _
 have e45:kMinus.toList=[45]:=qab _
 have e42:kStar.toList=[42]:=qab _
 have e60:kLess.toList=[60]:=qab _
 have a1:∀z:Nd,atW z 1=atP (lv z,sh z) 2:=fun z=>atW_at z 1 (by omega)
 have a2:∀z:Nd,atW z 2=atP (lv z,sh z) 3:=fun z=>atW_at z 2 (by omega)
 have a3:∀z:Nd,atW z 3=atP (lv z,sh z) 4:=fun z=>atW_at z 3 (by omega)
 rcases hs with rfl|rfl|rfl|rfl
 .have hi:opI kPlus=1:=by unfold opI;rw[e43];decide
  rw[hi];simp[sh,qcb,prL,gP,lv,e43,opN,a1,a2]
 .have hi:opI kMinus=2:=by unfold opI;rw[e45];decide
  rw[hi];simp[sh,qcb,prL,gP,lv,e45,opN,a1,a2]
 .have hi:opI kStar=3:=by unfold opI;rw[e42];decide
  rw[hi];simp[sh,qcb,prL,gP,lv,e42,opN,a2,a3]
 .have hi:opI kLess=0:=by unfold opI;rw[e60];decide
  rw[hi];simp[sh,qcb,prL,gP,lv,e60,opN,a1]
theorem opN_le(i j:Nat)(hi:i<4)(hj:j<3):opN i j<=4:=by
 match i,hi,j,hj with
 |0,_,0,_|0,_,1,_|0,_,2,_|1,_,0,_|1,_,1,_|1,_,2,_|2,_,0,_|2,_,1,_|2,_,2,_|3,_,0,_|3,_,1,_|3,_,2,_=>decide
theorem opI_lt(s:BA):opI s<4:=by
 unfold opI
 repeat' split
 all_goals omega
section
variable {w:World}
theorem opRule_C(s:BA)(x y:Nd)(Hx:AtEC x)(Hy:AtEC y)(hs:s=kPlus\/s=kMinus\/s=kStar\/s=kLess){B pb:Nat}{bv:Value}{l:List UInt8}{last:BA}{mv:Value}{Q:Nat->Prop}(f t:Int){tx ty:TypeId}{xx xy:Array Value}(o lx ly k:Nat)(hlx:lx<=4)(hly:ly<=4)(b0 b1 b2 b3:Nat)(n0:b0≠pb)(n1:b1≠pb)(n2:b2≠pb)(n3:b3≠pb)(h:PN w B pb bv l last mv)(hx0:PE w Q x (.iface tx (.agg xx)))(hy0:PE w Q y (.iface ty (.agg xy)))(hq:NT w pb Q)(hm:PM w pb mv)(h0:Bx w b0 #[.pointer (some ⟨pb,0,none⟩)])(h1:Bx w b1 #[.int .i64 (o:Int)])(h2:Bx w b2 #[.int .i64 (lx:Int)])(h3:Bx w b3 #[.int .i64 (ly:Int)])(hl:(l++(sep last++Un.par (decide (o<k)) (atW x lx++(32::(s.toList++(32::atW y ly)))))).length<=800000)(hB:B<=pb):
 Calls Tryz.prog 296 #[.agg #[.int .i64 f,.int .i64 t,.string s,.iface tx (.agg xx),.iface ty (.agg xy)],.int .i64 (k:Int),.pointer (some ⟨b0,0,none⟩),.pointer (some ⟨b1,0,none⟩),.pointer (some ⟨b2,0,none⟩),.pointer (some ⟨b3,0,none⟩)] w (qcc B pb mv (l++(sep last++Un.par (decide (o<k)) (atW x lx++(32::(s.toList++(32::atW y ly)))))) w):=by
 have hmf:∀(fn:Fn)(first cap:Array Value)(w:World),(Instr.makeFunc fn first cap).run Tryz.prog w=.ok (.func fn first cap) w:=fun _ _ _ _=>rfl
 have hzp:=h.lt
 have hbW:Below w.heap.size w (w.alloc (.cells #[.int .i64 f,.int .i64 t,.string s,.iface tx (.agg xx),.iface ty (.agg xy)] 422)):=bw _
 have FW:=FN.of (B:=B) (pb:=pb) hbW
 have BB:=Bx.new w #[.int .i64 f,.int .i64 t,.string s,.iface tx (.agg xx),.iface ty (.agg xy)] 422
 have HG:=group4_X (F:=297) (b0:=b0) (b1:=w.heap.size) (b2:=b2) (b3:=b3) (d:=decide (o<k)) (txt:=atW x lx++(32::(s.toList++(32::atW y ly))))
  (fun W=>PE W Q x (.iface tx (.agg xx))/\PE W Q y (.iface ty (.agg xy))/\NT W pb Q/\PM W pb mv/\Bx W b0 #[.pointer (some ⟨pb,0,none⟩)]/\Bx W w.heap.size #[.int .i64 f,.int .i64 t,.string s,.iface tx (.agg xx),.iface ty (.agg xy)]/\Bx W b2 #[.int .i64 (lx:Int)]/\Bx W b3 #[.int .i64 (ly:Int)])
  (fun w1 w2 i F=>⟨i.1.fnQ i.2.2.1 F,i.2.1.fnQ i.2.2.1 F,i.2.2.1.fn F,i.2.2.2.1.fn F,F.pn_ne i.2.2.2.2.1 n0 (by intro x hx c;simp at hx;subst hx;intro q;cases q),F.pn_ne i.2.2.2.2.2.1 (by omega) (by intro x hx c;simp at hx;subst hx;intro q;cases q),F.pn_ne i.2.2.2.2.2.2.1 n2 (by intro x hx c;simp at hx;subst hx;intro q;cases q),F.pn_ne i.2.2.2.2.2.2.2 n3 (by intro x hx c;simp at hx;subst hx;intro q;cases q)⟩)
  (fun _ _=>by kernel_rfl) (fun w1 bv l last hN i hb=>opIn_C s x y Hx Hy hs f t lx ly hlx hly b0 w.heap.size b2 b3 n0 (by omega) n2 n3 hN i.1 i.2.1 i.2.2.1 i.2.2.2.1 i.2.2.2.2.1 i.2.2.2.2.2.1 i.2.2.2.2.2.2.1 i.2.2.2.2.2.2.2 hb hB)
  (h.bel hbW) ⟨hx0.bel hbW,hy0.bel hbW,hq.fn FW,hm.fn FW,h0.below hbW,BB,h2.below hbW,h3.below hbW⟩ hl
 have k0:=(h0.below hbW).c 0
 have k1:=(h1.below hbW).c 0
 simp only[List.getElem?_toArray,List.getElem?_cons_zero]at k0 k1
 have hdd:decide ((o:Int)<(k:Int))=decide (o<k):=by simp
 clear hm h0 h1 h2 h3 BB
 go_enter Tryz.func296,Tryz.ntmps296
 go_wp2_with fail
 refine HG.mono ?_
 rintro e w1⟨rfl,bv1,last1,N1,fi1,F1⟩
 have HN:=ai N1
 have HF:=ai (FW.trans F1)
 clear N1 F1 HG
 go_wp2_with fail
 go_end0
 exact⟨rfl,bv1,last1,uh HN,fi1,uh HF⟩
end
end
section
open Go Go.RowKit Go.ChangeMaps Un
theorem zeroWOp(w:World):(zeroValue 367).run Tryz.prog w=.ok .nilFunc w:=by kernel_rfl
theorem got_op{s:BA}(hs:s=kPlus\/s=kMinus\/s=kStar\/s=kLess)(x:Nat->Nat->Nat):got s [(kLess,opW (x 0 0) (x 0 1) (x 0 2) (x 0 3)),(kPlus,opW (x 1 0) (x 1 1) (x 1 2) (x 1 3)),(kMinus,opW (x 2 0) (x 2 1) (x 2 2) (x 2 3)),(kStar,opW (x 3 0) (x 3 1) (x 3 2) (x 3 3))]=some (opW (x (opI s) 0) (x (opI s) 1) (x (opI s) 2) (x (opI s) 3)):=by
 rcases hs with rfl|rfl|rfl|rfl
 .rw[show opI kPlus=1 by unfold opI;rw[show kPlus.toList=[43]from qab _];decide];rfl
 .rw[show opI kMinus=2 by unfold opI;rw[show kMinus.toList=[45]from qab _];decide];rfl
 .rw[show opI kStar=3 by unfold opI;rw[show kStar.toList=[42]from qab _];decide];rfl
 .rw[show opI kLess=0 by unfold opI;rw[show kLess.toList=[60]from qab _];decide];rfl
section
variable {w:World}
theorem exprAt_op(s:BA)(n:Nat)(x y:Nd)(f t a:Nat)(Hx:AtEC x)(Hy:AtEC y):AtEC (.mk 7 s n [x,y] f t a):=by
 intro w B pb bv l last mv Q v k h hp hq hm hk hl hB
 cases hp with
 |lt=>rename_i hc _ _ _ _;exfalso;omega|op s n x y f t a vx vy hs hx hy=>
 have hx0:=hx
 have hy0:=hy
 obtain⟨tx,xx,rfl⟩:=hx.iface
 obtain⟨ty,xy,rfl⟩:=hy.iface
 obtain⟨esh,elv⟩:=sh_opn s hs n x y f t a
 have hW:atW (.mk 7 s n [x,y] f t a) k=Un.par (decide (opN (opI s) 0<k)) (atW x (opN (opI s) 1)++(32::(s.toList++(32::atW y (opN (opI s) 2))))):=by unfold atW;rw[elv,esh];rfl
 rw[hW]at hl⊢
 clear hW esh elv
 have hoi:=opI_lt s
 have l1:=opN_le (opI s) 1 hoi (by omega)
 have l2:=opN_le (opI s) 2 hoi (by omega)
 have hzp:=h.lt
 have hta:=taExpr_Binary_Binary
 have hbW:Below w.heap.size w (((w.alloc (.cells #[.pointer (some ⟨pb,0,none⟩)] 126)).alloc (.cells #[(.iface 422 (.agg #[.int .i64 (f:Int),.int .i64 (t:Int),.string s,.iface tx (.agg xx),.iface ty (.agg xy)]))] 216)).alloc (.cells #[.int .i64 (f:Int),.int .i64 (t:Int),.string s,.iface tx (.agg xx),.iface ty (.agg xy)] 422)):=((bw _).alloc (by simp) _).alloc (by simp;omega) _
 have X1:=((Bx.new w #[.pointer (some ⟨pb,0,none⟩)] 126).alloc (.cells #[(.iface 422 (.agg #[.int .i64 (f:Int),.int .i64 (t:Int),.string s,.iface tx (.agg xx),.iface ty (.agg xy)]))] 216)).alloc (.cells #[.int .i64 (f:Int),.int .i64 (t:Int),.string s,.iface tx (.agg xx),.iface ty (.agg xy)] 422)
 have X2:Bx (((w.alloc (.cells #[.pointer (some ⟨pb,0,none⟩)] 126)).alloc (.cells #[(.iface 422 (.agg #[.int .i64 (f:Int),.int .i64 (t:Int),.string s,.iface tx (.agg xx),.iface ty (.agg xy)]))] 216)).alloc (.cells #[.int .i64 (f:Int),.int .i64 (t:Int),.string s,.iface tx (.agg xx),.iface ty (.agg xy)] 422)) (w.heap.size+1) #[(.iface 422 (.agg #[.int .i64 (f:Int),.int .i64 (t:Int),.string s,.iface tx (.agg xx),.iface ty (.agg xy)]))]:=(Bx.at _ #[(.iface 422 (.agg #[.int .i64 (f:Int),.int .i64 (t:Int),.string s,.iface tx (.agg xx),.iface ty (.agg xy)]))] _ _ (by simp)).alloc _
 have X3:Bx (((w.alloc (.cells #[.pointer (some ⟨pb,0,none⟩)] 126)).alloc (.cells #[(.iface 422 (.agg #[.int .i64 (f:Int),.int .i64 (t:Int),.string s,.iface tx (.agg xx),.iface ty (.agg xy)]))] 216)).alloc (.cells #[.int .i64 (f:Int),.int .i64 (t:Int),.string s,.iface tx (.agg xx),.iface ty (.agg xy)] 422)) (w.heap.size+2) #[.int .i64 (f:Int),.int .i64 (t:Int),.string s,.iface tx (.agg xx),.iface ty (.agg xy)]:=Bx.at _ #[.int .i64 (f:Int),.int .i64 (t:Int),.string s,.iface tx (.agg xx),.iface ty (.agg xy)] _ _ (by simp)
 have HN:=h.bel hbW
 have F0:=FN.of (B:=B) (pb:=pb) hbW
 have HQ:=hq.fn F0
 have HM:=hm.fn F0
 have HX:=hx0.bel hbW
 have HY:=hy0.bel hbW
 obtain⟨R,hR⟩:∃R,R=qcc B pb mv (l++(sep last++Un.par (decide (opN (opI s) 0<k)) (atW x (opN (opI s) 1)++(32::(s.toList++(32::atW y (opN (opI s) 2))))))) w:=⟨_,rfl⟩
 rw[<-hR]
 clear h hq hm hx hy hx0 hy0 hbW
 go_enter Tryz.func196,Tryz.ntmps196
 go_wp2_with fail
 generalize(((w.alloc (.cells #[.pointer (some ⟨pb,0,none⟩)] 126)).alloc (.cells #[(.iface 422 (.agg #[.int .i64 (f:Int),.int .i64 (t:Int),.string s,.iface tx (.agg xx),.iface ty (.agg xy)]))] 216)).alloc (.cells #[.int .i64 (f:Int),.int .i64 (t:Int),.string s,.iface tx (.agg xx),.iface ty (.agg xy)] 422))=W0 at X1 X2 X3 HN HQ HM HX HY F0⊢
 generalize w.heap.size=b1 at X1 X2 X3 hzp⊢
 obtain⟨mb,xb,rfl,hmn,hMS,hXB⟩:=HM
 have hl0:∀W:World,W.heap=W0.heap->(Instr.lookup 135 (.map (some mb)) (.string s) false).run Tryz.prog W=.ok (opW (xb (opI s) 0) (xb (opI s) 1) (xb (opI s) 2) (xb (opI s) 3)) W:=fun W e=>by
  have:=(hMS.same (w':=W) (by rw[e])).look (KL.str Tryz.underlying9) Tryz.underlying135 (zeroWOp W) s trivial (fun _ _=>trivial) false
  rw[this,got_op hs xb]
  rfl
 have hlW:=hl0 W0 rfl
 have hlD:=hl0 W0.drew rfl
 obtain⟨ad,hbk,_⟩:=HN.bk
 have kp:W0.cell? ⟨pb,3,none⟩=some (.map (some mb)):=by simp[World.cell?,hbk]
 have k1:W0.cell? ⟨b1,0,none⟩=some (.pointer (some ⟨pb,0,none⟩)):=X1.c 0
 have c3:=X3.c
 have hcO:∀args w,(callFunc 296 args).run Tryz.prog w=.ok (.enter 296 args) w:=fun _ _=>by kernel_rfl
 have HOP:Hid (∀W,Below W0.heap.size W0 W->Calls Tryz.prog 296 #[.agg #[.int .i64 (f:Int),.int .i64 (t:Int),.string s,.iface tx (.agg xx),.iface ty (.agg xy)],.int .i64 (k:Int),.pointer (some ⟨xb (opI s) 0,0,none⟩),.pointer (some ⟨xb (opI s) 1,0,none⟩),.pointer (some ⟨xb (opI s) 2,0,none⟩),.pointer (some ⟨xb (opI s) 3,0,none⟩)] W fun e w'=>e=.returned (.tuple #[])/\R e w'):=ai (fun W hW=>by
  have FW:=FN.of (B:=B) (pb:=pb) hW
  have hb:=fun j hj=>hXB (opI s) j hoi hj
  refine(opRule_C s x y Hx Hy hs (f:Int) (t:Int) (opN (opI s) 0) (opN (opI s) 1) (opN (opI s) 2) k l1 l2 _ _ _ _ (hb 0 (by omega)).1 (hb 1 (by omega)).1 (hb 2 (by omega)).1 (hb 3 (by omega)).1 (HN.bel hW) (HX.bel hW) (HY.bel hW) (HQ.fn FW) (PM.fn ⟨mb,xb,rfl,hmn,hMS,hXB⟩ FW) ((hb 0 (by omega)).2.below hW) ((hb 1 (by omega)).2.below hW) ((hb 2 (by omega)).2.below hW) ((hb 3 (by omega)).2.below hW) hl hB).mono ?_
  rintro e w2⟨rfl,bv2,last2,hN2,fi2,hF2⟩
  refine⟨rfl,?_⟩
  rw[hR]
  exact⟨rfl,bv2,last2,hN2,fi2,F0.trans (FW.trans hF2)⟩)
 clear HX HY HQ F0 hR hl X1 X2 X3 hB hk l1 l2 Hx Hy hMS hXB hl0 HN hbk
 go_region_with(go_at_call 296;refine(uh HOP _ (Below.refl _ _).drew).mono ?_;rintro e w2⟨rfl,hR2⟩;have HR2:=ai hR2;clear hR2)
 all_goals(
  go_wp2_with fail
  go_end0
  exact uh HR2)
theorem at_atom{k:Nat}{s:BA}{n:Nat}{L:List Nd}{f t a:Nat}(H:AtomEC (.mk k s n L f t a))(hk:k=1\/k=2\/k=3\/k=4\/k=5\/k=6\/k=14):AtEC (.mk k s n L f t a):=qds (bareE_atom H (by intro k2 s2 n2 L2 f2 t2 a2 q;injection q with q1;omega)) (fun q=>by have q':k=7:=q;omega)
theorem atEC_all(HI:ItoaC){nd:Nd}(h:Sm nd):AtEC nd:=by
 induction h with
 |mk k s n L f t a hs hn hl hL ih=>
  intro w B pb bv l last mv Q v kk hN hp
  have hp0:=hp
  obtain⟨nd,e⟩:∃nd,nd=Nd.mk k s n L f t a:=⟨_,rfl⟩
  rw[<-e]at hp
  cases hp with
  |low s2 n2 f2 t2 a2=>injection e with e1 e2 e3 e4 e5 e6 e7;subst e1 e2 e3 e4 e5 e6 e7;exact at_atom (atomE_low _ _ _ _ _ hs) (by simp) w B pb bv l last mv Q _ kk hN hp0
  |up s2 n2 f2 t2 a2=>injection e with e1 e2 e3 e4 e5 e6 e7;subst e1 e2 e3 e4 e5 e6 e7;exact at_atom (atomE_up _ _ _ _ _ hs) (by simp) w B pb bv l last mv Q _ kk hN hp0
  |num s2 n2 f2 t2 a2=>injection e with e1 e2 e3 e4 e5 e6 e7;subst e1 e2 e3 e4 e5 e6 e7;exact at_atom (atomE_num _ _ _ _ _ HI hn) (by simp) w B pb bv l last mv Q _ kk hN hp0
  |word s2 n2 f2 t2 a2=>injection e with e1 e2 e3 e4 e5 e6 e7;subst e1 e2 e3 e4 e5 e6 e7;exact at_atom (atomE_word _ _ _ _ _) (by simp) w B pb bv l last mv Q _ kk hN hp0
  |unit s2 n2 f2 t2 a2=>injection e with e1 e2 e3 e4 e5 e6 e7;subst e1 e2 e3 e4 e5 e6 e7;exact at_atom (atomE_unit _ _ _ _ _) (by simp) w B pb bv l last mv Q _ kk hN hp0
  |pr s2 n2 x y f2 t2 a2=>injection e with e1 e2 e3 e4 e5 e6 e7;subst e1 e2 e3 e4 e5 e6 e7;exact at_atom (atomE_pr _ _ _ _ _ _ _ (ih x (by simp)) (ih y (by simp))) (by simp) w B pb bv l last mv Q _ kk hN hp0
  |of s2 n2 x y f2 t2 a2 vx vy hx hy=>injection e with e1 e2 e3 e4 e5 e6 e7;subst e1 e2 e3 e4 e5 e6 e7;exact at_atom (atomE_of _ _ _ _ _ _ _ (ih x (by simp)) (at_all y (WN.sm hy (hL y (by simp))))) (by simp) w B pb bv l last mv Q _ kk hN hp0
  |op s2 n2 x y f2 t2 a2=>injection e with e1 e2 e3 e4 e5 e6 e7;subst e1 e2 e3 e4 e5 e6 e7;exact exprAt_op _ _ _ _ _ _ _ (ih x (by simp)) (ih y (by simp)) w B pb bv l last mv Q _ kk hN hp0
  |call s2 n2 x y f2 t2 a2=>injection e with e1 e2 e3 e4 e5 e6 e7;subst e1 e2 e3 e4 e5 e6 e7;exact qds (bareE_call _ _ _ _ _ _ _ (ih x (by simp)) (ih y (by simp))) (by intro q;cases q) w B pb bv l last mv Q _ kk hN hp0
  |fn s2 n2 x f2 t2 a2=>injection e with e1 e2 e3 e4 e5 e6 e7;subst e1 e2 e3 e4 e5 e6 e7;exact qds (bareE_fn _ _ _ _ _ _ hs (ih x (by simp))) (by intro q;cases q) w B pb bv l last mv Q _ kk hN hp0
  |lt c s2 n2 x z f2 t2 a2 y vx vz hc=>injection e with e1 e2 e3 e4 e5 e6 e7;subst e1 e2 e3 e4 e5 e6 e7;exact qds (bareE_lt _ hc _ _ _ _ _ _ _ hs (ih x (by simp)) (ih z (by simp))) (by intro q;have q':c=7:=q;omega) w B pb bv l last mv Q _ kk hN hp0
  |ite s2 n2 x y z f2 t2 a2=>injection e with e1 e2 e3 e4 e5 e6 e7;subst e1 e2 e3 e4 e5 e6 e7;exact qds (bareE_ite _ _ _ _ _ _ _ _ (ih x (by simp)) (ih y (by simp)) (ih z (by simp))) (by intro q;cases q) w B pb bv l last mv Q _ kk hN hp0
  |mt s2 n2 x A f2 t2 a2=>injection e with e1 e2 e3 e4 e5 e6 e7;subst e1 e2 e3 e4 e5 e6 e7;exact qds (bareE_mt _ _ _ _ _ _ hl ih (fun y hy=>atPC_all HI (hL y hy))) (by intro q;cases q) w B pb bv l last mv Q _ kk hN hp0
end
end
section
open Go Go.RowKit Go.ChangeMaps Un
def SmD:Dc->Prop
 |.ty t vs ms=>t.text.size<=1000/\vs.length<=1001/\(∀v∈vs,v.text.size<=1000)/\ms.length<=1001/\∀m∈ms,Sm m|.lt _ t b=>t.text.size<=1000/\Sm b
theorem taDecl_Type(a0 a1 a2 a3 a4 a5 a6:Value)(w:World):(Instr.typeAssert (.iface 250 (.agg #[a0,a1,a2,a3,a4,a5,a6])) 129 250 true).run Tryz.prog w=.ok (.tuple #[(.agg #[a0,a1,a2,a3,a4,a5,a6]),.bool true]) w:=by kernel_rfl
theorem taDecl_Let_Type(x:Array Value)(w:World):(Instr.typeAssert (.iface 220 (.agg x)) 129 250 true).run Tryz.prog w=.ok (.tuple #[.agg #[.int .i64 0,.int .i64 0,.int .i64 0,.int .i64 0,.string ⟨#[]⟩,.slice none 0 0,.slice none 0 0],.bool false]) w:=by kernel_rfl
theorem taDecl_Let(a0 a1 a2 a3 a4 a5 a6:Value)(w:World):(Instr.typeAssert (.iface 220 (.agg #[a0,a1,a2,a3,a4,a5,a6])) 129 220 true).run Tryz.prog w=.ok (.tuple #[(.agg #[a0,a1,a2,a3,a4,a5,a6]),.bool true]) w:=by kernel_rfl
def divE(b:Bool):BA:=if b then kEq else kBar
theorem divE_list(b:Bool):(divE b).toList=if b then[61]else[124]:=by cases b<;>exact qab _
section
variable {w:World} {B pb:Nat} {bv:Value} {l:List UInt8} {last:BA} {mv:Value}
theorem endLine_C(h:PN w B pb bv l last mv)(hl:l.length<=800000):Calls Tryz.prog 113 #[.pointer (some ⟨pb,0,none⟩)] w fun e w'=>e=.returned (.tuple #[])/\∃bv',PN w' B pb bv' (l++[59,10]) ⟨#[]⟩ mv/\FN B pb w w':=by
 have zq:=h.lt
 have hbE:Below w.heap.size w (w.alloc (.cells #[.string qeb] 9)):=bw _
 have eT:qbs l last [qeb]=l++[59]:=by
  show(putL' _ last qeb)=_
  rw[qey (qab [59]) (by decide)]
 have HPE:=qbl (h.bel hbE) [qeb] (by intro t ht;simp only[List.mem_cons,List.not_mem_nil,or_false]at ht;subst ht;decide) (by simp) (by omega) w.heap.size (Bx.new w #[.string qeb] 9) (by omega) (Or.inr ((Bx.new w #[.string qeb] 9).nby (by intro x hx c;simp at hx;subst hx;intro q;cases q)))
 rw[eT]at HPE
 clear h
 go_enter Tryz.func113,Tryz.ntmps113
 go_wp2_with fail
 refine HPE.mono ?_
 rintro e w1⟨rfl,bv1,hN1,hF1⟩
 have HN1:=ai hN1
 have HF1:=ai ((FN.of hbE).trans hF1)
 obtain⟨c2,f2⟩:=hN1.cells
 clear hN1 hF1 HPE
 go_wp2_with(go_at_call 197;refine(writeByte_C (uh HN1) 10 (by simp;omega)).mono ?_;rintro e w2⟨rfl,bv2,hN2,hF2⟩;have HN2:=ai hN2;have HF2:=ai ((uh HF1).trans (Fr.fn (uh HN1) hF2));obtain⟨c3,f3⟩:=hN2.cells;clear hN2 hF2)
 go_end0
 refine⟨rfl,bv2,?_,(uh HF2).trans (FN.last_ _ _ _ _)⟩
 have:=(uh HN2).last_ ⟨#[]⟩
 simpa using this
def VsRel(B pb:Nat)(mv:Value)(l:List UInt8)(vs:List Pu.Tok)(w:World)(gk:Nat)(v:Value)(wr:World):Prop:=
 ∃(j:Nat)(bv':Value)(last':BA),Hid (gk=vs.length-j)/\j<=vs.length/\v=.int .i64 (j:Int)/\PN wr B pb bv' (l++vsW (vs.take j)) last' mv/\Fine last'/\FN B pb w wr
def MkRel(B pb:Nat)(mv:Value)(l:List UInt8)(ms:List Nd)(w:World)(gk:Nat)(v:Value)(wr:World):Prop:=
 ∃(j:Nat)(bv':Value)(last':BA),Hid (gk=ms.length-j)/\j<=ms.length/\v=.int .i64 (j:Int)/\PN wr B pb bv' (l++mksW true (ms.take j)) last' mv/\Fine last'/\FN B pb w wr
theorem QMaker.sh{Q:Nat->Prop}{s:BA}{n:Nat}{L:List Nd}{f t a:Nat}{vs:Nat->Value}(hr:∀i(h:i<L.length),PT w Q L[i] (vs i)):sh (.mk 2 s n L f t a)=s.toList++(L.map wT).flatMap fun p=>32::p 2:=by
 rw[sh_up]
 congr 1
 unfold qa4
 rw[List.flatMap_map,List.flatMap_map]
 have:∀x∈L,(32::wT x 2)=32::atP (lv x,Go.Proofs.YtoceemjbcgmojaaGreatDoor.sh x) 5:=fun x hx=>by
  obtain⟨i,hi,rfl⟩:=List.getElem_of_mem hx
  rw[(hr i hi).sh3.2.2]
 clear hr
 induction L with
 |nil=>rfl|cons y L ihL=>simp only[List.flatMap_cons];rw[this y (by simp),ihL (fun x hx=>this x (by simp[hx]))]
theorem typeDeclW_C(t:Pu.Tok)(vs:List Pu.Tok)(ms:List Nd)(hS:SmD (.ty t vs ms)){Q:Nat->Prop}(f u:Int){vv vm:Value}(h:PN w B pb bv l last mv)(hU:UpN t.text)(hV:RowV QName 3 w Q vs vv)(hM:RowV QMaker 6 w Q ms vm)(hq:NQ w pb Q)(hl:(l++(sep last++([116,121,112,101]++(([32]++t.text.toList)++(vsW vs++mksW true ms))))).length<=800000)(hB:B<=pb):
 Calls Tryz.prog 111 #[.pointer (some ⟨pb,0,none⟩),.agg #[.int .i64 f,.int .i64 u,.int .i64 (t.frm:Int),.int .i64 (t.to:Int),.string t.text,vv,vm]] w (qcc B pb mv (l++(sep last++([116,121,112,101]++(([32]++t.text.toList)++(vsW vs++mksW true ms))))) w):=by
 simp only[lqa,lqc,lqn]at hl
 obtain⟨hs1,hs2,hs3,hs4,hs5⟩:=hS
 obtain⟨va,vc,vcs,rfl,hV1,hV2⟩:=hV
 obtain⟨ma,mc,mcs,rfl,hM1,hM2⟩:=hM
 have HV1:=ai hV1
 have HV2:=ai hV2
 have HM1:=ai hM1
 have HM2:=ai hM2
 have Hq:=ai hq
 have hs3:=ai hs3
 have hs5:=ai hs5
 clear hV1 hV2 hM1 hM2
 obtain⟨n1,n2,n3⟩:=up_ne hU
 have hfu:=fine_up hU
 have hbW:Below w.heap.size w (w.alloc (.cells #[.int .i64 f,.int .i64 u,.int .i64 (t.frm:Int),.int .i64 (t.to:Int),.string t.text,.slice va vs.length vc,.slice ma ms.length mc] 250)):=(bw (.cells #[.int .i64 f,.int .i64 u,.int .i64 (t.frm:Int),.int .i64 (t.to:Int),.string t.text,.slice va vs.length vc,.slice ma ms.length mc] 250))
 have zW:(w.alloc (.cells #[.int .i64 f,.int .i64 u,.int .i64 (t.frm:Int),.int .i64 (t.to:Int),.string t.text,.slice va vs.length vc,.slice ma ms.length mc] 250)).heap.size=w.heap.size+1:=by simp
 have FW:=FN.of (B:=B) (pb:=pb) hbW
 have hzp:=h.lt
 have N0:=ai (h.bel hbW)
 have F0:=ai (FN.refl B pb (w.alloc (.cells #[.int .i64 f,.int .i64 u,.int .i64 (t.frm:Int),.int .i64 (t.to:Int),.string t.text,.slice va vs.length vc,.slice ma ms.length mc] 250)))
 have BXb:=ai (Bx.at w #[.int .i64 f,.int .i64 u,.int .i64 (t.frm:Int),.int .i64 (t.to:Int),.string t.text,.slice va vs.length vc,.slice ma ms.length mc] 250 (w.heap.size) (by simp))
 have HQ:=ai (hq.fn FW)
 clear h hq
 go_enter Tryz.func111,Tryz.ntmps111
 obtain⟨c1,fc1,zc1⟩:=(uh F0).pn_ne (uh BXb) (by omega) (by intro x hx c;simp at hx;subst hx;intro q;cases q)
 have zp2:=(uh N0).lt
 rw[zW]at zp2
 have hb2:Below (w.alloc (.cells #[.int .i64 f,.int .i64 u,.int .i64 (t.frm:Int),.int .i64 (t.to:Int),.string t.text,.slice va vs.length vc,.slice ma ms.length mc] 250)).heap.size (w.alloc (.cells #[.int .i64 f,.int .i64 u,.int .i64 (t.frm:Int),.int .i64 (t.to:Int),.string t.text,.slice va vs.length vc,.slice ma ms.length mc] 250)) ((w.alloc (.cells #[.int .i64 f,.int .i64 u,.int .i64 (t.frm:Int),.int .i64 (t.to:Int),.string t.text,.slice va vs.length vc,.slice ma ms.length mc] 250)).alloc (.cells #[.string qce,.string t.text] 9)):=bw _
 have eT2:qbs l last [qce,t.text]=((l++(sep last++[116,121,112,101]))++([32]++t.text.toList)):=by
  show(putL' (putL' l last qce) qce t.text)=_
  rw[qav (qab [116,121,112,101]) (by decide) (by decide) (by decide),qav rfl n1 n2 n3,qb7 (qab [116,121,112,101]) (by decide) (by decide)]
 have HP2:=qbl ((uh N0).bel hb2) [qce,t.text] (by intro t ht;simp only[List.mem_cons,List.not_mem_nil,or_false]at ht;rcases ht with rfl|rfl<;>first|decide|assumption) (by simp) (by first|omega|(simp only[lqa,lqc,lqn];omega)) (w.heap.size+1) (Bx.at (w.alloc (.cells #[.int .i64 f,.int .i64 u,.int .i64 (t.frm:Int),.int .i64 (t.to:Int),.string t.text,.slice va vs.length vc,.slice ma ms.length mc] 250)) #[.string qce,.string t.text] 9 (w.heap.size+1) (by simp)) (by omega) (Or.inr ((Bx.at (w.alloc (.cells #[.int .i64 f,.int .i64 u,.int .i64 (t.frm:Int),.int .i64 (t.to:Int),.string t.text,.slice va vs.length vc,.slice ma ms.length mc] 250)) #[.string qce,.string t.text] 9 (w.heap.size+1) (by simp)).nby (by intro x hx c;simp at hx;subst hx;intro q;cases q)))
 rw[eT2]at HP2
 go_wp2_with fail
 clear c1 fc1 zc1
 refine HP2.mono ?_
 rintro e w1⟨rfl,bvw1,hN,hF⟩
 have N3:Hid (PN w1 B pb bvw1 ((l++(sep last++[116,121,112,101]))++([32]++t.text.toList)) t.text mv):=ai hN
 have F4:=ai ((uh F0).trans ((FN.of hb2).trans hF))
 have zw1:=(uh F4).size
 rw[zW]at zw1
 clear hN hF HP2 hb2 eT2 N0 F0
 obtain⟨c5,fc5,zc5⟩:=(uh F4).pn_ne (uh BXb) (by omega) (by intro x hx c;simp at hx;subst hx;intro q;cases q)
 go_wp2_with fail
 go_loopg[17] vs.length (fun gk v wr=>VsRel B pb mv (l++(sep last++[116,121,112,101])++([32]++t.text.toList)) vs (w.alloc (.cells #[.int .i64 f,.int .i64 u,.int .i64 (t.frm:Int),.int .i64 (t.to:Int),.string t.text,.slice va vs.length vc,.slice ma ms.length mc] 250)) gk v wr)
 case atStart=>exact⟨0,bvw1,t.text,ai rfl,Nat.zero_le _,rfl,by simpa[vsW]using uh N3,hfu,uh F4⟩
 case round=>
  clear N3 F4 HQ c5 fc5 zc5
  obtain⟨j,bv2,last2,hgk,hj,rfl,N2,fi2,FB2⟩:=hrel
  have F2:=FW.trans FB2
  have zF2:=F2.size
  by_cases hjl:j<vs.length
  .have hd:(j:Int)<(vs.length:Int):=by omega
   rcases uh HV1 with h0|⟨g,rfl,hg,hgz,hc⟩
   .rw[h0]at hjl;exact absurd hjl (by simp)
   obtain⟨e0,e1,e2,eq,et⟩:=uh HV2 j hjl
   have k0:=hc j hjl 0 (by omega)
   have k1:=hc j hjl 1 (by omega)
   have k2:=hc j hjl 2 (by omega)
   rw[e0]at k0
   rw[e1]at k1
   rw[e2]at k2
   clear e0 e1 e2 hc
   have cb:∀o,wr.cell? ⟨g,o,none⟩=w.cell? ⟨g,o,none⟩:=fun o=>World.cell?_of_block (a:=⟨g,o,none⟩) (F2.block g hgz (uh Hq g hg).2.1 (Or.inr (uh Hq g hg).2.2))
   rw[<-cb]at k0 k1 k2
   rw[Nat.add_zero]at k0
   clear cb et
   have ft:=vsW_take vs j hjl
   have fl:=vsW_le vs (j+1)
   rw[ft]at fl
   simp only[lqa,lqc,lqn]at fl
   have hvs:=uh hs3 _ (List.getElem_mem hjl)
   have hcat:=quo_cat (s:=vs[j].text) eq
   have hne:vs[j].text.toList≠[41]/\vs[j].text.toList≠[44]/\vs[j].text.toList≠[59]/\Fine vs[j].text:=by obtain⟨rr,er⟩:=eq;unfold Fine;rw[er];simp
   obtain⟨d1,d2,d3,dfi⟩:=hne
   have HFT:=ai ft
   clear ft eq
   generalize hx:vs[j]=x at*
   have HX:=ai hx
   clear hx
   have hbW:Below wr.heap.size wr (wr.alloc (.cells #[.int .i64 (x.frm:Int),.int .i64 (x.to:Int),.string (x.text.extract 1 x.text.size)] 214)):=(bw (.cells #[.int .i64 (x.frm:Int),.int .i64 (x.to:Int),.string (x.text.extract 1 x.text.size)] 214))
   have zW:(wr.alloc (.cells #[.int .i64 (x.frm:Int),.int .i64 (x.to:Int),.string (x.text.extract 1 x.text.size)] 214)).heap.size=wr.heap.size+1:=by simp
   have FW:=FN.of (B:=B) (pb:=pb) hbW
   have hzp:=N2.lt
   have N0:=ai (N2.bel hbW)
   have F0:=ai (FN.refl B pb (wr.alloc (.cells #[.int .i64 (x.frm:Int),.int .i64 (x.to:Int),.string (x.text.extract 1 x.text.size)] 214)))
   have BXnm:=ai (Bx.at wr #[.int .i64 (x.frm:Int),.int .i64 (x.to:Int),.string (x.text.extract 1 x.text.size)] 214 (wr.heap.size) (by simp))
   have HCAT:=hcat
   have zp401:=(uh N0).lt
   rw[zW]at zp401
   have hb401:Below (wr.alloc (.cells #[.int .i64 (x.frm:Int),.int .i64 (x.to:Int),.string (x.text.extract 1 x.text.size)] 214)).heap.size (wr.alloc (.cells #[.int .i64 (x.frm:Int),.int .i64 (x.to:Int),.string (x.text.extract 1 x.text.size)] 214)) ((wr.alloc (.cells #[.int .i64 (x.frm:Int),.int .i64 (x.to:Int),.string (x.text.extract 1 x.text.size)] 214)).alloc (.cells #[.string x.text] 9)):=bw _
   have eT401:qbs ((l++(sep last++[116,121,112,101])++([32]++t.text.toList))++vsW (vs.take j)) last2 [x.text]=(((l++(sep last++[116,121,112,101])++([32]++t.text.toList))++vsW (vs.take j))++([32]++x.text.toList)):=by
    show(putL' ((l++(sep last++[116,121,112,101])++([32]++t.text.toList))++vsW (vs.take j)) last2 x.text)=_
    rw[qav rfl d1 d2 d3,qba fi2]
   have HP401:=qbl ((uh N0).bel hb401) [x.text] (by intro t ht;simp only[List.mem_cons,List.not_mem_nil,or_false]at ht;rcases ht with rfl<;>first|decide|assumption) (by simp) (by first|omega|(simp only[lqa,lqc,lqn];omega)) (wr.heap.size+1) (Bx.at (wr.alloc (.cells #[.int .i64 (x.frm:Int),.int .i64 (x.to:Int),.string (x.text.extract 1 x.text.size)] 214)) #[.string x.text] 9 (wr.heap.size+1) (by simp)) (by omega) (Or.inr ((Bx.at (wr.alloc (.cells #[.int .i64 (x.frm:Int),.int .i64 (x.to:Int),.string (x.text.extract 1 x.text.size)] 214)) #[.string x.text] 9 (wr.heap.size+1) (by simp)).nby (by intro x hx c;simp at hx;subst hx;intro q;cases q)))
   rw[eT401]at HP401
   go_wp2_with fail
   refine HP401.mono ?_
   rintro e w3⟨rfl,bvw3,hN,hF⟩
   have N402:Hid (PN w3 B pb bvw3 (((l++(sep last++[116,121,112,101])++([32]++t.text.toList))++vsW (vs.take j))++([32]++x.text.toList)) x.text mv):=ai hN
   have F403:=ai ((uh F0).trans ((FN.of hb401).trans hF))
   have zw3:=(uh F403).size
   rw[zW]at zw3
   clear hN hF HP401 hb401 eT401 N0 F0
   go_wp2_with fail
   go_roundg(vs.length-(j+1))
   case measure=>rw[uh hgk];omega
   case rel=>
    refine⟨j+1,bvw3,x.text,ai rfl,by omega,by go_num,?_,dfi,FB2.trans (FW.trans (uh F403))⟩
    rw[uh HFT]
    have e9:(l++(sep last++[116,121,112,101])++([32]++t.text.toList))++(vsW (vs.take j)++([32]++x.text.toList))=(((l++(sep last++[116,121,112,101])++([32]++t.text.toList))++vsW (vs.take j))++([32]++x.text.toList)):=by simp
    rw[e9]
    exact uh N402
  .have hd:decide ((j:Int)<(vs.length:Int))=false:=by simp;omega
   have ej:j=vs.length:=by omega
   subst ej
   rw[List.take_length]at N2
   clear hd
   have hd:decide ((vs.length:Int)<(vs.length:Int))=false:=by simp
   obtain⟨c1,fc1,zc1⟩:=FB2.pn_ne (uh BXb) (by omega) (by intro x hx c;simp at hx;subst hx;intro q;cases q)
   go_wp2_with fail
   go_loopg[31] ms.length (fun gk v wr=>MkRel B pb mv ((l++(sep last++[116,121,112,101])++([32]++t.text.toList))++vsW vs) ms w gk v wr)
   case atStart=>exact⟨0,bv2,last2,ai rfl,Nat.zero_le _,rfl,by simpa[mksW]using N2,fi2,F2⟩
   case round=>
    clear c1 fc1 zc1 hd FB2 F2 fi2 N2 zF2 hgk hjl hj
    obtain⟨j,bv3,last3,hgk,hj,rfl,N3,fi3,F3⟩:=hrel
    have zF3:=F3.size
    by_cases hjl:j<ms.length
    .have hd:(j:Int)<(ms.length:Int):=by omega
     rcases uh HM1 with h0|⟨g,rfl,hg,hgz,hc⟩
     .rw[h0]at hjl;exact absurd hjl (by simp)
     obtain⟨ns,nn,nL,nf,nt,na,ny,nv,end_,e0,e1,e2,e3,e4,e5,eu,ey,er⟩:=uh HM2 j hjl
     have k0:=hc j hjl 0 (by omega)
     have k1:=hc j hjl 1 (by omega)
     have k2:=hc j hjl 2 (by omega)
     have k3:=hc j hjl 3 (by omega)
     have k4:=hc j hjl 4 (by omega)
     have k5:=hc j hjl 5 (by omega)
     rw[e0]at k0
     rw[e1]at k1
     rw[e2]at k2
     rw[e3]at k3
     rw[e4]at k4
     rw[e5]at k5
     clear e0 e1 e2 e3 e4 e5 hc ey
     have cb:∀o,wr.cell? ⟨g,o,none⟩=w.cell? ⟨g,o,none⟩:=fun o=>World.cell?_of_block (a:=⟨g,o,none⟩) (F3.block g hgz (uh Hq g hg).2.1 (Or.inr (uh Hq g hg).2.2))
     rw[<-cb]at k0 k1 k2 k3 k4 k5
     rw[Nat.add_zero]at k0
     clear cb
     have hsm:=uh hs5 _ (List.getElem_mem hjl)
     rw[end_]at hsm
     obtain⟨_,_,_,_,_,_,_,hz1,_,hz3,hz4⟩:=hsm
     obtain⟨xa,xc,xcs,rfl,hx1,hx2⟩:=er
     have hpt:∀i(h:i<nL.length),PT w Q nL[i] (xcs i 0):=hx2
     have hsh:sh ms[j]=ns.toList++(nL.map wT).flatMap fun p=>32::p 2:=by rw[end_];exact QMaker.sh hpt
     have hatc:∀i(h:i<nL.length),AtC nL[i]:=fun i hi=>at_all _ (WN.sm (hpt i hi) (hz4 _ (List.getElem_mem hi)))
     have ft:=mksW_take true ms j hjl
     have fl:=mksW_le true ms (j+1)
     rw[ft]at fl
     simp only[lqa,lqc,lqn]at fl
     obtain⟨db,hdb⟩:∃db,db=(true&&j==0):=⟨_,rfl⟩
     rw[<-hdb]at ft fl
     have hdl:=divE_list db
     have hds:(divE db).size<=1000:=by cases db<;>decide
     have hdn:(divE db).toList≠[41]/\(divE db).toList≠[44]/\(divE db).toList≠[59]/\Fine (divE db):=by unfold Fine;rw[hdl];cases db<;>simp
     obtain⟨d1,d2,d3,dfi⟩:=hdn
     have HD:∀W:World,Calls Tryz.prog 194 #[.int .i64 (j:Int),.string kEq] W fun e w'=>e=.returned (.string (divE db))/\W=w':=fun W=>(divider_C j kEq).mono fun e w' q=>⟨by rw[q.1,hdb];unfold divE;by_cases hj0:j=0<;>simp[hj0],q.2⟩
     rw[<-hdl]at fl
     have HFT:=ai ft
     have Hdl:=ai hdl
     have hq3:=(uh Hq).fn F3
     clear ft hdb hdl
     have HX1:=ai hx1
     have HPT:=ai hpt
     have HSH:=ai hsh
     rw[hsh]at fl
     simp only[lqa]at fl
     clear hx1 hx2 hpt hsh hz4 end_
     have hbW:Below wr.heap.size wr (wr.alloc (.cells #[.int .i64 (nf:Int),.int .i64 (nt:Int),.int .i64 (na:Int),.int .i64 (ny:Int),.string ns,.slice xa nL.length xc] 372)):=(bw (.cells #[.int .i64 (nf:Int),.int .i64 (nt:Int),.int .i64 (na:Int),.int .i64 (ny:Int),.string ns,.slice xa nL.length xc] 372))
     have zW:(wr.alloc (.cells #[.int .i64 (nf:Int),.int .i64 (nt:Int),.int .i64 (na:Int),.int .i64 (ny:Int),.string ns,.slice xa nL.length xc] 372)).heap.size=wr.heap.size+1:=by simp
     have FW:=FN.of (B:=B) (pb:=pb) hbW
     have hzp:=N3.lt
     have N0:=ai (N3.bel hbW)
     have F0:=ai (FN.refl B pb (wr.alloc (.cells #[.int .i64 (nf:Int),.int .i64 (nt:Int),.int .i64 (na:Int),.int .i64 (ny:Int),.string ns,.slice xa nL.length xc] 372)))
     have BXmk:=ai (Bx.at wr #[.int .i64 (nf:Int),.int .i64 (nt:Int),.int .i64 (na:Int),.int .i64 (ny:Int),.string ns,.slice xa nL.length xc] 372 (wr.heap.size) (by simp))
     have HQ3:=ai (hq3.fn FW)
     clear hq3
     go_wp2_with fail
     refine(HD _).mono ?_
     rintro e w'⟨rfl,rfl⟩
     clear HD
     have zp701:=(uh N0).lt
     rw[zW]at zp701
     have hb701:Below (wr.alloc (.cells #[.int .i64 (nf:Int),.int .i64 (nt:Int),.int .i64 (na:Int),.int .i64 (ny:Int),.string ns,.slice xa nL.length xc] 372)).heap.size (wr.alloc (.cells #[.int .i64 (nf:Int),.int .i64 (nt:Int),.int .i64 (na:Int),.int .i64 (ny:Int),.string ns,.slice xa nL.length xc] 372)) ((wr.alloc (.cells #[.int .i64 (nf:Int),.int .i64 (nt:Int),.int .i64 (na:Int),.int .i64 (ny:Int),.string ns,.slice xa nL.length xc] 372)).alloc (.cells #[.string (divE db)] 9)):=bw _
     have eT701:qbs (((l++(sep last++[116,121,112,101])++([32]++t.text.toList))++vsW vs)++mksW true (ms.take j)) last3 [(divE db)]=((((l++(sep last++[116,121,112,101])++([32]++t.text.toList))++vsW vs)++mksW true (ms.take j))++([32]++(divE db).toList)):=by
      show(putL' (((l++(sep last++[116,121,112,101])++([32]++t.text.toList))++vsW vs)++mksW true (ms.take j)) last3 (divE db))=_
      rw[qav rfl d1 d2 d3,qba fi3]
     have HP701:=qbl ((uh N0).bel hb701) [(divE db)] (by intro t ht;simp only[List.mem_cons,List.not_mem_nil,or_false]at ht;rcases ht with rfl<;>first|decide|assumption) (by simp) (by first|omega|(simp only[lqa,lqc,lqn];omega)) (wr.heap.size+1) (Bx.at (wr.alloc (.cells #[.int .i64 (nf:Int),.int .i64 (nt:Int),.int .i64 (na:Int),.int .i64 (ny:Int),.string ns,.slice xa nL.length xc] 372)) #[.string (divE db)] 9 (wr.heap.size+1) (by simp)) (by omega) (Or.inr ((Bx.at (wr.alloc (.cells #[.int .i64 (nf:Int),.int .i64 (nt:Int),.int .i64 (na:Int),.int .i64 (ny:Int),.string ns,.slice xa nL.length xc] 372)) #[.string (divE db)] 9 (wr.heap.size+1) (by simp)).nby (by intro x hx c;simp at hx;subst hx;intro q;cases q)))
     rw[eT701]at HP701
     go_wp2_with fail
     refine HP701.mono ?_
     rintro e w5⟨rfl,bvw5,hN,hF⟩
     have N702:Hid (PN w5 B pb bvw5 ((((l++(sep last++[116,121,112,101])++([32]++t.text.toList))++vsW vs)++mksW true (ms.take j))++([32]++(divE db).toList)) (divE db) mv):=ai hN
     have F703:=ai ((uh F0).trans ((FN.of hb701).trans hF))
     have zw5:=(uh F703).size
     rw[zW]at zw5
     clear hN hF HP701 hb701 eT701 N0 F0
     obtain⟨c704,fc704,zc704⟩:=(uh F703).pn_ne (uh BXmk) (by omega) (by intro x hx c;simp at hx;subst hx;intro q;cases q)
     have FX:=F3.trans (FW.trans (uh F703))
     have HS705:=named_C ns eu hz1 (na:Int) (ny:Int) nL xa xc (fun i=>xcs i 0) hz3 (uh N702) ((uh HQ3).fn (uh F703)) hB ((uh HX1).imp id fun ⟨g',e1,e2,e3,e4⟩=>⟨g',e1,e2,Nat.lt_of_lt_of_le e3 FX.size,fun i hi=>by have:=e4 i hi 0 (by omega);rw[World.cell?_of_block (a:=⟨g',i,none⟩) (FX.block g' e3 (uh Hq g' e2).2.1 (Or.inr (uh Hq g' e2).2.2))];simpa using this⟩) (fun i hi=>(uh HPT i hi).fnQ (uh Hq) FX) hatc (by rw[qba dfi];simp only[lqa,lqc,lqn];omega)
     rw[qba dfi]at HS705
     go_wp2_with fail
     clear c704 fc704 zc704
     refine HS705.mono ?_
     rintro e w6⟨rfl,bvw6,lastw6,hN,fiw6,hF⟩
     have N706:=ai hN
     have F707:=ai ((uh F703).trans hF)
     have zw6:=(uh F707).size
     rw[zW]at zw6
     clear hN hF HS705 N702 F703
     go_wp2_with fail
     go_roundg(ms.length-(j+1))
     case measure=>rw[uh hgk];omega
     case rel=>
      refine⟨j+1,bvw6,lastw6,ai rfl,by omega,by go_num,?_,fiw6,F3.trans (FW.trans (uh F707))⟩
      rw[uh HFT]
      have e9:((l++(sep last++[116,121,112,101])++([32]++t.text.toList))++vsW vs)++(mksW true (ms.take j)++(([32]++(if db then[61]else[124]))++([32]++sh ms[j])))=(((((l++(sep last++[116,121,112,101])++([32]++t.text.toList))++vsW vs)++mksW true (ms.take j))++([32]++(divE db).toList))++([32]++(ns.toList++(nL.map wT).flatMap fun p=>32::p 2))):=by rw[uh Hdl,uh HSH];simp
      rw[e9]
      exact uh N706
    .have hd:decide ((j:Int)<(ms.length:Int))=false:=by simp;omega
     have ej:j=ms.length:=by omega
     subst ej
     rw[List.take_length]at N3
     go_wp2_with fail
     go_end0
     refine⟨rfl,bv3,last3,?_,fi3,F3⟩
     show PN wr B pb bv3 (l++(sep last++([116,121,112,101]++(([32]++t.text.toList)++(vsW vs++mksW true ms))))) last3 mv
     rw[show l++(sep last++([116,121,112,101]++(([32]++t.text.toList)++(vsW vs++mksW true ms))))=((l++(sep last++[116,121,112,101])++([32]++t.text.toList))++vsW vs)++mksW true ms by simp]
     exact N3
end
end
section
open Go Go.RowKit Go.ChangeMaps Un
section
variable {w:World} {B pb:Nat} {bv:Value} {l:List UInt8} {last:BA} {mv:Value}
def DeclPost(B pb:Nat)(mv:Value)(txt:List UInt8)(w:World)(e:Ending)(w':World):Prop:=
 e=.returned (.tuple #[])/\∃bv',PN w' B pb bv' txt ⟨#[]⟩ mv/\FN B pb w w'
theorem sep_nil:sep ⟨#[]⟩=[]:=by unfold sep;rw[if_pos (Or.inl (qab []))]
theorem declW_C(HI:ItoaC)(d:Dc)(hS:SmD d){Q:Nat->Prop}{v:Value}(h:PN w B pb bv l ⟨#[]⟩ mv)(hv:PD w Q d v)(hq:NT w pb Q)(hm:PM w pb mv)(hl:(l++dcE d).length<=800000)(hB:B<=pb):
 Calls Tryz.prog 52 #[.pointer (some ⟨pb,0,none⟩),v] w (DeclPost B pb mv (l++dcE d) w):=by
 have hl':(l++(sep ⟨#[]⟩++dcS d)).length<=800000:=by rw[sep_nil];simp[dcE]at hl⊢;omega
 cases d with
 |ty t vs ms=>
  obtain⟨f,u,vv,vm,rfl,hU,-,hV,-,hM⟩:=hv
  have hV':=hV
  have hM':=hM
  obtain⟨va,vc,vcs,rfl,-,-⟩:=hV'
  obtain⟨ma,mc,mcs,rfl,-,-⟩:=hM'
  have hbW:Below w.heap.size w (w.alloc (.cells #[.int .i64 f,.int .i64 u,.int .i64 (t.frm:Int),.int .i64 (t.to:Int),.string t.text,.slice va vs.length vc,.slice ma ms.length mc] 250)):=bw _
  have FW:=FN.of (B:=B) (pb:=pb) hbW
  have mv1:∀b,Q b->b<w.heap.size->(w.alloc (.cells #[.int .i64 f,.int .i64 u,.int .i64 (t.frm:Int),.int .i64 (t.to:Int),.string t.text,.slice va vs.length vc,.slice ma ms.length mc] 250)).heap[b]? =w.heap[b]? :=fun b p z=>FW.block b z (hq.q b p).2.1 (Or.inr (hq.q b p).2.2)
  have HT:=ai (typeDeclW_C t vs ms hS f u (h.bel hbW) hU (hV.move qck hbW.size mv1 fun _ p _=>p) (hM.move qca hbW.size mv1 fun _ p _=>p) (hq.fn FW).q hl' hB)
  have hta:=taDecl_Type
  obtain⟨c1,fc1,zc1⟩:=Bx.new w #[.int .i64 f,.int .i64 u,.int .i64 (t.frm:Int),.int .i64 (t.to:Int),.string t.text,.slice va vs.length vc,.slice ma ms.length mc] 250
  clear h hV hM hq hm mv1
  go_enter Tryz.func52,Tryz.ntmps52
  go_wp2_with fail
  refine(uh HT).mono ?_
  rintro e w1⟨rfl,bv1,last1,hN1,fi1,hF1⟩
  have HE:=ai (endLine_C hN1 hl')
  have HF1:=ai (FW.trans hF1)
  clear HT hN1 hF1
  go_wp2_with fail
  refine(uh HE).mono ?_
  rintro e w2⟨rfl,bv2,hN2,hF2⟩
  have HN2:=ai hN2
  have HF2:=ai ((uh HF1).trans hF2)
  clear hN2 hF2
  go_wp2_with fail
  go_end0
  refine⟨rfl,bv2,?_,uh HF2⟩
  have e9:l++dcE (.ty t vs ms)=l++(sep ⟨#[]⟩++dcS (.ty t vs ms))++[59,10]:=by rw[sep_nil];simp[dcE]
  show PN w2 B pb bv2 (l++dcE (.ty t vs ms)) _ mv
  rw[e9]
  exact uh HN2
 |lt r t b=>
  obtain⟨f,u,vb,rfl,hU,-,hE⟩:=hv
  obtain⟨hs1,hs2⟩:=hS
  obtain⟨tb,xb,rfl⟩:=hE.iface
  have hbW:Below w.heap.size w (w.alloc (.cells #[.int .i64 f,.int .i64 u,.bool r,.int .i64 (t.frm:Int),.int .i64 (t.to:Int),.string t.text,.iface tb (.agg xb)] 220)):=bw _
  have FW:=FN.of (B:=B) (pb:=pb) hbW
  have HT:=ai (bindingW_C r t.text hU hs1 b (atEC_all HI hs2) (t.frm:Int) (t.to:Int) (h.bel hbW) (hE.fnQ hq FW) (hq.fn FW) (hm.fn FW) hl' hB)
  have hta:=taDecl_Let
  obtain⟨c1,fc1,zc1⟩:=Bx.new w #[.int .i64 f,.int .i64 u,.bool r,.int .i64 (t.frm:Int),.int .i64 (t.to:Int),.string t.text,.iface tb (.agg xb)] 220
  have htb:=taDecl_Let_Type
  clear h hE hq hm
  go_enter Tryz.func52,Tryz.ntmps52
  go_wp2_with fail
  refine(uh HT).mono ?_
  rintro e w1⟨rfl,bv1,last1,hN1,fi1,hF1⟩
  have HE:=ai (endLine_C hN1 hl')
  have HF1:=ai (FW.trans hF1)
  clear HT hN1 hF1
  go_wp2_with fail
  refine(uh HE).mono ?_
  rintro e w2⟨rfl,bv2,hN2,hF2⟩
  have HN2:=ai hN2
  have HF2:=ai ((uh HF1).trans hF2)
  clear hN2 hF2
  go_wp2_with fail
  go_end0
  refine⟨rfl,bv2,?_,uh HF2⟩
  have e9:l++dcE (.lt r t b)=l++(sep ⟨#[]⟩++dcS (.lt r t b))++[59,10]:=by rw[sep_nil];simp[dcE]
  show PN w2 B pb bv2 (l++dcE (.lt r t b)) _ mv
  rw[e9]
  exact uh HN2
def ByQ(w:World)(P:Nat->Prop)(b:Nat):Prop:=P b/\b<w.heap.size/\Nby w b
theorem nby_cell{w:World}{g:Nat}{x:Value}(h:w.cell? ⟨g,0,none⟩=some x)(hx:∀c,x≠.int .u8 c):Nby w g:=fun y hy c=>by rw[h]at hy;cases hy;exact hx c
theorem PP.by{w:World}{P:Nat->Prop}{nd:Nd}{v:Value}(h:PP w P nd v):PP w (ByQ w P) nd v:=by
 induction h with
 |any s n f t a=>exact .any s n f t a|low s n f t a hs=>exact .low s n f t a hs|num s n f t a=>exact .num s n f t a|word s n f t a hs=>exact .word s n f t a hs|unit s n f t a=>exact .unit s n f t a|pr s n x y f t a vx vy hx hy ihx ihy=>exact .pr s n x y f t a vx vy ihx ihy|up s n L f t a y sa sc vs hu hy hrow hr ih=>
  refine .up s n L f t a y sa sc vs hu hy ?_ ih
  rcases hrow with h0|⟨g,h1,hP,hz,hc⟩
  .exact Or.inl h0
  .by_cases hL:L.length=0
   .exact Or.inl (List.eq_nil_of_length_eq_zero hL)
   .obtain⟨tt,xx,e⟩:=(hr 0 (by omega)).iface
    exact Or.inr ⟨g,h1,⟨hP,hz,nby_cell (hc 0 (by omega)) (fun c q=>by rw[e]at q;cases q)⟩,hz,hc⟩
theorem PE.by{w:World}{P:Nat->Prop}{nd:Nd}{v:Value}(h:PE w P nd v):PE w (ByQ w P) nd v:=by
 induction h with
 |low s n f t a hs=>exact .low s n f t a hs|up s n f t a hs=>exact .up s n f t a hs|num s n f t a=>exact .num s n f t a|word s n f t a hs=>exact .word s n f t a hs|unit s n f t a=>exact .unit s n f t a|pr s n x y f t a vx vy hx hy ihx ihy=>exact .pr s n x y f t a vx vy ihx ihy|of s n x y f t a vx vy hx hy ihx=>exact .of s n x y f t a vx vy ihx hy.by
 |op s n x y f t a vx vy hs hx hy ihx ihy=>exact .op s n x y f t a vx vy hs ihx ihy|call s n x y f t a vx vy hx hy ihx ihy=>exact .call s n x y f t a vx vy ihx ihy|fn s n x f t a y vx hs hy hx ihx=>exact .fn s n x f t a y vx hs hy ihx|lt c s n x z f t a y vx vz hc hs hy hx hz ihx ihz=>exact .lt c s n x z f t a y vx vz hc hs hy ihx ihz|ite s n x y z f t a vx vy vz hx hy hz ihx ihy ihz=>exact .ite s n x y z f t a vx vy vz ihx ihy ihz|mt s n x A f t a vx g sc vp ve h0 hg hz hc hx hp he ihx ihe=>
  have hA:0<A.length:=List.length_pos_iff.2 h0
  obtain⟨⟨u,v,k0,_⟩,_,_⟩:=hc 0 hA
  rw[Nat.zero_mul]at k0
  exact .mt s n x A f t a vx g sc vp ve h0 ⟨hg,hz,nby_cell k0 (fun c q=>by cases q)⟩ hz hc ihx (fun i hi=>(hp i hi).by) ihe
theorem RowV.by{α:Type}{Q Q':EQ α}{sz:Nat}{w:World}{P:Nat->Prop}{L:List α}{v:Value}(h:RowV Q sz w P L v)(hsz:0<sz)(h1:∀x c,Q w P x c->Q' w (ByQ w P) x c)(h2:∀x c,Q w P x c->∀z,c 0≠.int .u8 z):RowV Q' sz w (ByQ w P) L v:=by
 obtain⟨va,vc,cs,e,hr,hq⟩:=h
 refine⟨va,vc,cs,e,?_,fun i hi=>h1 _ _ (hq i hi)⟩
 rcases hr with h0|⟨g,e1,e2,e3,e4⟩
 .exact Or.inl h0
 .by_cases hL:L.length=0
  .exact Or.inl (List.eq_nil_of_length_eq_zero hL)
  .have:=e4 0 (by omega) 0 hsz
   rw[Nat.zero_mul]at this
   exact Or.inr ⟨g,e1,⟨e2,e3,nby_cell this (h2 _ _ (hq 0 (by omega)))⟩,e3,e4⟩
theorem PD.by{w:World}{P:Nat->Prop}{d:Dc}{v:Value}(h:PD w P d v):PD w (ByQ w P) d v:=by
 cases d with
 |ty t vs ms=>
  obtain⟨f,u,vv,vm,h1,h2,h3,h4,h5,h6⟩:=h
  refine⟨f,u,vv,vm,h1,h2,h3,h4.by (by omega) (fun _ _ q=>q) (fun x c q z e=>by rw[q.1]at e;cases e),h5,h6.by (by omega) (fun x c q=>?_) (fun x c q z e=>?_)⟩
  .obtain⟨s,n,L,f,t,a,y,v,e0,e1,e2,e3,e4,e5,e6,e7,e8,e9⟩:=q
   exact⟨s,n,L,f,t,a,y,v,e0,e1,e2,e3,e4,e5,e6,e7,e8,e9.by (by omega) (fun x c q=>PT.by q) (fun x c q z e=>by obtain⟨tt,xx,e'⟩:=PT.iface q;rw[e']at e;cases e)⟩
  .obtain⟨s,n,L,f,t,a,y,v,e0,e1,e2⟩:=q
   rw[e1]at e;cases e
 |lt r t b=>
  obtain⟨f,u,vb,h1,h2,h3,h4⟩:=h
  exact⟨f,u,vb,h1,h2,h3,h4.by⟩
theorem RowV.byD{w:World}{P:Nat->Prop}{L:List Dc}{v:Value}(h:RowV QD 1 w P L v):RowV QD 1 w (ByQ w P) L v:=
 h.by (by omega) (fun _ _ q=>PD.by q) (fun x c q z e=>by obtain⟨tt,xx,e'⟩:=PD.iface q;rw[e']at e;cases e)
theorem prS_take(L:List Dc)(j:Nat)(h:j<L.length):prS (L.take (j+1))=prS (L.take j)++dcE L[j]:=by
 unfold prS
 rw[List.take_add_one,List.getElem?_eq_getElem h,List.flatMap_append]
 simp
theorem prS_le(L:List Dc)(j:Nat):(prS (L.take j)).length<=(prS L).length:=by
 have:prS L=prS (L.take j)++prS (L.drop j):=by unfold prS;rw[<-List.flatMap_append,List.take_append_drop]
 rw[this,lqa];omega
theorem prS_ne{L:List Dc}(h:L≠[]):prS L≠[]:=by
 cases L with
 |nil=>exact absurd rfl h|cons d L=>simp[prS,dcE]
def ProgRel(B:Nat)(mv:Value)(L:List Dc)(w:World)(gk:Nat)(v:Value)(wr:World):Prop:=
 ∃(j:Nat)(bv':Value),Hid (gk=L.length-j)/\j<=L.length/\v=.int .i64 (j:Int)/\PN wr B B bv' (prS (L.take j)) ⟨#[]⟩ mv/\FN B B w wr
theorem stringE_C(h:PN w B pb bv [] last mv):Calls Tryz.prog 53 #[.pointer (some ⟨pb,0,none⟩)] w fun e w'=>e=.returned (.string ⟨#[]⟩)/\Fr (SP pb bv) w w':=by
 obtain⟨ad,hbk,_⟩:=h.bk
 have hv:=h.nl rfl
 subst hv
 have c0:w.cell? ⟨pb,1,none⟩=some (.slice none 0 0):=by simp[World.cell?,hbk]
 have hSD:∀W:World,(Builtin.unsafeSliceData_ #[132] 253 #[.slice none 0 0]).run Tryz.prog W=.ok (.pointer none) W:=fun W=>by kernel_rfl
 have hUS:∀W:World,(Builtin.unsafeString_ #[253,3] 9 #[.pointer none,.int .i64 0]).run Tryz.prog W=.ok (.string ⟨#[]⟩) W:=fun W=>by kernel_rfl
 have HF:Hid (Fr (SP pb (.slice none 0 0)) w w.drew):=ai ⟨rfl,rfl,rfl,br _,fun _ _ _=>rfl⟩
 clear h hbk
 go_enter Tryz.func53,Tryz.ntmps53
 go_wp2_with fail
 go_region
 all_goals(
  go_wp2_with fail
  go_ret
  exact⟨rfl,uh HF⟩)
theorem ProgramW_C(HI:ItoaC)(h10:P10 w)(L:List Dc)(hS:∀d∈L,SmD d)(hn:L.length<=1001){P:Nat->Prop}{u:Value}(hv0:RowV QD 1 w P L u)(hl:(prS L).length<=800000):
 Calls Tryz.prog 25 #[.agg #[u]] w fun e w'=>e=.returned (.string (bs (prS L)))/\Below w.heap.size w w':=by
 have hv:=hv0.byD
 clear hv0
 have hb0:Below w.heap.size w (w.alloc (.cells #[u] 49)):=bw _
 have B0:=Bx.new w #[u] 49
 have HS:=ai hS
 have HV:=ai hv
 obtain⟨va,vc,cs,rfl,hr,hQ⟩:=hv
 have HR:=ai hr
 have HQ:=ai hQ
 clear hr hQ hS
 have z0:(w.alloc (.cells #[.slice va L.length vc] 49)).heap.size=w.heap.size+1:=by simp
 go_enter Tryz.func25,Tryz.ntmps25
 go_wp2_with fail
 refine newPen_X.mono ?_
 rintro e w1⟨rfl,⟨mv,hN,hM⟩,hb1⟩
 rw[z0]at hN hM hb1
 have hb1':Below (w.alloc (.cells #[.slice va L.length vc] 49)).heap.size (w.alloc (.cells #[.slice va L.length vc] 49)) w1:=by rw[z0];exact hb1
 have HB1:=hb0.trans (hb1'.mono hb0.size)
 have zz:=hb1.size
 rw[z0]at zz
 have hMv:∀b,ByQ w P b->b<w.heap.size->w1.heap[b]? =w.heap[b]? :=fun b _ z=>HB1.block b z
 have HNQ:=ai (show NT w1 (w.heap.size+1) (ByQ w P)from⟨fun b q=>⟨Nat.lt_of_lt_of_le q.2.1 (by omega),by have:=q.2.1;omega,fun x hx c=>q.2.2 x (by rw[<-World.cell?_of_block (a:=⟨b,0,none⟩) (hMv b q q.2.1)];exact hx) c⟩,h10.bel HB1,by have:=h10.z;omega⟩)
 have HB:=ai HB1
 have HMv:=ai hMv
 have HN:=ai hN
 have HM:=ai hM
 obtain⟨c0,f0,y0⟩:=B0.below hb1'
 clear hb0 hb1 hb1' HB1 hMv hN hM B0
 rw[z0]
 clear z0
 go_wp2_with fail
 go_loopg[10] L.length (fun gk v wr=>ProgRel (w.heap.size+1) mv L w1 gk v wr)
 case atStart=>exact⟨0,_,ai rfl,Nat.zero_le _,rfl,uh HN,FN.refl _ _ _⟩
 case round=>
  clear c0 f0 y0
  obtain⟨j,bv2,hgk,hj,rfl,N2,F2⟩:=hrel
  have zF2:=F2.size
  by_cases hjl:j<L.length
  .have hd:(j:Int)<(L.length:Int):=by omega
   rcases uh HR with h0|⟨g,rfl,hg,hgz,hc⟩
   .rw[h0]at hjl;exact absurd hjl (by simp)
   have k0:=hc j hjl 0 (by omega)
   rw[Nat.mul_one,Nat.add_zero]at k0
   have DJ:PD w (ByQ w P) L[j] (cs j 0):=uh HQ j hjl
   have D1:=(DJ.move (Nat.le_trans (by omega) (br _)) (uh HMv) (fun _ p _=>p):PD w1 (ByQ w P) L[j] (cs j 0))
   have D2:=D1.move F2.size (fun b p z=>F2.block b z ((uh HNQ).q b p).2.1 (Or.inr ((uh HNQ).q b p).2.2)) (fun _ p _=>p)
   have cb:wr.cell? ⟨g,j,none⟩=w.cell? ⟨g,j,none⟩:=by
    rw[World.cell?_of_block (a:=⟨g,j,none⟩) (F2.block g ((uh HNQ).q g hg).1 ((uh HNQ).q g hg).2.1 (Or.inr ((uh HNQ).q g hg).2.2)),World.cell?_of_block (a:=⟨g,j,none⟩) (uh HMv g hg hgz)]
   rw[<-cb]at k0
   obtain⟨td,xd,hvd⟩:=D2.iface
   rw[hvd]at D2 k0
   have ft:=prS_take L j hjl
   have fl:=prS_le L (j+1)
   rw[ft]at fl
   have HD:=ai (declW_C HI L[j] (uh HS _ (List.getElem_mem hjl)) N2 D2 ((uh HNQ).fn F2) ((uh HM).fn F2) (Nat.le_trans fl hl) (br _))
   rw[<-ft]at HD
   have HF2:=ai F2
   clear hc cb DJ D1 D2 hvd ft fl N2 F2
   go_wp2_with fail
   refine(uh HD).mono ?_
   rintro e w3⟨rfl,bv3,hN3,hF3⟩
   have HN3:=ai hN3
   have HF3:=ai ((uh HF2).trans hF3)
   clear hN3 hF3 HD
   go_wp2_with fail
   go_roundg(L.length-(j+1))
   case measure=>rw[uh hgk];omega
   case rel=>exact⟨j+1,bv3,ai rfl,by omega,by go_num,uh HN3,uh HF3⟩
  .have hd:decide ((j:Int)<(L.length:Int))=false:=by simp;omega
   have ej:j=L.length:=by omega
   subst ej
   rw[List.take_length]at N2
   have hlow:∀w',Fr (SP (w.heap.size+1) bv2) wr w'->Below w.heap.size w w':=fun w' F4=>by
    have hB:=uh HB
    refine⟨F4.os.trans (F2.os.trans hB.os),F4.tape.trans (F2.tape.trans hB.tape),F4.output.trans (F2.output.trans hB.output),by have:=F4.size;have:=hB.size;omega,fun k hk=>?_⟩
    have e1:=hB.block k hk
    have e3:=F2.block k (by have:=hB.size;omega) (by omega) (Or.inl (by omega))
    have e4:=F4.block k (by have:=hB.size;omega) (fun q=>by
     rcases q with q|q
     .omega
     .have:=(qa3 N2.ow k q).1;omega)
    exact e4.trans (e3.trans e1)
   have HLow:=ai hlow
   obtain⟨ad,hbk,_⟩:=N2.bk
   by_cases hL0:L=[]
   .have HC:Calls Tryz.prog 53 #[.pointer (some ⟨w.heap.size+1,0,none⟩)] wr fun e w'=>e=.returned (.string (bs (prS L)))/\Fr (SP (w.heap.size+1) bv2) wr w':=by
     have e0:prS L=[]:=by rw[hL0];rfl
     rw[e0]at N2
     refine(stringE_C N2).mono ?_
     rintro e w'⟨rfl,hF⟩
     exact⟨by rw[e0];rfl,hF⟩
    have HCC:=ai HC
    clear N2 F2 hlow HC hL0
    go_wp2_with fail
    refine(uh HCC).mono ?_
    rintro e w4⟨rfl,F4⟩
    have HX:=ai (uh HLow _ F4)
    clear F4
    go_wp2_with fail
    go_ret
    exact⟨rfl,uh HX⟩
   .have HCC:=ai (string_C N2 (prS_ne hL0))
    clear N2 F2 hlow
    go_wp2_with fail
    refine(uh HCC).mono ?_
    rintro e w4⟨rfl,F4⟩
    have HX:=ai (uh HLow _ F4)
    clear F4
    go_wp2_with fail
    go_ret
    exact⟨rfl,uh HX⟩
end
end
section
open Go Go.RowKit Go.ChangeMaps Un
def showA(s:BA):List UInt8×Fl:=match qcq s with
 |.error f=>([],f)|.ok l=>(prS l,noFl)
def ShowP(s:BA)(w:World)(e:Ending)(w':World):Prop:=e=.returned (.tuple #[.string (bs (showA s).1),flV (showA s).2])/\Below w.heap.size w w'
def SmP(s:BA):Prop:=∀l,qcq s=.ok l->(∀d∈l,SmD d)/\l.length<=1001/\(prS l).length<=800000
def KnP(s:BA):Prop:=∀f,qcq s=.error f->f.kind≠0
section
variable {w:World}
theorem Show_P(HI:ItoaC)(h10:P10 w)(hL:Laid w)(s:BA)(hS:SmP s)(hK:KnP s):Calls Tryz.prog 10 #[.string s] w (ShowP s w):=by
 have hb0:Below w.heap.size w (w.alloc (.cells zF 34)):=bw _
 have B0:=Bx.new w zF 34
 have z0:(w.alloc (.cells zF 34)).heap.size=w.heap.size+1:=by simp
 have HC:=ai (Program_X (hL.bel hb0) s)
 go_enter Tryz.func10,Tryz.ntmps10
 go_wp2_with fail
 refine(uh HC).mono ?_
 rintro e w1⟨u,f,rfl,hb1,hp⟩
 have HB1:=hb0.trans (hb1.mono hb0.size)
 have B1:=B0.below hb1
 obtain⟨us,un,uc,rfl⟩:∃us un uc,u=.slice us un uc:=by
  cases hr:qcq s with
  |error f'=>rw[hr]at hp;exact⟨_,_,_,hp.2⟩|ok l=>rw[hr]at hp;obtain⟨_,va,vc,cs,e,_,_⟩:=hp;exact⟨_,_,_,e⟩
 have hb2:Below w1.heap.size w1 ((w1.alloc (.cells #[.slice us un uc] 49)).alloc (.cells #[.int .i64 (f.kind:Int),.int .i64 (f.frm:Int),.int .i64 (f.to:Int)] 34)):=(bw _).alloc (by simp) _
 have HB2:=ai (HB1.trans (hb2.mono HB1.size))
 have B2:=ai (B1.below hb2)
 have P2:=ai ((Bx.new w1 #[.slice us un uc] 49).alloc (.cells #[.int .i64 (f.kind:Int),.int .i64 (f.frm:Int),.int .i64 (f.to:Int)] 34))
 have F2:=ai (show Bx ((w1.alloc (.cells #[.slice us un uc] 49)).alloc (.cells #[.int .i64 (f.kind:Int),.int .i64 (f.frm:Int),.int .i64 (f.to:Int)] 34)) (w1.heap.size+1) #[.int .i64 (f.kind:Int),.int .i64 (f.frm:Int),.int .i64 (f.to:Int)] by have:=Bx.new (w1.alloc (.cells #[.slice us un uc] 49)) #[.int .i64 (f.kind:Int),.int .i64 (f.frm:Int),.int .i64 (f.to:Int)] 34;simpa using this)
 obtain⟨c2,f2,z2⟩:=uh B2
 obtain⟨c3,f3,z3⟩:=uh P2
 obtain⟨c4,f4,z4⟩:=uh F2
 unfold flV
 cases hr:qcq s with
 |error f'=>
  rw[hr]at hp
  obtain⟨rfl,-⟩:=hp
  have hk:=hK f hr
  have hk':((f.kind:Int)==0)=false:=by simp;omega
  have hca:=ai (show showA s=([],f) by unfold showA;rw[hr])
  have B5:=ai (((uh B2).set3' rfl (.int .i64 (f.kind:Int)) (.int .i64 (f.frm:Int)) (.int .i64 (f.to:Int))).drew')
  clear hr HC B0 hb0 hb1 B1 hb2 HB1
  go_wp2_with fail
  go_region
  go_wp2_with fail
  obtain⟨c5,f5,z5⟩:=uh B5
  refine bodyPost_ret (v:=.tuple #[.string (bs []),flV f]) (by simp[results,Tryz.results10,go_sem,flV,c5,bs]) rfl ?_
  unfold ShowP
  rw[uh hca]
  exact⟨rfl,((((uh HB2).setCell (p:=⟨w.heap.size,0,none⟩) (br _) _).setCell (p:=⟨w.heap.size,1,none⟩) (br _) _).setCell (p:=⟨w.heap.size,2,none⟩) (br _) _).drew⟩
 |ok l=>
  rw[hr]at hp
  obtain⟨rfl,hv⟩:=hp
  obtain⟨s1,s2,s3⟩:=hS l hr
  have hca:=ai (show showA s=(prS l,noFl) by unfold showA;rw[hr])
  have HW:=ai (ProgramW_C HI (h10.bel (uh HB2)) l s1 s2 (hv.move qb9 hb2.size (fun b _ z=>hb2.block b z) fun _ p _=>p) s3)
  simp only[noFl]at*
  clear hr HC B0 hb0 hb1 B1 HB1 hv s1 s2 s3
  have zb:=hb2.size
  clear hb2
  go_wp2_with fail
  refine(uh HW).mono ?_
  rintro e w3⟨rfl,hb3⟩
  have HB3:=ai ((uh HB2).trans (hb3.mono (uh HB2).size))
  have B3:=ai ((uh B2).below hb3)
  have B5:=ai ((uh B3).set3' rfl (.int .i64 (0:Int)) (.int .i64 (0:Int)) (.int .i64 (0:Int)))
  clear hb3 c2 f2 z2 c3 f3 z3 c4 f4 z4
  obtain⟨c2,f2,z2⟩:=uh B3
  go_wp2_with fail
  obtain⟨c5,f5,z5⟩:=uh B5
  refine bodyPost_ret (v:=.tuple #[.string (bs (prS l)),flV noFl]) (by simp[results,Tryz.results10,go_sem,flV,noFl,c5,bs]) rfl ?_
  unfold ShowP
  rw[uh hca]
  exact⟨rfl,(((uh HB3).setCell (p:=⟨w.heap.size,0,none⟩) (br _) _).setCell (p:=⟨w.heap.size,1,none⟩) (br _) _).setCell (p:=⟨w.heap.size,2,none⟩) (br _) _⟩
end
end
section
open Go Go.RowKit
mutual
def nn:Nd->Nat
 |.mk _ _ _ L _ _ _=>1+nnL L
def nnL:List Nd->Nat
 |[]=>0|x::l=>nn x+nnL l
end
theorem nnL_app:∀l m,nnL (l++m)=nnL l+nnL m
 |[],m=>by simp[nnL]|x::l,m=>by simp[nnL,nnL_app l m];omega
theorem nn_pos(x:Nd):1<=nn x:=by cases x;simp[nn]
theorem nnL_len:∀l,l.length<=nnL l
 |[]=>by simp[nnL]|x::l=>by have:=nn_pos x;have:=nnL_len l;simp[nnL];omega
def NmL(s:BA):Prop:=∃x r,s.toList=x::r/\Pu.lowB x.toNat=true/\(∀y∈r,Pu.nameB y.toNat=true)/\Pu.wordB ⟨(x::r).toArray⟩=false
def NmU(s:BA):Prop:=∃x r,s.toList=x::r/\Pu.upB x.toNat=true/\(∀y∈r,Pu.nameB y.toNat=true)
def NmV(s:BA):Prop:=∃x r,s.toList=39::x::r/\Pu.lowB x.toNat=true/\(∀y∈r,Pu.nameB y.toNat=true)/\Pu.wordB ⟨(x::r).toArray⟩=false
structure TokG(t:Pu.Tok):Prop where
 low:t.kind=1->NmL t.text
 up:t.kind=2->NmU t.text
 var:t.kind=3->NmV t.text
 num:t.kind=4->numB t.text<1000000000
 sz:t.text.size<=400
structure LexG(T:List Pu.Tok)(e:Nat):Prop where
 en:(tk T e).kind=7
 tok:∀k,TokG (tk T k)
 pos:0<T.length
inductive Ty3:Nd->Prop where
 |var(s:BA)(n f t a:Nat):NmV s->s.size<=400->n=0->Ty3 (.mk 16 s n [] f t a)
 |up(s:BA)(n:Nat)(L:List Nd)(f t a:Nat):NmU s->s.size<=400->n=0->(∀x∈L,Ty3 x)->Ty3 (.mk 2 s n L f t a)
 |pr(x y:Nd)(f t a:Nat):Ty3 x->Ty3 y->Ty3 (.mk 6 kNo 0 [x,y] f t a)
 |fn(x y:Nd)(f t a:Nat):Ty3 x->Ty3 y->Ty3 (.mk 17 kNo 0 [x,y] f t a)
inductive Pa3:Nd->Prop where
 |any(s:BA)(f t a:Nat):s.size<=400->Pa3 (.mk 15 s 0 [] f t a)
 |low(s:BA)(f t a:Nat):NmL s->s.size<=400->Pa3 (.mk 1 s 0 [] f t a)
 |num(s:BA)(n f t a:Nat):n<1000000000->s.size<=400->Pa3 (.mk 3 s n [] f t a)
 |word(s:BA)(f t a:Nat):s.toList=kTrue.toList\/s.toList=kFalse.toList->s.size<=400->Pa3 (.mk 4 s 0 [] f t a)
 |unit(f t a:Nat):Pa3 (.mk 5 kNo 0 [] f t a)
 |pr(x y:Nd)(f t a:Nat):Pa3 x->Pa3 y->Pa3 (.mk 6 kNo 0 [x,y] f t a)
 |up(s:BA)(n:Nat)(L:List Nd)(f t a:Nat):NmU s->s.size<=400->n=0->(∀x∈L,Pa3 x)->Pa3 (.mk 2 s n L f t a)
inductive Ex3:Nd->Prop where
 |low(s:BA)(f t a:Nat):NmL s->s.size<=400->Ex3 (.mk 1 s 0 [] f t a)
 |up(s:BA)(f t a:Nat):NmU s->s.size<=400->Ex3 (.mk 2 s 0 [] f t a)
 |num(s:BA)(n f t a:Nat):n<1000000000->s.size<=400->Ex3 (.mk 3 s n [] f t a)
 |word(s:BA)(f t a:Nat):s.toList=kTrue.toList\/s.toList=kFalse.toList->s.size<=400->Ex3 (.mk 4 s 0 [] f t a)
 |unit(f t a:Nat):Ex3 (.mk 5 kNo 0 [] f t a)
 |pr(x y:Nd)(f t a:Nat):Ex3 x->Ex3 y->Ex3 (.mk 6 kNo 0 [x,y] f t a)
 |of(x y:Nd)(f t a:Nat):Ex3 x->Ty3 y->Ex3 (.mk 14 kNo 0 [x,y] f t a)
 |op(s:BA)(x y:Nd)(f t a:Nat):s=kPlus\/s=kMinus\/s=kStar\/s=kLess->Ex3 x->Ex3 y->Ex3 (.mk 7 s 0 [x,y] f t a)
 |call(x y:Nd)(f t a:Nat):Ex3 x->Ex3 y->Ex3 (.mk 8 kNo 0 [x,y] f t a)
 |fn(s:BA)(x:Nd)(f t a:Nat):NmL s->s.size<=400->Ex3 x->Ex3 (.mk 9 s 0 [x] f t a)
 |lt(s:BA)(x z:Nd)(f t a:Nat):NmL s->s.size<=400->Ex3 x->Ex3 z->Ex3 (.mk 10 s 0 [x,z] f t a)
 |ltr(s s':BA)(x z:Nd)(f t a f' t' a':Nat):NmL s->s.size<=400->NmL s'->s'.size<=400->Ex3 x->Ex3 z->Ex3 (.mk 11 s 0 [.mk 9 s' 0 [x] f' t' a',z] f t a)
 |ite(x y z:Nd)(f t a:Nat):Ex3 x->Ex3 y->Ex3 z->Ex3 (.mk 12 kNo 0 [x,y,z] f t a)
 |mt(x:Nd)(A:List (Nd×Nd))(f t a:Nat):A≠[]->Ex3 x->(∀p∈A,Pa3 p.1)->(∀p∈A,Ex3 p.2)->Ex3 (.mk 13 kNo 0 (x::armN A) f t a)
def Fn3(nd:Nd):Prop:=∃s x f t a,nd=.mk 9 s 0 [x] f t a/\NmL s/\s.size<=400/\Ex3 x
theorem Fn3.ex{nd:Nd}(h:Fn3 nd):Ex3 nd:=by
 obtain⟨s,x,f,t,a,rfl,h1,h2,h3⟩:=h
 exact .fn s x f t a h1 h2 h3
def IsFl(T:List Pu.Tok)(f:Fl):Prop:=∃j,f=flOf (tk T j)
def Got{α:Type}(T:List Pu.Tok)(r:Except Fl (α×Nat))(Q:α->Nat->Prop):Prop:=match r with
 |.error f=>IsFl T f|.ok (a,k')=>Q a k'
section
variable {T:List Pu.Tok} {e:Nat} {α β:Type}
theorem Got.bnd{m:M α}{f:α->M β}{k:Nat}{Q:α->Nat->Prop}{R:β->Nat->Prop}(h:Got T (m k) Q)(h2:∀a k',Q a k'->Got T (f a k') R):Got T (Go.Proofs.YtoceemjbcgmojaaGreatDoor.bnd m f k) R:=by
 unfold Go.Proofs.YtoceemjbcgmojaaGreatDoor.bnd
 cases hm:m k with
 |error e=>rw[hm]at h;exact h|ok p=>rw[hm]at h;exact h2 _ _ h
theorem Got.mono{r:Except Fl (α×Nat)}{Q R:α->Nat->Prop}(h:Got T r Q)(h2:∀a k',Q a k'->R a k'):Got T r R:=by
 cases r with
 |error f=>exact h|ok p=>exact h2 _ _ h
theorem qdh{k:Nat}{Q:α->Nat->Prop}:Got T (.error (flOf (tk T k)):Except Fl (α×Nat)) Q:=⟨k,rfl⟩
theorem LexG.step(h:LexG T e){k:Nat}(hk:k<=e)(hn:(tk T k).kind≠7):k+1<=e:=by
 have:k≠e:=fun q=>hn (by rw[q];exact h.en)
 omega
theorem isT_5{t:Pu.Tok}{s:BA}(h:isT t s=true):t.kind=5:=by
 unfold isT at h
 simp at h
 exact h.1
theorem qb0(h:LexG T e){k:Nat}(hk:k<=e)(s:BA):Got T (qag T s k) (fun _ k'=>k'=k+1/\k'<=e):=by
 unfold qag
 split
 .rename_i q;exact⟨rfl,h.step hk (by rw[isT_5 q];decide)⟩
 .exact qdh
theorem got_name(h:LexG T e){k:Nat}(hk:k<=e)(n:Nat)(hn:n≠7):Got T (qa7 T n k) (fun t k'=>t=tk T k/\t.kind=n/\k'=k+1/\k'<=e):=by
 unfold qa7
 split
 .rename_i q
  have q':(tk T k).kind=n:=by simpa using q
  exact⟨rfl,q',rfl,h.step hk (by rw[q'];exact hn)⟩
 .exact qdh
def Sp(e:Nat)(P:Nd->Prop)(k:Nat)(a:Nd)(k':Nat):Prop:=P a/\k<k'/\k'<=e/\nn a+1<=2*(k'-k)
def OkP(T:List Pu.Tok)(e:Nat)(P:Nd->Prop)(m:M Nd):Prop:=∀k,k<=e->Got T (m k) (Sp e P k)
theorem got_close(h:LexG T e){k:Nat}(hk:k<=e)(mk:Nat->Nd):Got T (qc3 T mk k) (fun a k'=>a=mk k'/\k'=k+1/\k'<=e):=
 (qb0 h hk kClose).bnd fun _ k' q=>⟨rfl,q.1,q.2⟩
structure SortOk(T:List Pu.Tok)(sort:Nat)(P:Nd->Prop):Prop where
 leaf:∀k,qai (tk T k) sort=true->isT (tk T k) qes=false->P (qb3 (tk T k))
 unit:sort≠1->∀f t a,P (.mk 5 kNo 0 [] f t a)
 pair:∀x y f t a,P x->P y->P (.mk 6 kNo 0 [x,y] f t a)
 of:sort=3->∀x y f t a,P x->Ty3 y->P (.mk 14 kNo 0 [x,y] f t a)
theorem leafK_kd{t:Pu.Tok}{c:Nat}(q:qa6 t=c):(c=1->t.kind=1)/\(c=2->t.kind=2)/\(c=16->t.kind=3)/\(c=3->t.kind=4):=by
 unfold qa6 at q
 (repeat' split at q)<;>subst q<;>simp_all
theorem begins_7{t:Pu.Tok}{sort:Nat}(h:qai t sort=true):t.kind≠7:=by
 intro h7
 have e1:isT t kTrue=false:=by simp[isT,h7]
 have e2:isT t kFalse=false:=by simp[isT,h7]
 have e3:isT t kAny=false:=by simp[isT,h7]
 have e4:isT t qes=false:=by simp[isT,h7]
 have hl:qa6 t=0:=by unfold qa6;rw[e1,e2,e3];simp[h7]
 unfold qai at h
 rw[e4,hl]at h
 revert h
 simp
theorem small_ok(h:LexG T e){sort:Nat}{P:Nd->Prop}(hs:SortOk T sort P){part typ:M Nd}(hp:OkP T e P part)(ht:OkP T e Ty3 typ):OkP T e P (qam T part typ sort):=by
 intro k hk
 unfold qam
 split
 .rename_i hb
  have hk1:=h.step hk (begins_7 hb)
  split
  .unfold qew
   split
   .rename_i hc
    have:=h.step hk1 (by rw[isT_5 hc.2];decide)
    exact⟨hs.unit hc.1 _ _ _,by omega,this,by simp[nn,nnL];omega⟩
   .refine(hp (k+1) hk1).bnd ?_
    rintro x k1⟨p1,p2,p3,p4⟩
    unfold qee
    split
    .rename_i hc
     have hk2:=h.step p3 (by rw[isT_5 hc];decide)
     refine(hp (k1+1) hk2).bnd ?_
     rintro y k2⟨q1,q2,q3,q4⟩
     refine(got_close h q3 _).mono ?_
     rintro a k3⟨rfl,rfl,r3⟩
     exact⟨hs.pair _ _ _ _ _ p1 q1,by omega,r3,by simp[nn,nnL];omega⟩
    .split
     .rename_i hc
      have hk2:=h.step p3 (by rw[isT_5 hc.2];decide)
      refine(ht (k1+1) hk2).bnd ?_
      rintro y k2⟨q1,q2,q3,q4⟩
      refine(got_close h q3 _).mono ?_
      rintro a k3⟨rfl,rfl,r3⟩
      exact⟨hs.of hc.1 _ _ _ _ _ p1 q1,by omega,r3,by simp[nn,nnL];omega⟩
     .refine(got_close h p3 _).mono ?_
      rintro a k3⟨rfl,rfl,r3⟩
      exact⟨p1,by omega,r3,by omega⟩
  .rename_i ho
   have hn:nn (qb3 (tk T k))=1:=by simp[qb3,nn,nnL]
   exact⟨hs.leaf k hb (by simpa using ho),by omega,hk1,by omega⟩
 .exact qdh
theorem nn_add(x y:Nd)(u:Nat):nn (x.add y u)=nn x+nn y:=by
 obtain⟨k,s,n,L,f,t,a⟩:=x
 simp[Nd.add,nn,nnL_app,nnL];omega
def Up3(P:Nd->Prop)(nd:Nd):Prop:=∃s L f t a,nd=.mk 2 s 0 L f t a/\NmU s/\s.size<=400/\∀x∈L,P x
theorem Up3.add{P:Nd->Prop}{x y:Nd}(h:Up3 P x)(hy:P y)(u:Nat):Up3 P (x.add y u):=by
 obtain⟨s,L,f,t,a,rfl,h1,h2,h3⟩:=h
 exact⟨s,L++[y],f,u,a,rfl,h1,h2,fun z hz=>by
  rcases List.mem_append.1 hz with q|q
  .exact h3 z q
  .rw[List.mem_singleton.1 q];exact hy⟩
theorem headF_got(h:LexG T e){sort:Nat}{P:Nd->Prop}{sm:M Nd}(hm:OkP T e P sm):∀f x k,k<=e->Up3 P x->Got T (qbv T sm sort f x k) (fun a k'=>Up3 P a/\k<=k'/\k'<=e/\nn a<=nn x+2*(k'-k))
 |0,x,k,hk,hx=>⟨hx,br _,hk,by omega⟩|f+1,x,k,hk,hx=>by
  unfold qbv
  split
  .refine(hm k hk).bnd ?_
   rintro y k1⟨p1,p2,p3,p4⟩
   refine(headF_got h hm f _ k1 p3 (hx.add p1 _)).mono ?_
   rintro a k2⟨q1,q2,q3,q4⟩
   rw[nn_add]at q4
   exact⟨q1,by omega,q3,by omega⟩
  .exact⟨hx,br _,hk,by omega⟩
theorem head_ok(h:LexG T e){sort:Nat}{P:Nd->Prop}{part typ:M Nd}(hu:∀nd,Up3 P nd->P nd)(hm:OkP T e P (qam T part typ sort)):OkP T e P (qdn T (qam T part typ sort) sort):=by
 intro k hk
 unfold qdn
 split
 .rename_i h2
  have h2':(tk T k).kind=2:=by simpa using h2
  have hsm:qam T part typ sort k=.error (flOf (tk T k))\/qam T part typ sort k=.ok (qb3 (tk T k),k+1):=by
   unfold qam
   split
   .rw[if_neg (by unfold isT;simp[h2'])];exact Or.inr rfl
   .exact Or.inl rfl
  rcases hsm with q|q
  .unfold bnd;rw[q];exact qdh
  .unfold bnd
   rw[q]
   have hk1:=h.step hk (by rw[h2'];decide)
   refine(headF_got h hm T.length _ (k+1) hk1 ?_).mono ?_
   .exact⟨(tk T k).text,[],(tk T k).frm,(tk T k).to,(tk T k).frm,by simp[qb3,qa6,h2',qa9],(h.tok k).up h2',(h.tok k).sz,by simp⟩
   .rintro a k'⟨q1,q2,q3,q4⟩
    have:nn (qb3 (tk T k))=1:=by simp[qb3,nn,nnL]
    exact⟨hu _ q1,by omega,q3,by omega⟩
 .exact hm k hk
theorem leaf1(h:LexG T e):SortOk T 1 Ty3:=by
 refine⟨fun k hb ho=>?_,fun q=>absurd rfl q,fun x y f t a hx hy=>.pr x y f t a hx hy,fun q=>by cases q⟩
 have g:=h.tok k
 unfold qai at hb
 rw[ho]at hb
 simp at hb
 unfold qb3
 rcases hb with q|q
 .rw[q]
  have h3:(tk T k).kind=3:=(leafK_kd q).2.2.1 rfl
  exact .var _ _ _ _ _ (g.var h3) g.sz (by simp[qa9,h3])
 .rw[q]
  have h3:(tk T k).kind=2:=(leafK_kd q).2.1 rfl
  exact .up _ _ _ _ _ _ (g.up h3) g.sz (by simp[qa9,h3]) (by simp)
theorem Up3.ty{nd:Nd}(h:Up3 Ty3 nd):Ty3 nd:=by obtain⟨s,L,f,t,a,rfl,h1,h2,h3⟩:=h;exact .up s 0 L f t a h1 h2 rfl h3
theorem Up3.pa{nd:Nd}(h:Up3 Pa3 nd):Pa3 nd:=by obtain⟨s,L,f,t,a,rfl,h1,h2,h3⟩:=h;exact .up s 0 L f t a h1 h2 rfl h3
theorem typ_ok(h:LexG T e):∀n,OkP T e Ty3 (typM T n)
 |0=>fun k hk=>qdh|n+1=>fun k hk=>by
  have ih:=typ_ok h n
  unfold typM
  refine(head_ok h (fun _=>Up3.ty) (small_ok h (leaf1 h) ih ih) k hk).bnd ?_
  rintro x k1⟨p1,p2,p3,p4⟩
  unfold qfc
  split
  .rename_i hc
   have hk2:=h.step p3 (by rw[isT_5 hc];decide)
   refine(ih (k1+1) hk2).bnd ?_
   rintro y k2⟨q1,q2,q3,q4⟩
   exact⟨.fn _ _ _ _ _ p1 q1,by omega,q3,by simp[nn,nnL];omega⟩
  .exact⟨p1,p2,p3,p4⟩
theorem leaf_word{t:Pu.Tok}(h:qa6 t=4):t.text.toList=kTrue.toList\/t.text.toList=kFalse.toList:=by
 unfold qa6 at h
 repeat' split at h
 all_goals first|omega|skip
 rename_i q
 unfold isT at q
 simp at q
 rcases q with q|q
 .exact Or.inl (q.2.trans (qab _).symm)
 .exact Or.inr (q.2.trans (qab _).symm)
theorem qfu{t:Pu.Tok}(h:qa6 t≠3):qa9 t=0:=by
 unfold qa9
 rw[if_neg]
 intro h4
 apply h
 simp[qa6,h4]
theorem leaf2(h:LexG T e):SortOk T 2 Pa3:=by
 refine⟨fun k hb ho=>?_,fun _ f t a=>.unit f t a,fun x y f t a hx hy=>.pr x y f t a hx hy,fun q=>by cases q⟩
 have g:=h.tok k
 unfold qai at hb
 rw[ho]at hb
 simp at hb
 unfold qb3
 have hk:∀c,qa6 (tk T k)=c->c=1\/c=2\/c=3->(tk T k).kind=if c=3 then 4 else c:=by
  intro c q hc
  have:=leafK_kd q
  rcases hc with rfl|rfl|rfl
  .exact this.1 rfl
  .exact this.2.1 rfl
  .exact this.2.2.2 rfl
 rcases hb with(((q|q)|q)|q)|q
 .rw[qfu (by omega),q];exact .any _ _ _ _ g.sz
 .rw[qfu (by omega),q];exact .low _ _ _ _ (g.low (hk 1 q (by omega))) g.sz
 .rw[qfu (by omega),q];exact .up _ _ _ _ _ _ (g.up (hk 2 q (by omega))) g.sz rfl (by simp)
 .rw[q]
  have h4:(tk T k).kind=4:=hk 3 q (by omega)
  exact .num _ _ _ _ _ (by unfold qa9;rw[if_pos h4];exact g.num h4) g.sz
 .rw[qfu (by omega),q];exact .word _ _ _ _ (leaf_word q) g.sz
theorem leaf3(h:LexG T e):SortOk T 3 Ex3:=by
 refine⟨fun k hb ho=>?_,fun _ f t a=>.unit f t a,fun x y f t a hx hy=>.pr x y f t a hx hy,fun _ x y f t a hx hy=>.of x y f t a hx hy⟩
 have g:=h.tok k
 unfold qai at hb
 rw[ho]at hb
 simp at hb
 unfold qb3
 have hk:∀c,qa6 (tk T k)=c->c=1\/c=2\/c=3->(tk T k).kind=if c=3 then 4 else c:=by
  intro c q hc
  have:=leafK_kd q
  rcases hc with rfl|rfl|rfl
  .exact this.1 rfl
  .exact this.2.1 rfl
  .exact this.2.2.2 rfl
 rcases hb with((q|q)|q)|q
 .rw[qfu (by omega),q];exact .low _ _ _ _ (g.low (hk 1 q (by omega))) g.sz
 .rw[qfu (by omega),q];exact .up _ _ _ _ (g.up (hk 2 q (by omega))) g.sz
 .rw[q]
  have h4:(tk T k).kind=4:=hk 3 q (by omega)
  exact .num _ _ _ _ _ (by unfold qa9;rw[if_pos h4];exact g.num h4) g.sz
 .rw[qfu (by omega),q];exact .word _ _ _ _ (leaf_word q) g.sz
theorem pat_ok(h:LexG T e):∀n,OkP T e Pa3 (patM T n)
 |0=>fun k hk=>qdh|n+1=>fun k hk=>by
  unfold patM
  exact head_ok h (fun _=>Up3.pa) (small_ok h (leaf2 h) (pat_ok h n) (fun k _=>qdh)) k hk
theorem callF_got(h:LexG T e){sm:M Nd}(hm:OkP T e Ex3 sm)(frm:Nat):∀f x k,k<=e->Ex3 x->Got T (qd7 T sm frm f x k) (fun a k'=>Ex3 a/\k<=k'/\k'<=e/\nn a<=nn x+2*(k'-k))
 |0,x,k,hk,hx=>⟨hx,br _,hk,by omega⟩|f+1,x,k,hk,hx=>by
  unfold qd7
  split
  .refine(hm k hk).bnd ?_
   rintro y k1⟨p1,p2,p3,p4⟩
   refine(callF_got h hm frm f _ k1 p3 (.call _ _ _ _ _ hx p1)).mono ?_
   rintro a k2⟨q1,q2,q3,q4⟩
   simp only[nn,nnL]at q4
   exact⟨q1,by omega,q3,by omega⟩
  .exact⟨hx,br _,hk,by omega⟩
theorem prodF_got(h:LexG T e){sm:M Nd}(hm:OkP T e Ex3 sm)(frm:Nat):∀f x k,k<=e->Ex3 x->Got T (qec T sm frm f x k) (fun a k'=>Ex3 a/\k<=k'/\k'<=e/\nn a<=nn x+2*(k'-k))
 |0,x,k,hk,hx=>⟨hx,br _,hk,by omega⟩|f+1,x,k,hk,hx=>by
  unfold qec
  split
  .rename_i hc
   refine(hm (k+1) (h.step hk (by rw[isT_5 hc];decide))).bnd ?_
   rintro y k1⟨p1,p2,p3,p4⟩
   refine(prodF_got h hm frm f _ k1 p3 (.op _ _ _ _ _ _ (by simp) hx p1)).mono ?_
   rintro a k2⟨q1,q2,q3,q4⟩
   simp only[nn,nnL]at q4
   exact⟨q1,by omega,q3,by omega⟩
  .exact⟨hx,br _,hk,by omega⟩
theorem isT_text{t:Pu.Tok}{s:BA}(h:isT t s=true):t.text=s:=by
 unfold isT at h
 simp at h
 exact toList_inj h.2
theorem sumF_got(h:LexG T e){sm:M Nd}(hm:OkP T e Ex3 sm)(frm:Nat):∀f x k,k<=e->Ex3 x->Got T (sumF T sm frm f x k) (fun a k'=>Ex3 a/\k<=k'/\k'<=e/\nn a<=nn x+2*(k'-k))
 |0,x,k,hk,hx=>⟨hx,br _,hk,by omega⟩|f+1,x,k,hk,hx=>by
  unfold sumF
  split
  .rename_i hc
   have h5:(tk T k).kind=5:=hc.elim isT_5 isT_5
   refine(hm (k+1) (h.step hk (by rw[h5];decide))).bnd ?_
   rintro y k1⟨p1,p2,p3,p4⟩
   refine(sumF_got h hm frm f _ k1 p3 (.op _ _ _ _ _ _ (by rcases hc with q|q<;>rw[isT_text q]<;>simp) hx p1)).mono ?_
   rintro a k2⟨q1,q2,q3,q4⟩
   simp only[nn,nnL]at q4
   exact⟨q1,by omega,q3,by omega⟩
  .exact⟨hx,br _,hk,by omega⟩
theorem qfs{sm:M Nd}{F:Nat->Nd->M Nd}(hm:OkP T e Ex3 sm)(hF:∀fr x k,k<=e->Ex3 x->Got T (F fr x k) (fun a k'=>Ex3 a/\k<=k'/\k'<=e/\nn a<=nn x+2*(k'-k))):OkP T e Ex3 (fun k=>bnd sm (F (tk T k).frm) k):=by
 intro k hk
 refine(hm k hk).bnd ?_
 rintro x k1⟨p1,p2,p3,p4⟩
 refine(hF _ x k1 p3 p1).mono ?_
 rintro a k2⟨q1,q2,q3,q4⟩
 exact⟨q1,by omega,q3,by omega⟩
theorem sum_ok(h:LexG T e){sm:M Nd}(hm:OkP T e Ex3 sm):OkP T e Ex3 (sumM T (qby T (qbh T sm))):=
 qfs (qfs (qfs hm (fun fr x k=>callF_got h hm fr T.length x k)) (fun fr x k=>prodF_got h (qfs hm (fun fr x k=>callF_got h hm fr T.length x k)) fr T.length x k)) (fun fr x k=>sumF_got h (qfs (qfs hm (fun fr x k=>callF_got h hm fr T.length x k)) (fun fr x k=>prodF_got h (qfs hm (fun fr x k=>callF_got h hm fr T.length x k)) fr T.length x k)) fr T.length x k)
theorem less_ok(h:LexG T e){sm:M Nd}(hm:OkP T e Ex3 sm):OkP T e Ex3 (qe8 T sm):=by
 intro k hk
 unfold qe8
 refine(hm k hk).bnd ?_
 rintro x k1⟨p1,p2,p3,p4⟩
 show Got T (if _ then _ else _) _
 split
 .rename_i hc
  refine(hm (k1+1) (h.step p3 (by rw[isT_5 hc];decide))).bnd ?_
  rintro y k2⟨q1,q2,q3,q4⟩
  exact⟨.op _ _ _ _ _ _ (by simp) p1 q1,by omega,q3,by simp[nn,nnL];omega⟩
 .exact⟨p1,p2,p3,p4⟩
theorem fun_ok(h:LexG T e){ex:M Nd}(hm:OkP T e Ex3 ex):OkP T e Fn3 (funM T ex):=by
 intro k hk
 unfold funM
 refine(qb0 h hk kFun).bnd ?_
 rintro _ k1⟨rfl,p1⟩
 refine(got_name h p1 1 (by decide)).bnd ?_
 rintro t k2⟨rfl,t1,rfl,p2⟩
 refine(qb0 h p2 kArrow).bnd ?_
 rintro _ k3⟨rfl,p3⟩
 refine(hm _ p3).bnd ?_
 rintro x k4⟨q1,q2,q3,q4⟩
 exact⟨⟨_,x,_,_,_,rfl,(h.tok _).low t1,(h.tok _).sz,q1⟩,by omega,q3,by simp[nn,nnL];omega⟩
def B3(b:Nat×Pu.Tok×Nd):Prop:=NmL b.2.1.text/\b.2.1.text.size<=400/\(b.1=10/\Ex3 b.2.2\/b.1=11/\Fn3 b.2.2)
theorem bound_ok(h:LexG T e){ex:M Nd}(hm:OkP T e Ex3 ex){k:Nat}(hk:k<=e):Got T (qbg T ex k) (fun b k'=>B3 b/\k<k'/\k'<=e/\nn b.2.2+3<=2*(k'-k)):=by
 unfold qbg
 refine(qb0 h hk kLet).bnd ?_
 rintro _ k1⟨rfl,p1⟩
 show Got T (if _ then _ else _) _
 split
 .rename_i hc
  refine(got_name h (h.step p1 (by rw[isT_5 hc];decide)) 1 (by decide)).bnd ?_
  rintro t k2⟨rfl,t1,rfl,p2⟩
  refine(qb0 h p2 kEq).bnd ?_
  rintro _ k3⟨rfl,p3⟩
  refine(fun_ok h hm _ p3).bnd ?_
  rintro x k4⟨q1,q2,q3,q4⟩
  exact⟨⟨(h.tok _).low t1,(h.tok _).sz,Or.inr ⟨rfl,q1⟩⟩,by omega,q3,by simp;omega⟩
 .refine(got_name h p1 1 (by decide)).bnd ?_
  rintro t k2⟨rfl,t1,rfl,p2⟩
  refine(qb0 h p2 kEq).bnd ?_
  rintro _ k3⟨rfl,p3⟩
  refine(hm _ p3).bnd ?_
  rintro x k4⟨q1,q2,q3,q4⟩
  exact⟨⟨(h.tok _).low t1,(h.tok _).sz,Or.inl ⟨rfl,q1⟩⟩,by omega,q3,by simp;omega⟩
theorem choice_ok(h:LexG T e){ex:M Nd}(hm:OkP T e Ex3 ex):OkP T e Ex3 (qdr T ex):=by
 intro k hk
 unfold qdr
 refine(qb0 h hk kIf).bnd ?_
 rintro _ k1⟨rfl,p1⟩
 refine(hm _ p1).bnd ?_
 rintro x k2⟨a1,a2,a3,a4⟩
 refine(qb0 h a3 qdo).bnd ?_
 rintro _ k3⟨rfl,p3⟩
 refine(hm _ p3).bnd ?_
 rintro y k4⟨b1,b2,b3,b4⟩
 refine(qb0 h b3 qer).bnd ?_
 rintro _ k5⟨rfl,p5⟩
 refine(hm _ p5).bnd ?_
 rintro z k6⟨c1,c2,c3,c4⟩
 exact⟨.ite _ _ _ _ _ _ a1 b1 c1,by omega,c3,by simp[nn,nnL];omega⟩
theorem let_ok(h:LexG T e){ex:M Nd}(hm:OkP T e Ex3 ex):OkP T e Ex3 (letM T ex):=by
 intro k hk
 unfold letM
 refine(bound_ok h hm hk).bnd ?_
 rintro⟨c,t,x⟩k1⟨⟨s1,s2,s3⟩,p2,p3,p4⟩
 refine(qb0 h p3 kIn).bnd ?_
 rintro _ k2⟨rfl,p5⟩
 refine(hm _ p5).bnd ?_
 rintro z k3⟨q1,q2,q3,q4⟩
 refine⟨?_,by omega,q3,by simp[nn,nnL]at p4⊢;omega⟩
 rcases s3 with⟨e1,e2⟩|⟨e1,e2⟩
 .simp only at e1 e2⊢
  rw[e1]
  exact .lt _ _ _ _ _ _ s1 s2 e2 q1
 .simp only at e1 e2⊢
  rw[e1]
  obtain⟨s',x',f',t',a',rfl,h1,h2,h3⟩:=e2
  exact .ltr _ _ _ _ _ _ _ _ _ _ s1 s2 h1 h2 h3 q1
theorem arms_got(h:LexG T e){pa ex:M Nd}(hp:OkP T e Pa3 pa)(hm:OkP T e Ex3 ex):∀f l k,k<=e->Got T (qcz T pa ex f l k) (fun l' k'=>∃A,l'=l++armN A/\(∀p∈A,Pa3 p.1)/\(∀p∈A,Ex3 p.2)/\(f≠0->A≠[])/\k<=k'/\k'<=e/\nnL l'<=nnL l+2*(k'-k))
 |0,l,k,hk=>⟨[],by simp[armN],by simp,by simp,by simp,br _,hk,by omega⟩|f+1,l,k,hk=>by
  unfold qcz
  refine(hp k hk).bnd ?_
  rintro p k1⟨a1,a2,a3,a4⟩
  refine(qb0 h a3 kArrow).bnd ?_
  rintro _ k2⟨rfl,p2⟩
  refine(hm _ p2).bnd ?_
  rintro x k3⟨b1,b2,b3,b4⟩
  show Got T (if _ then _ else _) _
  have hl:nnL (l++[p,x])=nnL l+(nn p+nn x):=by simp[nnL_app,nnL]
  split
  .rename_i hc
   refine(arms_got h hp hm f _ (k3+1) (h.step b3 (by rw[isT_5 hc];decide))).mono ?_
   rintro l' k4⟨A,rfl,c1,c2,c3,c4,c5,c6⟩
   refine⟨(p,x)::A,by simp[armN],fun q hq=>?_,fun q hq=>?_,by simp,by omega,c5,by rw[hl]at c6;omega⟩
   .rcases List.mem_cons.1 hq with rfl|hq
    .exact a1
    .exact c1 q hq
   .rcases List.mem_cons.1 hq with rfl|hq
    .exact b1
    .exact c2 q hq
  .exact⟨[(p,x)],by simp[armN],by simp[a1],by simp[b1],by simp,by omega,b3,by rw[hl];omega⟩
theorem match_ok(h:LexG T e){pa ex:M Nd}(hp:OkP T e Pa3 pa)(hm:OkP T e Ex3 ex):OkP T e Ex3 (qel T pa ex):=by
 intro k hk
 unfold qel
 refine(qb0 h hk qbc).bnd ?_
 rintro _ k1⟨rfl,p1⟩
 refine(hm _ p1).bnd ?_
 rintro x k2⟨a1,a2,a3,a4⟩
 refine(qb0 h a3 kWith).bnd ?_
 rintro _ k3⟨rfl,p3⟩
 refine(arms_got h hp hm T.length [x] _ p3).bnd ?_
 rintro l k4⟨A,rfl,c1,c2,c3,c4,c5,c6⟩
 refine(qb0 h c5 kEnd).bnd ?_
 rintro _ k5⟨rfl,p5⟩
 exact⟨.mt x A _ _ _ (c3 (by have:=h.pos;omega)) a1 c1 c2,by omega,p5,by simp[nn,nnL]at c6⊢;omega⟩
theorem expr_ok(h:LexG T e):∀n,OkP T e Ex3 (qaq T n)
 |0=>fun k hk=>qdh|n+1=>fun k hk=>by
  have ih:=expr_ok h n
  unfold qaq
  split
  .exact(fun_ok h ih k hk).mono fun a k' q=>⟨q.1.ex,q.2⟩
  split
  .exact choice_ok h ih k hk
  split
  .exact match_ok h (pat_ok h n) ih k hk
  split
  .exact let_ok h ih k hk
  .exact less_ok h (sum_ok h (small_ok h (leaf3 h) ih (typ_ok h n))) k hk
end
end
section
open Go Go.RowKit Un
theorem ext_shape{s:BA}{i b:Nat}(hi:i<b)(hb:b<=s.size):∃x r,(s.extract i b).toList=x::r/\x.toNat=Pu.at_ s i/\∀p:Nat->Bool,(∀j,i<j->j<b->p (Pu.at_ s j)=true)->∀y∈r,p y.toNat=true:=by
 have hl:(s.extract i b).toList.length=b-i:=by
  rw[ByteArray.toList_eq]
  show(s.extract i b).size=_
  rw[ByteArray.size_extract];omega
 have hg:∀j(h:j<(s.extract i b).toList.length),((s.extract i b).toList[j]).toNat=Pu.at_ s (i+j):=fun j h=>by
  rw[<-at_ext s i b j hb (by omega),Pu.at_lt (by rw[ByteArray.size_extract];omega)]
  simp only[ByteArray.toList_eq,ByteArray.getElem_eq_getElem_data,Array.getElem_toList]
 cases hc:(s.extract i b).toList with
 |nil=>rw[hc]at hl;simp at hl;omega|cons x r=>
  refine⟨x,r,rfl,?_,fun p hp y hy=>?_⟩
  .have:=hg 0 (by omega)
   simp only[hc]at this
   simpa using this
  .obtain⟨j,hj,rfl⟩:=List.getElem_of_mem hy
   rw[hc]at hl
   simp at hl
   have:=hg (j+1) (by rw[hc];simp;omega)
   simp only[hc]at this
   simp only[List.getElem_cons_succ]at this
   rw[this]
   exact hp _ (by omega) (by omega)
theorem numF_dig(s:BA):∀k,(∀i,i<k->Pu.digB (Pu.at_ s i)=true)->numF s k<10^k
 |0,_=>by simp[numF]|k+1,h=>by
  have h1:=numF_dig s k (fun i hi=>h i (by omega))
  have h2:=h k (by omega)
  simp[Pu.digB]at h2
  have:(Pu.at_ s k+208)%256<=9:=by omega
  simp only[numF,Nat.pow_succ]
  omega
theorem numB_lt{s:BA}(h:DigN s):numB s<1000000000:=by
 unfold numB
 obtain⟨h1,h2,h3⟩:=h
 rw[Nat.min_eq_left h2]
 have:=numF_dig s s.size h3
 have h4:(10:Nat)^s.size<=10^9:=Nat.pow_le_pow_right (by decide) h2
 omega
theorem mk_ext(s:BA){x:UInt8}{r:List UInt8}(h:s.toList=x::r):(⟨(x::r).toArray⟩:BA)=s:=toList_inj (by rw[h];exact qab _)
theorem tokAt_G(s:BA)(hs:s.size<=400)(i:Nat)(hi:i<s.size):TokG (Pu.tokAt s i):=by
 have hin:=tokAt_in s i hi
 have ht:=Pu.tokAt_to s i hi
 have hf:=Pu.tokAt_frm s i
 have hsz:(Pu.tokAt s i).text.size<=400:=by have:=hin.sp;omega
 refine⟨fun k1=>?_,fun k2=>?_,fun k3=>?_,fun k4=>numB_lt (hin.v4 k4),hsz⟩
 .clear hin hsz
  revert k1 ht hf
  unfold Pu.tokAt
  repeat' split
  all_goals intro ht hf k1
  all_goals try(exfalso;simp[Pu.mkT]at k1;done)
  rename_i h1 h2
  simp only[Pu.mkT]at ht
  obtain⟨x,r,e1,e2,e3⟩:=ext_shape ht.1 ht.2
  refine⟨x,r,e1,by rw[e2];exact h1,e3 _ (fun j a b=>endTo_all (j-i) i j rfl (by omega) b),?_⟩
  rw[mk_ext _ e1]
  simpa using h2
 .clear hin hsz
  revert k2 ht hf
  unfold Pu.tokAt
  repeat' split
  all_goals intro ht hf k2
  all_goals try(exfalso;simp[Pu.mkT]at k2;done)
  rename_i h1 h2
  simp only[Pu.mkT]at ht
  obtain⟨x,r,e1,e2,e3⟩:=ext_shape ht.1 ht.2
  exact⟨x,r,e1,by rw[e2];exact h2,e3 _ (fun j a b=>endTo_all (j-i) i j rfl (by omega) b)⟩
 .clear hin hsz
  revert k3 ht hf
  unfold Pu.tokAt
  repeat' split
  all_goals intro ht hf k3
  all_goals try(exfalso;simp[Pu.mkT]at k3;done)
  rename_i h1 h2 h3 h4
  simp only[Pu.mkT]at ht
  obtain⟨x,r,e1,e2,e3⟩:=ext_shape ht.1 ht.2
  have hlt:i+1<Pu.endTo s Pu.nameB (i+1):=by
   have hi1:i+1<s.size:=by
    rcases Nat.lt_or_ge (i+1) s.size with q|q
    .exact q
    .have:=h3.2;rw[Pu.at_ge q]at this;simp[Pu.lowB]at this
   rw[Pu.endTo_yes hi1 (by simp[Pu.nameB,h3.2])]
   have:=Pu.endTo_ge s Pu.nameB (i+1+1)
   omega
  obtain⟨y,r',e1',e2',e3'⟩:=ext_shape hlt ht.2
  have e39:x=39:=UInt8.toNat_inj.1 (by rw[e2,h3.1];rfl)
  have er:r=y::r':=by
   have q1:=qev hi ht.1
   rw[e1,e1']at q1
   injection q1 with _ q2
  refine⟨y,r',by show(s.extract i _).toList=_;rw[e1,e39,er],by rw[e2'];exact h3.2,e3' _ (fun j a b=>endTo_all (j-(i+1)) (i+1) j rfl (by omega) b),?_⟩
  rw[mk_ext _ e1']
  simpa using h4
theorem toksF_mem(s:BA):∀f i t,t∈Pu.toksF s f i->(∃j,j<s.size/\t=Pu.tokAt s j)\/t=Pu.endTok s
 |0,i,t,h=>Or.inr (by simpa[Pu.toksF]using h)|f+1,i,t,h=>by
  unfold Pu.toksF at h
  split at h
  .rename_i hi
   split at h
   .exact toksF_mem s f _ t h
   .rcases List.mem_cons.1 h with rfl|h
    .exact Or.inl ⟨i,hi,rfl⟩
    .exact toksF_mem s f _ t h
  .exact Or.inr (by simpa using h)
theorem toksF_lastK(s:BA):∀f i,∃l,Pu.toksF s f i=l++[Pu.endTok s]/\l.length<=f
 |0,i=>⟨[],rfl,by simp⟩|f+1,i=>by
  unfold Pu.toksF
  split
  .split
   .obtain⟨l,h1,h2⟩:=toksF_lastK s f (i+1);exact⟨l,h1,by omega⟩
   .obtain⟨l,h1,h2⟩:=toksF_lastK s f (Pu.tokAt s i).to;exact⟨Pu.tokAt s i::l,by rw[h1];rfl,by simp;omega⟩
  .exact⟨[],rfl,by simp⟩
theorem tk_any(T:List Pu.Tok)(k:Nat):tk T k∈T\/tk T k=⟨7,⟨#[]⟩,0,0⟩:=by
 by_cases h:k<T.length
 .left;rw[<-tk_eq h];exact List.getElem_mem h
 .right;unfold tk;rw[List.getD_eq_getElem?_getD,List.getElem?_eq_none (by omega)];rfl
theorem tokEnd_G(t:Pu.Tok)(h7:t.kind=7)(hz:t.text.size<=400):TokG t:=⟨by simp[h7],by simp[h7],by simp[h7],by simp[h7],hz⟩
theorem lex_good(s:BA)(hs:s.size<=400):LexG (Pu.toks s 0) ((Pu.toks s 0).length-1)/\(Pu.toks s 0).length<=401:=by
 obtain⟨l,h1,h2⟩:=toksF_lastK s (s.size-0) 0
 have e:Pu.toks s 0=l++[Pu.endTok s]:=h1
 refine⟨⟨?_,fun k=>?_,by rw[e];simp⟩,by rw[e];simp;omega⟩
 .rw[e]
  unfold tk
  simp[Pu.endTok]
 .rcases tk_any (Pu.toks s 0) k with q|q
  .rcases toksF_mem s _ _ _ q with⟨j,hj,q⟩|q
   .rw[q];exact tokAt_G s hs j hj
   .rw[q];exact tokEnd_G _ rfl (by simp[Pu.endTok];decide)
  .rw[q];exact tokEnd_G _ rfl (by decide)
theorem isFl_in{s:BA}{f:Fl}(h:IsFl (Pu.toks s 0) f):f.kind≠0/\f.frm<=f.to/\f.to<=s.size:=by
 obtain⟨k,rfl⟩:=h
 refine⟨flOf_kind _,?_⟩
 have:(tk (Pu.toks s 0) k).frm<=(tk (Pu.toks s 0) k).to/\(tk (Pu.toks s 0) k).to<=s.size:=by
  rcases tk_any (Pu.toks s 0) k with q|q
  .rcases toksF_mem s _ _ _ q with⟨j,hj,q⟩|q
   .rw[q,Pu.tokAt_frm];have:=Pu.tokAt_to s j hj;omega
   .rw[q];simp[Pu.endTok]
  .rw[q];simp
 unfold flOf
 split<;>exact this
def D3:Dc->Prop
 |.ty t vs ms=>NmU t.text/\t.text.size<=400/\(∀v∈vs,NmV v.text/\v.text.size<=400)/\ms≠[]/\∀m∈ms,Up3 Ty3 m|.lt r t b=>NmL t.text/\t.text.size<=400/\Ex3 b/\(r=true->Fn3 b)
def nd3:Dc->Nat
 |.ty _ vs ms=>1+vs.length+nnL ms|.lt _ _ b=>1+nn b
section
variable {T:List Pu.Tok} {e:Nat}
theorem vars_got(h:LexG T e):∀f l k,k<=e->Got T (qdm T f l k) (fun l' k'=>∃vs,l'=l++vs/\(∀v∈vs,NmV v.text/\v.text.size<=400)/\k<=k'/\k'<=e/\vs.length=k'-k)
 |0,l,k,hk=>⟨[],by simp,by simp,br _,hk,by simp⟩|f+1,l,k,hk=>by
  unfold qdm
  split
  .rename_i h3
   refine(vars_got h f _ (k+1) (h.step hk (by omega))).mono ?_
   rintro l' k'⟨vs,rfl,a1,a2,a3,a4⟩
   exact⟨tk T k::vs,by simp,fun v hv=>by
    rcases List.mem_cons.1 hv with rfl|hv
    .exact⟨(h.tok k).var h3,(h.tok k).sz⟩
    .exact a1 v hv,by omega,a3,by simp;omega⟩
  .exact⟨[],by simp,by simp,br _,hk,by simp⟩
theorem maker_ok(h:LexG T e){sm:M Nd}(hm:OkP T e Ty3 sm):OkP T e (Up3 Ty3) (qbi T sm):=by
 intro k hk
 unfold qbi
 refine(got_name h hk 2 (by decide)).bnd ?_
 rintro t k1⟨rfl,t1,rfl,p1⟩
 refine(headF_got h hm T.length _ (k+1) p1 ⟨_,[],_,_,_,rfl,(h.tok k).up t1,(h.tok k).sz,by simp⟩).mono ?_
 rintro a k'⟨q1,q2,q3,q4⟩
 simp only[nn,nnL]at q4
 exact⟨q1,by omega,q3,by omega⟩
theorem makers_got(h:LexG T e){mk:M Nd}(hm:OkP T e (Up3 Ty3) mk):∀f l k,k<=e->Got T (qbj T mk f l k) (fun l' k'=>∃ms,l'=l++ms/\(∀m∈ms,Up3 Ty3 m)/\(f≠0->ms≠[])/\k<=k'/\k'<=e/\nnL ms<=2*(k'-k))
 |0,l,k,hk=>⟨[],by simp,by simp,by simp,br _,hk,by simp[nnL]⟩|f+1,l,k,hk=>by
  rw[makers_go]
  refine(hm k hk).bnd ?_
  rintro m k1⟨a1,a2,a3,a4⟩
  unfold qe0
  split
  .rename_i hc
   refine(makers_got h hm f _ (k1+1) (h.step a3 (by rw[isT_5 hc];decide))).mono ?_
   rintro l' k2⟨ms,rfl,c1,_,c3,c4,c5⟩
   refine⟨m::ms,by simp,fun q hq=>?_,by simp,by omega,c4,by simp[nnL];omega⟩
   rcases List.mem_cons.1 hq with rfl|hq
   .exact a1
   .exact c1 q hq
  .exact⟨[m],rfl,by simpa using a1,by simp,by omega,a3,by simp[nnL];omega⟩
def SpD(e k:Nat)(d:Dc)(k':Nat):Prop:=D3 d/\k<k'/\k'<=e/\nd3 d<=2*(k'-k)
theorem decl_ok(h:LexG T e)(n:Nat){k:Nat}(hk:k<=e):Got T (qdz T n k) (SpD e k):=by
 have ht:=typ_ok h n
 unfold qdz
 split
 .unfold typeM
  refine(qb0 h hk qce).bnd ?_
  rintro _ k1⟨rfl,p1⟩
  refine(got_name h p1 2 (by decide)).bnd ?_
  rintro t k2⟨rfl,t1,rfl,p2⟩
  refine(vars_got h T.length [] _ p2).bnd ?_
  rintro l k3⟨vs,rfl,v1,v2,v3,v4⟩
  refine(qb0 h v3 kEq).bnd ?_
  rintro _ k4⟨rfl,p4⟩
  refine(makers_got h (maker_ok h (small_ok h (leaf1 h) ht ht)) T.length [] _ p4).bnd ?_
  rintro l k5⟨ms,rfl,m1,m2,m3,m4,m5⟩
  refine(qb0 h m4 qeb).bnd ?_
  rintro _ k6⟨rfl,p6⟩
  exact⟨⟨(h.tok _).up t1,(h.tok _).sz,by simpa using v1,by simpa using m2 (by have:=h.pos;omega),by simpa using m1⟩,by omega,p6,by simp[nd3];omega⟩
 .unfold letDM
  refine(bound_ok h (expr_ok h n) hk).bnd ?_
  rintro⟨c,t,x⟩k1⟨⟨s1,s2,s3⟩,p2,p3,p4⟩
  refine(qb0 h p3 qeb).bnd ?_
  rintro _ k2⟨rfl,p5⟩
  simp only at s3 p4
  refine⟨⟨s1,s2,?_,?_⟩,by omega,p5,by simp[nd3];omega⟩
  .rcases s3 with⟨_,q⟩|⟨_,q⟩
   .exact q
   .exact q.ex
  .intro hr
   rcases s3 with⟨q,_⟩|⟨_,q⟩
   .simp[q]at hr
   .exact q
def ndL(l:List Dc):Nat:=(l.map nd3).sum
theorem decls_got(h:LexG T e)(n:Nat):∀f l k,k<=e->(∀d∈l,D3 d)->Got T (qbr T (qdz T n) f l k) (fun l' k'=>(∀d∈l',D3 d)/\k<=k'/\k'<=e/\ndL l'<=ndL l+2*(k'-k))
 |0,l,k,hk,hl=>⟨hl,br _,hk,by omega⟩|f+1,l,k,hk,hl=>by
  unfold qbr
  split
  .refine(decl_ok h n hk).bnd ?_
   rintro d k1⟨a1,a2,a3,a4⟩
   refine(decls_got h n f _ k1 a3 ?_).mono ?_
   .intro x hx
    rcases List.mem_append.1 hx with q|q
    .exact hl x q
    .rw[List.mem_singleton.1 q];exact a1
   .rintro l' k2⟨b1,b2,b3,b4⟩
    have:ndL (l++[d])=ndL l+nd3 d:=by simp[ndL]
    exact⟨b1,by omega,b3,by omega⟩
  .exact⟨hl,br _,hk,by omega⟩
end
theorem readP_got{s:BA}(hs:¬400<s.size):match qcq s with
 |.error f=>f.kind≠0/\f.frm<=f.to/\f.to<=s.size|.ok l=>(∀d∈l,D3 d)/\ndL l<=802:=by
 obtain⟨h,hl⟩:=lex_good s (by omega)
 have h1:=(decls_got h (Pu.toks s 0).length (Pu.toks s 0).length [] 0 (Nat.zero_le _) (by simp)).bnd (f:=endP (Pu.toks s 0)) (R:=fun l' k'=>(∀d∈l',D3 d)/\ndL l'<=802) (by
  rintro l' k'⟨a1,a2,a3,a4⟩
  unfold endP
  split
  .exact⟨a1,by simp[ndL]at a4⊢;omega⟩
  .exact qdh)
 unfold qcq
 rw[if_neg hs]
 revert h1
 cases bnd (qbr (Pu.toks s 0) (qdz (Pu.toks s 0) (Pu.toks s 0).length) (Pu.toks s 0).length []) (endP (Pu.toks s 0)) 0 with
 |error f=>intro h1;exact isFl_in h1|ok p=>intro h1;exact h1
end
section
open Go Go.RowKit Un
theorem dec_len_pow:∀(k n:Nat),n<10^(k+1)->(dec n).length<=k+1
 |0,n,h=>by
  have h':n<10:=by simpa using h
  unfold dec
  rw[if_pos h'];simp
 |k+1,n,h=>by
  unfold dec
  split
  .simp
  .have:=dec_len_pow k (n/10) (by rw[Nat.pow_succ]at h;omega)
   simp;omega
theorem dec_len9{n:Nat}(h:n<1000000000):(dec n).length<=9:=dec_len_pow 8 n h
inductive S4:Nd->Prop where
 |mk(k:Nat)(s:BA)(n:Nat)(L:List Nd)(f t a:Nat)(hs:s.size<=400)(hn:n<1000000000)(hL:∀x∈L,S4 x):S4 (.mk k s n L f t a)
theorem Ty3.s4{nd:Nd}(h:Ty3 nd):S4 nd:=by
 induction h with
 |var s n f t a h1 h2 h3=>exact .mk _ _ _ _ _ _ _ h2 (by omega) (by simp)|up s n L f t a h1 h2 h3 h4 ih=>exact .mk _ _ _ _ _ _ _ h2 (by omega) ih|pr x y f t a hx hy ihx ihy=>exact .mk _ _ _ _ _ _ _ (by decide) (by omega) (by simp[ihx,ihy])|fn x y f t a hx hy ihx ihy=>exact .mk _ _ _ _ _ _ _ (by decide) (by omega) (by simp[ihx,ihy])
theorem Pa3.s4{nd:Nd}(h:Pa3 nd):S4 nd:=by
 induction h with
 |any s f t a h1=>exact .mk _ _ _ _ _ _ _ h1 (by omega) (by simp)|low s f t a h1 h2=>exact .mk _ _ _ _ _ _ _ h2 (by omega) (by simp)|num s n f t a h1 h2=>exact .mk _ _ _ _ _ _ _ h2 h1 (by simp)|word s f t a h1 h2=>exact .mk _ _ _ _ _ _ _ h2 (by omega) (by simp)|unit f t a=>exact .mk _ _ _ _ _ _ _ (by decide) (by omega) (by simp)|pr x y f t a hx hy ihx ihy=>exact .mk _ _ _ _ _ _ _ (by decide) (by omega) (by simp[ihx,ihy])|up s n L f t a h1 h2 h3 h4 ih=>exact .mk _ _ _ _ _ _ _ h2 (by omega) ih
theorem armN_mem3{x:Nd}:∀{A:List (Nd×Nd)},x∈armN A->∃p∈A,x=p.1\/x=p.2
 |[],h=>by simp[armN]at h|p::A,h=>by
  simp only[armN,List.mem_cons]at h
  rcases h with rfl|rfl|h
  .exact⟨p,by simp,Or.inl rfl⟩
  .exact⟨p,by simp,Or.inr rfl⟩
  .obtain⟨q,h1,h2⟩:=armN_mem3 h;exact⟨q,by simp[h1],h2⟩
theorem Ex3.s4{nd:Nd}(h:Ex3 nd):S4 nd:=by
 induction h with
 |low s f t a h1 h2=>exact .mk _ _ _ _ _ _ _ h2 (by omega) (by simp)|up s f t a h1 h2=>exact .mk _ _ _ _ _ _ _ h2 (by omega) (by simp)|num s n f t a h1 h2=>exact .mk _ _ _ _ _ _ _ h2 h1 (by simp)|word s f t a h1 h2=>exact .mk _ _ _ _ _ _ _ h2 (by omega) (by simp)|unit f t a=>exact .mk _ _ _ _ _ _ _ (by decide) (by omega) (by simp)|pr x y f t a hx hy ihx ihy=>exact .mk _ _ _ _ _ _ _ (by decide) (by omega) (by simp[ihx,ihy])|of x y f t a hx hy ihx=>exact .mk _ _ _ _ _ _ _ (by decide) (by omega) (by simp[ihx,hy.s4])|op s x y f t a hs hx hy ihx ihy=>exact .mk _ _ _ _ _ _ _ (by rcases hs with rfl|rfl|rfl|rfl<;>decide) (by omega) (by simp[ihx,ihy])
 |call x y f t a hx hy ihx ihy=>exact .mk _ _ _ _ _ _ _ (by decide) (by omega) (by simp[ihx,ihy])|fn s x f t a h1 h2 hx ihx=>exact .mk _ _ _ _ _ _ _ h2 (by omega) (by simp[ihx])|lt s x z f t a h1 h2 hx hz ihx ihz=>exact .mk _ _ _ _ _ _ _ h2 (by omega) (by simp[ihx,ihz])|ltr s s' x z f t a f' t' a' h1 h2 h3 h4 hx hz ihx ihz=>exact .mk _ _ _ _ _ _ _ h2 (by omega) (by
  intro q hq
  simp only[List.mem_cons,List.not_mem_nil,or_false]at hq
  rcases hq with rfl|rfl
  .exact .mk _ _ _ _ _ _ _ h4 (by omega) (by simp[ihx])
  .exact ihz)
 |ite x y z f t a hx hy hz ihx ihy ihz=>exact .mk _ _ _ _ _ _ _ (by decide) (by omega) (by simp[ihx,ihy,ihz])|mt x A f t a h0 hx hp he ihx ihe=>exact .mk _ _ _ _ _ _ _ (by decide) (by omega) (by
  intro q hq
  rcases List.mem_cons.1 hq with rfl|hq
  .exact ihx
  .obtain⟨p,h1,h2⟩:=armN_mem3 hq
   rcases h2 with rfl|rfl
   .exact(hp p h1).s4
   .exact ihe p h1)
def tot:List (Nat×List UInt8)->Nat
 |[]=>0|p::r=>(p.2.length+8)+tot r
theorem atP_len(p:Nat×List UInt8)(k:Nat):(atP p k).length<=p.2.length+2:=by
 unfold atP Un.par
 split<;>simp
theorem behind_len:∀P,(qa4 P).length<=tot P
 |[]=>by simp[qa4,tot]|p::r=>by
  have h1:=behind_len r
  have h2:=atP_len p 5
  unfold qa4 at h1⊢
  simp only[List.flatMap_cons,lqa,lqc,tot]
  omega
theorem arms_len:∀(P:List (Nat×List UInt8))(b:Bool),(qc6 b P).length<=tot P
 |[],b=>by simp[qc6,tot]|[p],b=>by simp[qc6,tot]|p::e::r,b=>by
  have h1:=arms_len r false
  simp only[qc6,lqa,tot]
  have:(if b then[]else[32,124,32]:List UInt8).length<=3:=by split<;>simp
  simp
  omega
theorem gP_tot(P:List (Nat×List UInt8)):(gP P 0).2.length+(gP P 1).2.length+(gP P 2).2.length+0<=tot P/\(gP P 0).2.length+tot (P.drop 1)<=tot P:=by
 match P with
 |[]=>simp[gP,tot]|[p]=>simp[gP,tot]|[p,q]=>simp[gP,tot];omega|p::q::r::l=>simp[gP,tot];omega
theorem joinE_len(k:Nat)(s:BA)(n l:Nat)(P:List (Nat×List UInt8))(hn:n<1000000000):(qcb k s n l P).length<=s.size+50+tot P:=by
 have hs:s.toList.length=s.size:=by rw[ByteArray.toList_eq];rfl
 have hd:=dec_len9 hn
 have hb:=behind_len P
 obtain⟨h1,h2⟩:=gP_tot P
 have ha:=arms_len (P.drop 1) true
 have q0:=fun k=>atP_len (gP P 0) k
 have q1:=fun k=>atP_len (gP P 1) k
 unfold qcb
 by_cases c0:k=1\/k=4\/k=16
 .rw[if_pos c0]
  simp only[lqa,lqc,lqn,hs]
  omega
 rw[if_neg c0]
 by_cases c1:k=15
 .rw[if_pos c1]
  simp only[lqa,lqc,lqn,hs]
  omega
 rw[if_neg c1]
 by_cases c2:k=3
 .rw[if_pos c2]
  omega
 rw[if_neg c2]
 by_cases c3:k=5
 .rw[if_pos c3]
  simp only[lqa,lqc,lqn,hs]
  omega
 rw[if_neg c3]
 by_cases c4:k=2
 .rw[if_pos c4]
  simp only[lqa,lqc,lqn,hs]
  omega
 rw[if_neg c4]
 by_cases c5:k=6
 .rw[if_pos c5]
  simp only[lqa,lqc,lqn,hs]
  omega
 rw[if_neg c5]
 by_cases c6:k=14
 .rw[if_pos c6]
  simp only[lqa,lqc,lqn,hs]
  omega
 rw[if_neg c6]
 by_cases c7:k=17
 .rw[if_pos c7]
  simp only[lqa,lqc,lqn,hs]
  have:=q0 2
  omega
 rw[if_neg c7]
 by_cases c8:k=8
 .rw[if_pos c8]
  simp only[lqa,lqc,lqn,hs]
  have:=q0 4
  have:=q1 5
  omega
 rw[if_neg c8]
 by_cases c9:k=7
 .rw[if_pos c9]
  simp only[lqa,lqc,lqn,hs]
  have:=q0 (if l=1 then 2 else l)
  have:=q1 (l+1)
  omega
 rw[if_neg c9]
 by_cases c10:k=9
 .rw[if_pos c10]
  simp only[lqa,lqc,lqn,hs]
  omega
 rw[if_neg c10]
 by_cases c11:k=12
 .rw[if_pos c11]
  simp only[lqa,lqc,lqn,hs]
  omega
 rw[if_neg c11]
 by_cases c12:k=13
 .rw[if_pos c12]
  simp only[lqa,lqc,lqn,hs]
  omega
 rw[if_neg c12]
 have:(if k=11 then[114,101,99,32]else[]:List UInt8).length<=4:=by split<;>simp
 simp only[lqa,lqc,lqn,hs]
 omega
mutual
theorem sh_len:∀nd,S4 nd->(sh nd).length+8<=500*nn nd
 |.mk k s n L f t a,.mk _ _ _ _ _ _ _ hs hn hL=>by
  have h1:=prL_len L hL
  have h2:=joinE_len k s n (lv (.mk k s n L f t a)) (prL L) hn
  simp only[sh,nn]
  omega
theorem prL_len:∀L,(∀x∈L,S4 x)->tot (prL L)<=500*nnL L
 |[],_=>by simp[prL,tot]|x::l,h=>by
  have h1:=sh_len x (h x (by simp))
  have h2:=prL_len l (fun y hy=>h y (by simp[hy]))
  simp only[prL,tot,nnL]
  omega
end
theorem S4.sm{nd:Nd}(h:S4 nd):nn nd<=1001->Sm nd:=by
 induction h with
 |mk k s n L f t a hs hn hL ih=>
  intro hz
  simp only[nn]at hz
  refine .mk k s n L f t a (by omega) hn (by have:=nnL_len L;omega) fun x hx=>ih x hx ?_
  obtain⟨l1,l2,rfl⟩:=List.append_of_mem hx
  rw[nnL_app]at hz
  simp only[nnL]at hz
  omega
theorem Up3.s4{nd:Nd}(h:Up3 Ty3 nd):S4 nd:=by
 obtain⟨s,L,f,t,a,rfl,h1,h2,h3⟩:=h
 exact .mk _ _ _ _ _ _ _ h2 (by omega) fun x hx=>(h3 x hx).s4
theorem nnL_mem{x:Nd}{l:List Nd}(h:x∈l):nn x<=nnL l:=by
 obtain⟨l1,l2,rfl⟩:=List.append_of_mem h
 rw[nnL_app]
 simp only[nnL]
 omega
theorem mksW_len:∀(ms:List Nd)(b:Bool),(∀m∈ms,S4 m)->(mksW b ms).length<=500*nnL ms
 |[],b,_=>by simp[mksW]|m::ms,b,h=>by
  have h1:=sh_len m (h m (by simp))
  have h2:=mksW_len ms false (fun y hy=>h y (by simp[hy]))
  have:(if b then[61]else[124]:List UInt8).length=1:=by split<;>rfl
  simp only[mksW,lqa,lqc,lqn,nnL,this]
  omega
theorem vsW_len:∀(vs:List Pu.Tok),(∀v∈vs,v.text.size<=400)->(vsW vs).length<=500*vs.length
 |[],_=>by simp[vsW]|v::vs,h=>by
  have h1:=h v (by simp)
  have h2:=vsW_len vs (fun y hy=>h y (by simp[hy]))
  have hs:v.text.toList.length=v.text.size:=by rw[ByteArray.toList_eq];rfl
  unfold vsW at h2⊢
  simp only[List.flatMap_cons,lqa,lqc,lqn,hs]
  omega
theorem D3.len{d:Dc}(h:D3 d):(dcE d).length<=900*nd3 d:=by
 cases d with
 |ty t vs ms=>
  obtain⟨h1,h2,h3,h4,h5⟩:=h
  have a1:=vsW_len vs (fun v hv=>(h3 v hv).2)
  have a2:=mksW_len ms true (fun m hm=>(h5 m hm).s4)
  have hs:t.text.toList.length=t.text.size:=by rw[ByteArray.toList_eq];rfl
  simp only[dcE,dcS,lqa,lqc,lqn,hs,nd3]
  omega
 |lt r t b=>
  obtain⟨h1,h2,h3,h4⟩:=h
  have a2:=sh_len b h3.s4
  have hs:t.text.toList.length=t.text.size:=by rw[ByteArray.toList_eq];rfl
  have:(if r=true then[114,101,99,32]else[]:List UInt8).length<=4:=by split<;>simp
  simp only[dcE,dcS,letS,lqa,lqc,lqn,hs,nd3]
  omega
theorem prS_len:∀l:List Dc,(∀d∈l,D3 d)->(prS l).length<=900*ndL l/\l.length<=ndL l
 |[],_=>by simp[prS,ndL]|d::l,h=>by
  have h1:=(h d (by simp)).len
  have h2:=prS_len l (fun y hy=>h y (by simp[hy]))
  have h3:1<=nd3 d:=by cases d<;>simp[nd3]<;>omega
  unfold prS ndL at h2⊢
  simp only[List.flatMap_cons,lqa,List.map_cons,List.sum_cons,lqc]
  omega
theorem D3.smd{d:Dc}(h:D3 d)(hz:nd3 d<=802):SmD d:=by
 cases d with
 |ty t vs ms=>
  obtain⟨h1,h2,h3,h4,h5⟩:=h
  simp only[nd3]at hz
  refine⟨by omega,by omega,fun v hv=>by have:=(h3 v hv).2;omega,by have:=nnL_len ms;omega,fun m hm=>(h5 m hm).s4.sm (by have:=nnL_mem hm;omega)⟩
 |lt r t b=>
  obtain⟨h1,h2,h3,h4⟩:=h
  simp only[nd3]at hz
  exact⟨by omega,h3.s4.sm (by omega)⟩
theorem ndL_mem{d:Dc}{l:List Dc}(h:d∈l):nd3 d<=ndL l:=by
 obtain⟨l1,l2,rfl⟩:=List.append_of_mem h
 unfold ndL
 simp
 omega
theorem readP_long{s:BA}(hs:400<s.size):qcq s=.error ⟨1,0,0⟩:=by unfold qcq;rw[if_pos hs]
theorem smP_all(s:BA):SmP s:=by
 intro l hl
 by_cases hs:400<s.size
 .rw[readP_long hs]at hl;cases hl
 .have h:=readP_got hs
  rw[hl]at h
  obtain⟨h1,h2⟩:=h
  have h3:=prS_len l h1
  exact⟨fun d hd=>(h1 d hd).smd (by have:=ndL_mem hd;omega),by omega,by omega⟩
theorem readP_bad{s:BA}{f:Fl}(hf:qcq s=.error f):f.kind≠0/\f.frm<=f.to/\f.to<=s.size:=by
 by_cases hs:400<s.size
 .rw[readP_long hs]at hf;cases hf;simp
 .have h:=readP_got hs
  rw[hf]at h
  exact h
theorem knP(s:BA):KnP s:=fun _ h=>(readP_bad h).1
end
section
open Go Go.RowKit Un
theorem both{k:Nat}{s:BA}{n:Nat}{L:List Nd}{f t a:Nat}(hk:1<=k)(hk2:k<=17)(H:ShD (.mk k s n L f t a)):ShD (.mk k s n L f t a)/\AtD (.mk k s n L f t a):=⟨H,at_D hk hk2 H⟩
theorem Ty3.shD{nd:Nd}(h:Ty3 nd):ShD nd/\AtD nd:=by
 induction h with
 |var s n f t a _ _ _=>exact both (by omega) (by omega) (sh_16 _ _ _ _ _)|up s n L f t a _ _ _ _ ih=>exact both (by omega) (by omega) (sh_2 s n f t a fun x hx=>(ih x hx).2)|pr x y f t a _ _ ih1 ih2=>exact both (by omega) (by omega) (sh_6 _ _ _ _ _ ih1.1 ih2.1)|fn x y f t a _ _ ih1 ih2=>exact both (by omega) (by omega) (sh_17 _ _ _ _ _ ih1.2 ih2.1)
theorem Pa3.shD{nd:Nd}(h:Pa3 nd):ShD nd/\AtD nd:=by
 induction h with
 |any s f t a _=>exact both (by omega) (by omega) (sh_15 _ _ _ _ _)|low s f t a _ _=>exact both (by omega) (by omega) (sh_1 _ _ _ _ _)|num s n f t a hn _=>exact both (by omega) (by omega) (sh_3 _ _ _ _ _ (by omega))|word s f t a _ _=>exact both (by omega) (by omega) (sh_4 _ _ _ _ _)|unit f t a=>exact both (by omega) (by omega) (sh_5 _ _ _ _ _)|pr x y f t a _ _ ih1 ih2=>exact both (by omega) (by omega) (sh_6 _ _ _ _ _ ih1.1 ih2.1)|up s n L f t a _ _ _ _ ih=>exact both (by omega) (by omega) (sh_2 s n f t a fun x hx=>(ih x hx).2)
theorem Ex3.shD{nd:Nd}(h:Ex3 nd):ShD nd/\AtD nd:=by
 induction h with
 |low s f t a _ _=>exact both (by omega) (by omega) (sh_1 _ _ _ _ _)|up s f t a _ _=>exact both (by omega) (by omega) (sh_2 s 0 f t a fun x hx=>by simp at hx)|num s n f t a hn _=>exact both (by omega) (by omega) (sh_3 _ _ _ _ _ (by omega))|word s f t a _ _=>exact both (by omega) (by omega) (sh_4 _ _ _ _ _)|unit f t a=>exact both (by omega) (by omega) (sh_5 _ _ _ _ _)|pr x y f t a _ _ ih1 ih2=>exact both (by omega) (by omega) (sh_6 _ _ _ _ _ ih1.1 ih2.1)|of x y f t a _ hy ih1=>exact both (by omega) (by omega) (sh_14 _ _ _ _ _ ih1.1 hy.shD.1)|op s x y f t a _ _ _ ih1 ih2=>exact both (by omega) (by omega) (sh_7 _ _ _ _ _ ih1.2 ih2.2)|call x y f t a _ _ ih1 ih2=>exact both (by omega) (by omega) (sh_8 _ _ _ _ _ ih1.2 ih2.2)|fn s x f t a _ _ _ ih=>exact both (by omega) (by omega) (sh_9 _ _ _ _ _ ih.1)|lt s x z f t a _ _ _ _ ih1 ih2=>exact both (by omega) (by omega) (sh_10 _ _ _ _ _ ih1.1 ih2.1)|ltr s s' x z f t a f' t' a' _ _ _ _ _ _ ih1 ih2=>exact both (by omega) (by omega) (sh_11 _ _ _ _ _ (sh_9 _ _ _ _ _ ih1.1) ih2.1)|ite x y z f t a _ _ _ ih1 ih2 ih3=>exact both (by omega) (by omega) (sh_12 _ _ _ _ _ ih1.1 ih2.1 ih3.1)|mt x A f t a _ _ hp _ ih1 ih2=>exact both (by omega) (by omega) (sh_13 _ _ _ _ _ ih1.1 fun p hp'=>⟨(hp p hp').shD.1,(ih2 p hp').1⟩)
theorem D3.decD{d:Dc}(h:D3 d):DecD d:=by
 cases d with
 |ty t vs ms=>exact decD_ty fun m hm=>(h.2.2.2.2 m hm).ty.shD.1|lt r t b=>exact decD_lt h.2.2.1.shD.1
theorem read_decD(s:BA):∀l,qcq s=.ok l->(∀d∈l,DecD d)/\(prS l).length<=800000:=by
 intro l hl
 refine⟨fun d hd=>?_,(smP_all s l hl).2.2⟩
 by_cases hs:400<s.size
 .simp[qcq,hs]at hl
 .have h:=readP_got hs
  rw[hl]at h
  exact(h.1 d hd).decD
end
section
open Go Go.RowKit Un
section
variable {rb g cap:Nat} {T:List Pu.Tok}
theorem declaredD:DeclC rb g cap T 58 (typeM T (qbi T (qam T (typM T T.length) (typM T T.length) 1))):=by
 have hS:=small_C (T:=T) (rb:=rb) (g:=g) (cap:=cap) (typ:=typM T T.length) 1 (Or.inl rfl) (part_typed (typ_C T.length)) (fun h=>by omega) (qa2 T.length)
 have hH:=head_C (T:=T) 1 (Or.inl rfl) hS (qaw (qa2 T.length) (qa2 T.length) 1) (qfy 1)
 exact declared_C hH (by omega) (qfe (qaw (qa2 T.length) (qa2 T.length) 1) 1) (fun k hk=>maker_head (qfy 1 k hk) hk) (fun k hk=>maker_no hk)
theorem boundD:BoundC rb g cap T (qbg T (qaq T T.length)) (T.length+1):=bound_C (exprD_C T.length) (function_C (exprD_C T.length))
end
theorem makerD_mono(T:List Pu.Tok)(k:Nat)(a:Nd)(k':Nat)(h:qbi T (qam T (typM T T.length) (typM T T.length) 1) k=.ok (a,k')):k<=k':=by
 by_cases hk:(tk T k).kind=2
 .rw[maker_head (qfy 1 k hk) hk]at h
  have:=qfe (qaw (qa2 T.length) (qa2 T.length) 1) 1 _ _ _ h
  omega
 .rw[maker_no hk]at h
  cases h
theorem prog_D(s:BA){w:World}:Calls Tryz.prog 26 #[.string s] w (ProgDP s w):=by
 by_cases hs:400<s.size
 .exact prog_long s hs
 .exact prog_short s (by omega) (fun _ _ _ _=>declaredD) (fun _ _ _ _=>boundD) makerD_mono
theorem Show_D(s:BA){w:World}:Calls Tryz.prog 11 #[.string s] w (ShowP s w):=
 (ShowD_C (fun W=>prog_D s) (read_decD s)).mono fun e w' q=>by
  unfold ShowP showA
  cases hr:qcq s with
  |error f=>rw[hr]at q;exact q|ok l=>rw[hr]at q;exact q
end
section
open Go Go.RowKit Un
section
variable {w:World}
theorem plays_show{a b z:BA}{n k i j:Int}{bv:Value}(hP:∀W,Below w.heap.size w W->Calls Tryz.prog 10 #[.string a] W (fun e w'=>e=.returned (.tuple #[.string z,ftV k i j])/\Below W.heap.size W w'))(hR:∀W,Calls Tryz.prog 11 #[.string a] W (fun e w'=>e=.returned (.tuple #[.string z,ftV k i j])/\Below W.heap.size W w')):
 Calls Tryz.prog 9 #[bv,.agg #[.int .i64 1,.string a,.string b,.int .i64 n]] w fun e w'=>e=.returned (.bool true)/\Below w.heap.size w w':=by
 have HP:=ai hP
 have HR:=ai hR
 clear hP hR
 have hb0:Below w.heap.size w (w.alloc (.cells #[.int .i64 1,.string a,.string b,.int .i64 n] 30)):=bw _
 go_enter Tryz.func9,Tryz.ntmps9
 have B0:=Ox.new w #[.int .i64 1,.string a,.string b,.int .i64 n] 30 _ rfl
 go_wp2_with fail
 refine(uh HP _ hb0).mono ?_
 rintro e w1⟨rfl,hb1⟩
 have HB1:=hb0.trans (hb1.mono hb0.size)
 have B1:=ai (B0.below hb1)
 have hb2:Below w1.heap.size w1 (w1.alloc (.cells #[.int .i64 k,.int .i64 i,.int .i64 j] 34)):=bw _
 have HB2:=HB1.trans (hb2.mono HB1.size)
 have B2:=ai ((uh B1).below hb2)
 have F2:=ai (Ox.new w1 #[.int .i64 k,.int .i64 i,.int .i64 j] 34 _ rfl)
 obtain⟨c1,z1⟩:=uh B1
 obtain⟨c2,z2⟩:=uh B2
 unfold ftV
 go_wp2_with fail
 refine(uh HR _).mono ?_
 rintro e w3⟨rfl,hb3⟩
 have HB3:=HB2.trans (hb3.mono HB2.size)
 have F3:=(uh F2).below hb3
 have hb4:Below w3.heap.size w3 (w3.alloc (.cells #[.int .i64 k,.int .i64 i,.int .i64 j] 34)):=bw _
 have HB4:=HB3.trans (hb4.mono HB3.size)
 have F4:=F3.below hb4
 have G4:=Ox.new w3 #[.int .i64 k,.int .i64 i,.int .i64 j] 34 _ rfl
 obtain⟨c4,z4⟩:=F4
 obtain⟨d4,y4⟩:=G4
 clear c1 z1 c2 z2
 unfold ftV
 go_wp2_with fail
 refine(sameFault_C k i j).mono ?_
 rintro e w5⟨rfl,hb5⟩
 have HB5:=HB4.trans (hb5.mono HB4.size)
 clear c4 z4 d4 y4
 go_wp2_with fail
 go_ret
 exact⟨rfl,HB5⟩
theorem Shows_C{p:Option Addr}{len cap:Nat}{K N:Nat->Int}{A B:Nat->BA}(hlen:(len:Int)<=9223372036854775807)(hS:Scr w p len K N A B)(hP:∀i W bv,i<len->Below w.heap.size w W->1<=K i->K i<=1->Calls Tryz.prog 9 #[bv,opV (K i) (N i) (A i) (B i)] W fun e w'=>e=.returned (.bool true)/\Below W.heap.size W w'):
 Calls Tryz.prog 3 #[.slice p len cap] w fun e w'=>e=.returned (.bool true)/\Below w.heap.size w w':=by
 have HC:=ai (upTo_C (cap:=cap) hlen hS hP)
 clear hS hP
 go_enter Tryz.func3,Tryz.ntmps3
 go_wp2_with fail
 refine(uh HC).mono ?_
 rintro e w2⟨rfl,hb2⟩
 go_wp2_with fail
 go_ret
 exact⟨rfl,hb2⟩
theorem playsS_C(hL:Laid w)(h10:P10 w)(k n:Int)(a b:BA)(bv:Value)(h2:1<=k)(h3:k<=1):Calls Tryz.prog 9 #[bv,opV k n a b] w fun e w'=>e=.returned (.bool true)/\Below w.heap.size w w':=by
 have hk:k=1:=by omega
 subst hk
 exact plays_show (fun W hb=>(Show_P itoaC (h10.bel hb) (hL.bel hb) a (smP_all a) (knP a)).mono fun e w' q=>q) (fun W=>(Show_D a).mono fun e w' q=>q)
theorem Shows_law(hL:Laid w)(h10:P10 w){p:Option Addr}{len cap:Nat}{K N:Nat->Int}{A B:Nat->BA}(hlen:(len:Int)<=9223372036854775807)(hS:Scr w p len K N A B):
 Calls Tryz.prog 3 #[.slice p len cap] w fun e w'=>e=.returned (.bool true)/\Below w.heap.size w w':=
 Shows_C hlen hS fun i W bv _ hb h2 h3=>playsS_C (hL.bel hb) (h10.bel hb) _ _ _ _ bv h2 h3
end
end
end Go.Proofs.YtoceemjbcgmojaaGreatDoor

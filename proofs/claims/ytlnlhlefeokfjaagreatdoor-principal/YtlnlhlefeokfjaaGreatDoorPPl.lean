import Derived.Test.YtlnlhlefeokfjaaGreatDoorPPf
import Derived.Test.YtlnlhlefeokfjaaGreatDoorPTo
set_option linter.all false
set_option maxRecDepth 100000
set_option maxHeartbeats 8000000
namespace Go.Proofs.YtlnlhlefeokfjaaGreatDoor
open Pu renaming bF->ja,Tok->jc,aM->jd,dQ->jf,n9->jh,at_->ji,ig->jj
open _root_.List.Mem renaming tail->jk,head->jl
open _root_.Nat renaming lt_of_lt_of_le->jm,le_trans->jo,ne_of_gt->jp,le_of_lt->jq,succ_mul->jt,mul_le_mul_right->ju
open Go.Value renaming string->jv,slice->jx
open Go.ByteArray renaming toList_eq->jy
open Go.Proofs.Tryz renaming prog->jz,underlying209->j3
open Or renaming inl->j5,inr->j6
open Ke renaming J_->j7,of->j8
open Bool renaming and_eq_true->j9
open Go.World renaming cell?_of_block->qe
open Go.RowKit.Below renaming refl->qf,heap_setCell->qg
open _root_.List renaming range->qh
open Go Go.RowKit Proofs.Tryz
variable {C D args:Array Value} {c s:BA} {e:Ending} {post:Ending->World->Prop} {L:List (BA×Value)} {T:List jc} {q sm:M Nd} {N base f j k k' mt n rb sb sort vc xb:Nat} {P:Nat->Prop} {a:Nd} {va:Option Addr} {t:jc} {α β γ:Type} {et:TypeId} {W w w' w0 w3:World} {R:World->(Nat->Prop)->Nd->Value->Prop}
section
open Go.ChangeMaps
def r9{r}{a:α}(h:fin T r=.ok (a,k)):r=.ok (a,k)/\(tk T k).kind≠6:=by
 unfold fin at h;split at h
 .cases h
 .grind
theorem cW(a:α)(h:(tk T k).kind=6):fin T (.ok (a,k))=.error (eK<|tk T k):=by rw[fin];simp[h]
def lI(a:α)(h:(tk T k).kind≠6):fin T (.ok (a,k))=.ok (a,k):=by grind[tk,fin]
def aS{α:Type}(T:List jc)(g:M α):=∀k,(tk T k).kind=6->fin T (g k)=.error (eK<|tk T k)
theorem nH{m}{g:α->M β}{a}(h:fin T (m k)=.ok (a,k')):aV m g k=g a k':=by grind[fin,aV]
def b8{m}{g:α->M β}{f}(h:fin T (m k)=.error f)(hs:∀a,aS T<|g a):fin T (aV m g k)=.error f:=by grind[fin,aS,aV]
theorem eE(h:t.kind=6)s:aX t s=false:=by grind[aX]
def ZY(h:t.kind=6):aK t 1=false:=by grind[aK,bW,eE]
def r_(T:List jc)c:aS T (bz T c):=λk h=>by rw[bz];rw[eE h];rfl
theorem fZ{m}{g:α->M β}(h:aS T m)(hg:∀a,aS T<|g a):aS T (aV m g):=λk hk=>b8 (h k hk) hg
def Kc(T:List jc)mk:aS T (sd T mk):=fZ (r_ T _) λ_ k h=>cW _ h
def Kd(T:List jc)p q:aS T (aH T p q 1):=λk h=>by
 rw[aH];rw[ZY h];rfl
def xN(T:List jc)p f a:aS T (nI T p f a):=by grind[aS,nI,eE,cW]
def vQ(T:List jc):∀n,aS T<|da T n
 |0=>λk h=>rfl|n+1=>λk h=>by
  rw[da];refine b8 ?_<|λa=>xN T _ _ a;rw[iM];rw[if_neg<|by simp[h]];exact Kd T _ _ k h
def PT.iface{v}(h:PT w P a v):∃t x,v=.iface t (.agg x):=by
 cases h<;>exact⟨_,_,rfl⟩
def ij a b c d w:(Instr.field 203 (.agg #[a,b,c,d]) 0).run jz w=.ok (.agg #[a,b]) w:=qkr
def kQ a b w:(Instr.field 119 (.agg #[a,b]) 0).run jz w=.ok a w:=qkr
abbrev Gu:BA:=⟨#[108,111,119,32,110,97,109,101]⟩
abbrev OC:BA:=⟨#[97,32,110,117,109,98,101,114]⟩
abbrev rp rb:=Pv rb
abbrev pA(f rb:Nat):Value:=.func (.func f) #[rp rb] #[]
abbrev mY(f b:Nat):Value:=.func (.func f) #[] #[Pv b]
abbrev Vn(b c:Nat):Value:=.func (.func 177) #[] #[Pv b,Pv c]
abbrev Kf rb:=[(po,pA 115 rb),(vR,pA 116 rb)]
abbrev Rx rb:=[(OD,pA 117 rb),(vR,pA 118 rb),(kIf,pA 119 rb),(vS,pA 120 rb)]
abbrev uj rb b:=[(Gu,mY 121 b),(J9,pA 123 rb),(OC,mY 124 b),(iN,mY 126 b),(eF,mY 128 b),(nD,pA 129 rb)]
abbrev sf rb b:=[(CW,pA 130 rb),(Gu,mY 131 b),(J9,pA 132 rb),(OC,mY 133 b),(iN,mY 134 b),(eF,mY 135 b),(nD,pA 136 rb)]
def pB w N rb v L:=∃b,v=Mv b/\b<N/\b≠rb/\MS jv w b L
def gX w N rb b C:=b<N/\b≠rb/\Bx w b C
structure Maps w N rb(m:MV):Prop where
 d:pB w N rb m.a (Kf rb)
 wd:pB w N rb m.b (Rx rb)
 at_:∃x,gX w N rb x #[rp rb]/\pB w N rb m.c (uj rb x)
 pl:∃x,gX w N rb x #[rp rb]/\pB w N rb m.d (sf rb x)
 cm:∃x y,gX w N rb x #[rp rb]/\gX w N rb y #[pA 141 rb]/\pB w N rb m.f [(iC,Vn x y)]
 sm:∃x y x' y',gX w N rb x #[rp rb]/\gX w N rb y #[pA 142 rb]/\gX w N rb x' #[rp rb]/\gX w N rb y' #[pA 142 rb]/\pB w N rb m.g [(lB,Vn x y),(gp,Vn x' y')]
 pr:∃x y,gX w N rb x #[rp rb]/\gX w N rb y #[pA 143 rb]/\pB w N rb m.h [(jB,Vn x y)]
section
variable {m:MV}
theorem pB.move{v:Value}(h:pB w N rb v L)(hb:∀b,b<N->b≠rb->w'.heap[b]? =w.heap[b]?):pB w' N rb v L:=by
 obtain⟨b,h1,h2,h3,h4⟩:=h;exact⟨b,h1,h2,h3,h4.same<|hb b h2 h3⟩
theorem gX.move{b}(h:gX w N rb b C)(hs:w.heap.size<=w'.heap.size)(hb:∀b,b<N->b≠rb->w'.heap[b]? =w.heap[b]?):gX w' N rb b C:=
 ⟨h.1,h.2.1,h.2.2.same hs<|hb b h.1 h.2.1⟩
theorem Maps.move(h:Maps w N rb m)(hs:w.heap.size<=w'.heap.size)(hb:∀b,b<N->b≠rb->w'.heap[b]? =w.heap[b]?):Maps w' N rb m:=by
 obtain⟨d,wd,⟨x1,a1,a2⟩,⟨x2,b1,b2⟩,⟨x3,y3,c1,c2,c3⟩,⟨x4,y4,x5,y5,d1,d2,d3,d4,d5⟩,⟨x6,y6,e1,e2,e3⟩⟩:=h;exact⟨d.move hb,wd.move hb,⟨x1,a1.move hs hb,a2.move hb⟩,⟨x2,b1.move hs hb,b2.move hb⟩,⟨x3,y3,c1.move hs hb,c2.move hs hb,c3.move hb⟩,⟨x4,y4,x5,y5,d1.move hs hb,d2.move hs hb,d3.move hs hb,d4.move hs hb,d5.move hb⟩,⟨x6,y6,e1.move hs hb,e2.move hs hb,e3.move hb⟩⟩
structure Env w N rb sb m:Prop where
 sm:MS jv w sb (smL rb)
 la:Laid w
 h2:3<=rb
 hr:rb<N
 hs:sb<N
 ne:sb≠rb
 hN:N<=w.heap.size
 mp:Maps w N rb m
theorem Env.move(h:Env w N rb sb m)(hs:w.heap.size<=w'.heap.size)(hb:∀b,b<N->b≠rb->w'.heap[b]? =w.heap[b]?):Env w' N rb sb m:=by
 have c:∀b o,b<3->w'.cell? ⟨b,o,none⟩=w.cell? ⟨b,o,none⟩:=λb o q=>qe (a:=⟨b,o,none⟩) (hb b (by have:=h.hr;have:=h.h2;omega) (by have:=h.h2;omega));exact⟨h.sm.same<|hb sb h.hs h.ne,⟨λj hj=>(c 2 j ae).trans<|h.la.words j hj,λj hj=>(c 0 j ae).trans<|h.la.signs j hj,jo h.la.hz hs⟩,h.h2,h.hr,h.hs,h.ne,jo h.hN hs,h.mp.move hs hb⟩
def Env.ke(h:Env w N rb sb m)(hk:Ke rb w w'):Env w' N rb sb m:=h.move hk.size λb hb hn=>hk.block b (jm hb h.hN) hn
end
structure SX w N rb sb m s k:Prop where
 bx:Bx w rb (rdC s (tk (ja s 0) k) (aR (ja s 0) k) m sb)
 ev:Env w N rb sb m
 lt:k<(ja s 0).length
 ok:(tk (ja s 0) k).kind≠6
def ap{α:Type}(R:World->(Nat->Prop)->α->Value->Prop)N rb sb m s r w e w':=
 Ke rb w w'/\match fin (ja s 0) r with
  |.error f=>e=bU f|.ok (a,k)=>∃v,e=.returned v/\SX w' N rb sb m s k/\R w' (λb=>w.heap.size<=b) a v
section
variable {R:World->(Nat->Prop)->α->Value->Prop} {m:MV}
def SX.rd(h:SX w N rb sb m s k):RD w rb sb m s (tk (ja s 0) k) (aR (ja s 0) k):=⟨h.bx,h.ev.sm,h.ev.ne,h.ev.la,h.ev.h2⟩
theorem SX.move(h:SX w N rb sb m s k)(hs:w.heap.size<=w'.heap.size)(hb:∀b,b<N->w'.heap[b]? =w.heap[b]?):SX w' N rb sb m s k:=
 ⟨h.bx.same hs<|hb rb h.ev.hr,h.ev.move hs<|λb q _=>hb b q,h.lt,h.ok⟩
def SX.af(h:SX w N rb sb m s k)(hb:Bq w w'):SX w' N rb sb m s k:=h.move hb.size λb q=>hb.block b<|jm q h.ev.hN
def SX.z(h:SX w N rb sb m s k):rb<w.heap.size:=h.bx.z
def SX.of(h:RD w rb sb m s (tk (ja s 0) k) (aR (ja s 0) k))(hE:Env w N rb sb m)(h1:k<(ja s 0).length)(h2:(tk (ja s 0) k).kind≠6):SX w N rb sb m s k:=⟨h.bx,hE,h1,h2⟩
def ap.ok{r}(h:ap R N rb sb m s r w e w'){a}(hr:fin (ja s 0) r=.ok (a,k)):∃v,e=.returned v/\Ke rb w w'/\SX w' N rb sb m s k/\R w' (λb=>w.heap.size<=b) a v:=by grind[ap,fin]
def ap.bad{r}(h:ap R N rb sb m s r w e w'){f:Fl}(hr:fin (ja s 0) r=.error f):e=bU f/\Ke rb w w':=by grind[ap,fin]
def ap.fail{r}{f:Fl}(hK:Ke rb w w')(h:fin (ja s 0) r=.error f):ap R N rb sb m s r w (bU f) w':=⟨hK,by rw[h]⟩
def ap.stop{r}{mm}{g:β->M α}{f:Fl}(hE:r=aV mm g j)(hA:fin (ja s 0) (mm j)=.error f)(jA:∀a,aS (ja s 0)<|g a)(hK:Ke rb w w'):ap R N rb sb m s r w (bU f) w':=
 ap.fail hK (by rw[hE,b8 hA jA])
def ap.done{r}{a}{v:Value}(hE:r=.ok (a,k))(hK:Ke rb w w')(hS:SX w' N rb sb m s k)(hR:R w' (λb=>w.heap.size<=b) a v):ap R N rb sb m s r w (.returned v) w':=by
 refine⟨hK,?_⟩;rw[hE,lI _ hS.ok];exact⟨v,rfl,hS,hR⟩
def ap.go{f}{r}{mm}{g}{R':World->(Nat->Prop)->γ->Value->Prop}(hK:Hid (Ke rb w0 w))(hE:Hid (r=aV mm g j))(hC:Cq f args w (ap R N rb sb m s (mm j) w))(jA:∀a,aS (ja s 0)<|g a)(bad:∀f' w',ap R' N rb sb m s r w0 (bU f') w'->post (bU f') w')(ok:∀a k' v w',Hid (SX w' N rb sb m s k')->Hid (Ke rb w0 w')->Hid (r=g a k')->mm j=.ok (a,k')->w.heap.size<=w'.heap.size->Ke rb w w'->R w' (λb=>w.heap.size<=b) a v->post (.returned v) w'):Cq f args w post:=by
 refine hC.mono λe w' hp=>?_
 cases hA:fin (ja s 0) (mm j)with
 |error f'=>obtain⟨rfl,hb⟩:=hp.bad hA;exact bad f' w'<|ap.stop hE hA jA<|hK.trans hb
 |ok p=>obtain⟨a,k'⟩:=p;obtain⟨v,rfl,hb,hS,hR⟩:=hp.ok hA;exact ok a k' v w' hS (hK.trans hb) (hE.trans<|nH hA) (r9 hA).1 hb.size hb hR
def cx.x{v:Value}(h:cx rb sb m s (tk (ja s 0) k) v w e w')(hX:SX w N rb sb m s k)(h7:(tk (ja s 0) k).kind≠7){a}(hR:R w' (λb=>w.heap.size<=b) a v):ap R N rb sb m s (.ok (a,k+1)) w e w':=by
 have⟨h1,h2,h3⟩:=Rw s k hX.lt h7;rw[cx]at h;rw[h2,<-h3]at h;refine⟨h.1,?_⟩;rw[fin];obtain⟨g1,g2,g3⟩|⟨g1,g2⟩:=h.2
 .simp only[if_neg g1];exact⟨v,g2,SX.of g3 (hX.ev.ke h.1) h1 g1,hR⟩
 .grind
theorem uk(h:gF t)(hk:t.kind≠6){kd}(hs:kd.size<=5):((aA t).toList==kd.toList)=aX t kd:=by
 have hl:kd.toList.length<=5:=by rw[jy];simpa using hs
 have no:∀x:List UInt8,5<x.length->(x==kd.toList)=false:=λx hx=>by
  rw[beq_eq_false_iff_ne];intro e;rw[e]at hx;omega
 rw[aX];obtain h'|h'|h'|h'|h'|h'|h':=h.kd
 .rw[jN h',no _ qBe];simp[h']
 .rw[iw h',no _ qBe];simp[h']
 .rw[iy h',no _ qBe];simp[h']
 .rw[jO h',no _ qBe];simp[h']
 .rw[qI h'];simp[h']
 .exact absurd h' hk
 .rw[jP h',no _ qBe];simp[h']
def Ry{p:Prop}(h:p:=by
 obtain h'|h'|h'|h'|h'|h'|h':=h.kd
 .rw[jN h'];simp[h',jy]
 .rw[iw h'];simp[h',jy]
 .rw[iy h'];simp[h',jy]
 .rw[jO h'];simp[h',jy]
 .rw[mJ h hk aw h'];simp[h']
 .exact absurd h' hk
 .rw[jP h'];simp[h',jy]):p:=h
def Z3(h:gF t)(hk:t.kind≠6):((aA t).toList==Gu.toList)=(t.kind==1):=by
 exact Ry
def Z8(h:gF t)(hk:t.kind≠6):((aA t).toList==OC.toList)=(t.kind==4):=by
 exact Ry
abbrev tkA(t:jc):Value:=.agg #[Nv t.aF,Nv t.to,.string<|aA t,.string t.text]
abbrev nmA(t:jc):Value:=.agg #[Nv t.aF,Nv t.to,.string t.text]
def Is{α:Type}u(_:World)(_:Nat->Prop)(_:α)(v:Value):=v=u
def OE(_:World)(_:Nat->Prop)(t:jc)v:=v=nmA t
def Kg(h:aX t c=true):t.kind≠7:=by grind[aX]
def Z9(h:SX w N rb sb m s k)(hs:s.size<=1000)c(hc:c.size<=5):Cq 75 #[rp rb,.string c] w (ap (Is<|tkA<|tk (ja s 0) k) N rb sb m s (bz (ja s 0) c k) w):=by
 have ho:=eC s k h.lt;have hk:=uk ho h.ok hc
 cases hi:aX (tk (ja s 0) k) c with
 |true=>
  rw[hi]at hk;refine(iL h.rd hs (rD s k h.lt) c hk).mono λe w' hp=>?_;have mh:cx rb sb m s (tk (ja s 0) k) (dC<|tk (ja s 0) k) w e w':=hp;have:=mh.x (R:=Is<|tkA<|tk (ja s 0) k) h (Kg hi) (a:=()) rfl;rw[bz];rw[if_pos hi];exact this
 |false=>
  rw[hi]at hk;refine(Gs h.rd c hk h.ok).mono ?_;rintro e w'⟨rfl,hK⟩;exact ap.fail hK (by rw[bz];rw[hi];rfl)
def ahf(h:SX w N rb sb m s k)(hs:s.size<=1000)c(hc:c.size<=5)(hi:aX (tk (ja s 0) k) c=true):Cq 77 #[rp rb,.string c] w (ap (Is<|.bool true) N rb sb m s (.ok ((),k+1)) w):=by
 have ho:=eC s k h.lt;have hk:=uk ho h.ok hc;rw[hi]at hk;refine(ZS h.rd hs (rD s k h.lt) c hk).mono λe w' hp=>?_;have mh:cx rb sb m s (tk (ja s 0) k) (.bool true) w e w':=hp;exact mh.x (R:=Is<|.bool true) h (Kg hi) rfl
def ahg(h:SX w N rb sb m s k)c(hc:c.size<=5)(hi:aX (tk (ja s 0) k) c=false):Cq 77 #[rp rb,.string c] w λe w'=>e=.returned (.bool false)/\w=w':=
 (adB h.rd c (by rw[uk (eC s k h.lt) h.ok hc];exact hi)).mono λe w' q=>⟨q.1,q.2.symm⟩
def vU(h:SX w N rb sb m s k)(hs:s.size<=1000)n c(hc:n=1/\c=Gu\/n=2/\c=J9):Cq 101 #[rp rb,.string c] w (ap OE N rb sb m s (dl (ja s 0) n k) w):=by
 have ho:=eC s k h.lt;have hk:((aA<|tk (ja s 0) k).toList==c.toList)=((tk (ja s 0) k).kind==n):=by
  obtain⟨rfl,rfl⟩|⟨rfl,rfl⟩:=hc
  .exact Z3 ho h.ok
  .exact Gt ho h.ok
 cases hi:((tk (ja s 0) k).kind==n)with
 |true=>
  rw[hi]at hk;have hn:(tk (ja s 0) k).kind=n:=qBl;refine(OA h.rd hs (rD s k h.lt) c hk).mono λe w' hp=>?_;have:=hp.x (R:=OE) h (by obtain⟨rfl,_⟩|⟨rfl,_⟩:=hc<;>omega) (a:=tk (ja s 0) k) rfl;rw[dl];rw[if_pos hi];exact this
 |false=>
  rw[hi]at hk;refine(adC h.rd c hk h.ok).mono ?_;rintro e w'⟨rfl,hK⟩;exact ap.fail hK (by rw[dl];rw[hi];rfl)
def adE(h:SX w N rb sb m s k)i:Cq 78 #[rp rb,Iv i] w λe w'=>e=.returned (.agg #[Iv i,.int .i64 ((aR (ja s 0) k:Nat):Int)])/\Bq w w':=adA h.rd i
def Kh(g:Nat->α):aS T λk=>.ok (g k,k):=λ_ h=>cW _ h
theorem sg(T:List jc)n(hn:n≠6):aS T (dl T n):=λk h=>by rw[dl];rw[if_neg (by simp[h];omega)];rfl
end
def CX(s:BA):=∃x r,s.toList=x::r/\Pu.gN x.toNat=true
def ahh s:=0<s.size/\s.size<=9/\∀i,i<s.size->jf (ji s i)=true
structure afL(t:jc):Prop where
 sp:t.to=t.aF+t.text.size
 v1:t.kind=1->CX t.text
 v4:t.kind=4->ahh t.text
def Vo{p}:∀(d i j:Nat),j-i=d->i<=j->j<jd s p i->p (ji s j)=true:=by
 have hp6:∀i,i<jd s p i->i<s.size/\p (ji s i)=true:=λi h=>by
  by_cases hi:i<s.size
  .cases q:p (ji s i)with
   |true=>exact⟨hi,rfl⟩|false=>rw[Pu.pC hi q]at h;omega
  .rw[Pu.mK ae]at h;omega
 intro d
 induction d with
 |zero=>grind|succ d ih=>
  intro i j h1 h2 h3;have bA:i<jd s p i:=ae;have⟨g1,g2⟩:=hp6 i bA;rw[Pu.fY g1 g2]at h3;exact ih (i+1) j ae ae h3
def ahi s i e j(he:e<=s.size)(hj:i+j<e):ji (s.extract i e) j=ji s (i+j):=by
 have h1:j<(s.extract i e).size:=qBo;rw[jh h1,jh ae];rw[ByteArray.getElem_extract]
def Z_ s i(hi:i<s.size):afL (Pu.dB s i):=by
 have ht:=Pu.ue s i hi;revert ht;rw[Pu.dB];have ex:∀k b:Nat,i<b->b<=s.size->(jj s i k b).to=(jj s i k b).aF+(jj s i k b).text.size:=λk b h1 h2=>by
  show b=i+(s.extract i b).size;rw[ByteArray.size_extract];omega
 repeat' split
 all_goals intro ht
 all_goals refine⟨ex _ _ ht.1 ht.2,?_,?_⟩
 all_goals intro q
 all_goals try(exfalso;simp[jj]at q;done)
 .rename_i h1 _;exact⟨_,_,nF hi ht.1,by rw[<-jh hi];exact h1⟩
 .rename_i h4 h5;have hto:jd s jf (i+1)<=s.size:=ht.2;have bA:i<jd s jf (i+1):=ht.1;have fK:(s.extract i<|jd s jf<|i+1).size=jd s jf (i+1)-i:=qBo;refine⟨by show 0<(s.extract i _).size;omega,by show(s.extract i _).size<=9;omega,λj hj=>?_⟩;have hj':j<(s.extract i<|jd s jf<|i+1).size:=hj;show jf (ji (s.extract i _) j)=true;rw[ahi s i _ j hto ae]
  cases j with
  |zero=>exact h4|succ j=>exact Vo j (i+1) (i+(j+1)) ae ae ae
def pD s k(hk:k<(ja s 0).length):afL (tk (ja s 0) k):=by
 rw[jM s k hk];rw[aD];split
 .rename_i h;exact Z_ s _ h
 .exact⟨by simp[Pu.gB];rfl,qBr,qBr⟩
inductive PP(w:World)(P:Nat->Prop):Nd->Value->Prop where
 |any(s:BA)(n f t a:Nat):PP w P (.mk 15 s n [] f t a) (.iface 310<|.agg #[Nv f,Nv t])
 |low(s:BA)(n f t a:Nat)(hs:CX s):PP w P (.mk 1 s n [] f t a) (.iface 253<|.agg #[Nv f,Nv t,.string s])
 |num(s:BA)(n f t a:Nat):PP w P (.mk 3 s n [] f t a) (.iface 256<|.agg #[Nv f,Nv t,Nv n])
 |word(s:BA)(n f t a:Nat)(hs:s.toList=iN.toList\/s.toList=eF.toList):PP w P (.mk 4 s n [] f t a) (.iface 259<|.agg #[Nv f,Nv t,.bool<|s.toList==[116,114,117,101]])
 |unit(s:BA)(n f t a:Nat):PP w P (.mk 5 s n [] f t a) (.iface 309<|.agg #[Nv f,Nv t])
 |pr(s:BA)(n:Nat)(x y:Nd)(f t a:Nat)(vx vy:Value)(hx:PP w P x vx)(hy:PP w P y vy):PP w P (.mk 6 s n [x,y] f t a) (.iface 315<|.agg #[Nv f,Nv t,vx,vy])
 |up(s:BA)(n:Nat)(L:List Nd)(f t a y:Nat)(sa:Option Addr)(sc:Nat)(vs:Nat->Value)(hu:oA s)(hy:y=a+s.size)(aN:L=[]\/∃g,sa=some ⟨g,0,none⟩/\P g/\g<w.heap.size/\∀i,i<L.length->w.cell? ⟨g,i,none⟩=some (vs i))(hr:∀i(h:i<L.length),PP w P L[i]<|vs i):
  PP w P (.mk 2 s n L f t a) (.iface 313<|.agg #[Nv f,Nv t,Nv a,Nv y,.string s,.slice sa L.length sc])
inductive PE(w:World)(P:Nat->Prop):Nd->Value->Prop where
 |low(s:BA)(n f t a:Nat)(hs:CX s):PE w P (.mk 1 s n [] f t a) (.iface 253<|.agg #[Nv f,Nv t,.string s])
 |up(s:BA)(n f t a:Nat)(hs:oA s):PE w P (.mk 2 s n [] f t a) (.iface 282<|.agg #[Nv f,Nv t,.string s])
 |num(s:BA)(n f t a:Nat):PE w P (.mk 3 s n [] f t a) (.iface 256<|.agg #[Nv f,Nv t,Nv n])
 |word(s:BA)(n f t a:Nat)(hs:s.toList=iN.toList\/s.toList=eF.toList):PE w P (.mk 4 s n [] f t a) (.iface 259<|.agg #[Nv f,Nv t,.bool<|s.toList==[116,114,117,101]])
 |unit(s:BA)(n f t a:Nat):PE w P (.mk 5 s n [] f t a) (.iface 309<|.agg #[Nv f,Nv t])
 |pr(s:BA)(n:Nat)(x y:Nd)(f t a:Nat)(vx vy:Value)(hx:PE w P x vx)(hy:PE w P y vy):PE w P (.mk 6 s n [x,y] f t a) (.iface 284<|.agg #[Nv f,Nv t,vx,vy])
 |of(s:BA)(n:Nat)(x y:Nd)(f t a:Nat)(vx vy:Value)(hx:PE w P x vx)(hy:PT w P y vy):PE w P (.mk 14 s n [x,y] f t a) (.iface 287<|.agg #[Nv f,Nv t,vx,vy])
 |op(s:BA)(n:Nat)(x y:Nd)(f t a:Nat)(vx vy:Value)(hs:s=lB\/s=gp\/s=jB\/s=iC)(hx:PE w P x vx)(hy:PE w P y vy):PE w P (.mk 7 s n [x,y] f t a) (.iface 235<|.agg #[Nv f,Nv t,.string s,vx,vy])
 |call(s:BA)(n:Nat)(x y:Nd)(f t a:Nat)(vx vy:Value)(hx:PE w P x vx)(hy:PE w P y vy):PE w P (.mk 8 s n [x,y] f t a) (.iface 299<|.agg #[Nv f,Nv t,vx,vy])
 |fn(s:BA)(n:Nat)(x:Nd)(f t a y:Nat)(vx:Value)(hs:CX s)(hy:y=a+s.size)(hx:PE w P x vx):PE w P (.mk 9 s n [x] f t a) (.iface 289<|.agg #[Nv f,Nv t,Nv a,Nv y,.string s,vx])
 |lt(c:Nat)(s:BA)(n:Nat)(x z:Nd)(f t a y:Nat)(vx vz:Value)(hc:c=10\/c=11)(hs:CX s)(hy:y=a+s.size)(hx:PE w P x vx)(hz:PE w P z vz):PE w P (.mk c s n [x,z] f t a) (.iface 291<|.agg #[Nv f,Nv t,.bool<|c==11,Nv a,Nv y,.string s,vx,vz])
 |ite(s:BA)(n:Nat)(x y z:Nd)(f t a:Nat)(vx vy vz:Value)(hx:PE w P x vx)(hy:PE w P y vy)(hz:PE w P z vz):PE w P (.mk 12 s n [x,y,z] f t a) (.iface 293<|.agg #[Nv f,Nv t,vx,vy,vz])
 |mt(s:BA)(n:Nat)(x:Nd)(A:List (Nd×Nd))(f t a:Nat)(vx:Value)(g sc:Nat)(vp ve:Nat->Value)(h0:A≠[])(hg:P g)(hz:g<w.heap.size)(hc:∀i,i<A.length->(∃u v,w.cell? ⟨g,i*4,none⟩=some (Iv u)/\w.cell? ⟨g,i*4+1,none⟩=some (Iv v))/\w.cell? ⟨g,i*4+2,none⟩=some (vp i)/\w.cell? ⟨g,i*4+3,none⟩=some (ve i))(hx:PE w P x vx)(hp:∀i(h:i<A.length),PP w P A[i].1<|vp i)(he:∀i(h:i<A.length),PE w P A[i].2<|ve i):
  PE w P (.mk 13 s n (x::bq A) f t a) (.iface 296<|.agg #[Nv f,Nv t,vx,.slice (some ⟨g,0,none⟩) A.length sc])
section
variable {Q:Nat->Prop} {nd:Nd} {v:Value}
theorem PP.move(h:PP w P nd v)(hs:w.heap.size<=w'.heap.size)(hb:∀b,P b->b<w.heap.size->w'.heap[b]? =w.heap[b]?)(hq:∀b,P b->b<w.heap.size->Q b):PP w' Q nd v:=by
 induction h with
 |any s n f t a=>exact .any s n f t a|low s n f t a h=>exact .low s n f t a h|num s n f t a=>exact .num s n f t a|word s n f t a h=>exact .word s n f t a h|unit s n f t a=>exact .unit s n f t a|pr s n x y f t a vx vy _ _ lD rq=>exact .pr s n x y f t a vx vy lD rq|up s n L f t a y sa sc vs hu hy aN hr ih=>
  refine .up s n L f t a y sa sc vs hu hy ?_ ih;obtain h0|⟨g,h1,hP,hz,hc⟩:=aN
  .exact j5 h0
  .refine j6 ⟨g,h1,hq g hP hz,jm hz hs,λi hi=>?_⟩;rw[qe (a:=⟨g,i,none⟩) (w:=w)<|hb g hP hz];exact hc i hi
def PP.af(h:PP w P nd v)(hb:Bq w w'):PP w' P nd v:=h.move hb.size (λb _ hz=>hb.block b hz)<|λ_ p _=>p
def PP.wide(h:PP w P nd v)(hq:∀b,P b->Q b):PP w Q nd v:=h.move (br _) (λ_ _ _=>rfl)<|λb p _=>hq b p
def PP.iface(h:PP w P nd v):∃t x,v=.iface t (.agg x):=by cases h<;>exact⟨_,_,rfl⟩
theorem PE.move(h:PE w P nd v)(hs:w.heap.size<=w'.heap.size)(hb:∀b,P b->b<w.heap.size->w'.heap[b]? =w.heap[b]?)(hq:∀b,P b->b<w.heap.size->Q b):PE w' Q nd v:=by
 induction h with
 |low s n f t a h=>exact .low s n f t a h|up s n f t a h=>exact .up s n f t a h|num s n f t a=>exact .num s n f t a|word s n f t a h=>exact .word s n f t a h|unit s n f t a=>exact .unit s n f t a|pr s n x y f t a vx vy _ _ lD rq=>exact .pr s n x y f t a vx vy lD rq|of s n x y f t a vx vy _ hy lD=>exact .of s n x y f t a vx vy lD (hy.move hs hb hq)|op s n x y f t a vx vy ho _ _ lD rq=>exact .op s n x y f t a vx vy ho lD rq|call s n x y f t a vx vy _ _ lD rq=>exact .call s n x y f t a vx vy lD rq|fn s n x f t a y vx h1 h2 _ ih=>exact .fn s n x f t a y vx h1 h2 ih|lt c s n x z f t a y vx vz h1 h2 h3 _ _ lD ihz=>exact .lt c s n x z f t a y vx vz h1 h2 h3 lD ihz|ite s n x y z f t a vx vy vz _ _ _ lD rq ihz=>exact .ite s n x y z f t a vx vy vz lD rq ihz|mt s n x A f t a vx g sc vp ve h0 hg hz hc _ hp _ lD ihe=>
  have c:∀j,w'.cell? ⟨g,j,none⟩=w.cell? ⟨g,j,none⟩:=λj=>qe (a:=⟨g,j,none⟩)<|hb g hg hz;refine .mt s n x A f t a vx g sc vp ve h0 (hq g hg hz) (jm hz hs) (λi hi=>?_) lD (λi hi=>(hp i hi).move hs hb hq) ihe;rw[c,c,c,c];exact hc i hi
def PE.af(h:PE w P nd v)(hb:Bq w w'):PE w' P nd v:=h.move hb.size (λb _ hz=>hb.block b hz)<|λ_ p _=>p
def PE.wide(h:PE w P nd v)(hq:∀b,P b->Q b):PE w Q nd v:=h.move (br _) (λ_ _ _=>rfl)<|λb p _=>hq b p
def PE.iface(h:PE w P nd v):∃t x,v=.iface t (.agg x):=by cases h<;>exact⟨_,_,rfl⟩
end
def fc s n:=∀(w:World)(N rb sb:Nat)(m:MV)(k:Nat),SX w N rb sb m s k->(ja s 0).length<=k+n->
 Cq 172 #[rp rb] w (ap PE N rb sb m s (bt (ja s 0) n k) w)
def CY s n:=∀(w:World)(N rb sb:Nat)(m:MV)(k:Nat),SX w N rb sb m s k->(ja s 0).length<=k+n->
 Cq 176 #[rp rb] w (ap PP N rb sb m s (dv (ja s 0) n k) w)
def nJ rb f:Cq 140 #[rp rb,pA f rb] w λe w'=>∃x y,e=.returned (Vn x y)/\w.heap.size<=x/\w.heap.size<=y/\Bx w' x #[rp rb]/\Bx w' y #[pA f rb]/\Bq w w':=by
 go_enter func140,ntmps140
 go_wp2
 go_ret;refine⟨w.heap.size,w.heap.size+1,rfl,br _,Nat.le_succ _,(Bx.new w #[rp rb] _).alloc _,?_,(bw _).alloc ag _⟩;have:=Bx.new (w.alloc<|Cv #[rp rb] 141) #[pA f rb] 252;simpa using this
def aaa rb:(Cq 89 #[rp rb] w λe w'=>∃b,e=.returned (Mv b)/\w.heap.size<=b/\MS jv w' b (Kf rb)/\Bq w w')/\
 Cq 90 #[rp rb] w λe w'=>∃b,e=.returned (Mv b)/\w.heap.size<=b/\MS jv w' b (Rx rb)/\Bq w w':=by
 have H:=Ma.new (w:=w);have HB:=(qf w.heap.size w).alloc (br _)<|.map #[] 0;have iZ:= @run_makeMap jz;refine⟨?_,?_⟩;all_goals
  first|go_enter func89,ntmps89|go_enter func90,ntmps90
  go_wp2_with((refine aZ _ rfl _ _ _ _ (j5 rfl) (KL.str Tryz.underlying201) (by first|exact Tryz.underlying205|exact Tryz.underlying206) _ _ rfl H _ _ rfl rfl trivial (λ_ _=>trivial) ?_;clear H;intro w' H' O';have H:=ai H';have HB:=ai<|One.below HB O' qbr;clear H' O'));go_ret;exact⟨_,rfl,br _,H,HB⟩
def aab rb:(Cq 91 #[rp rb] w λe w'=>∃b x,e=.returned (Mv b)/\w.heap.size<=b/\w.heap.size<=x/\Bx w' x #[rp rb]/\MS jv w' b (uj rb x)/\Bq w w')/\
 Cq 92 #[rp rb] w λe w'=>∃b x,e=.returned (Mv b)/\w.heap.size<=b/\w.heap.size<=x/\Bx w' x #[rp rb]/\MS jv w' b (sf rb x)/\Bq w w':=by
 have H:Hid (MS Sv ((w.alloc<|Cv #[rp rb] 141).alloc<|.map #[] 0) (w.heap.size+1) []):=ai (by have:=Ma.new (w:=w.alloc<|Cv #[rp rb] 141);simpa using this);have HB:=ai<|((qf w.heap.size w).alloc (br _)<|Cv #[rp rb] 141).alloc ag<|.map #[] 0;have B0:=ai<|(Bx.new w #[rp rb] 141).alloc<|.map #[] 0;have⟨c0,f0,z0⟩:=uh B0;have iZ:= @run_makeMap jz;refine⟨?_,?_⟩;all_goals
  first|go_enter func91,ntmps91|go_enter func92,ntmps92
  go_wp2_with((refine aZ _ rfl _ _ _ _ (j5 rfl) (KL.str Tryz.underlying201) (by first|exact Tryz.underlying206|exact Tryz.underlying207) _ _ rfl H _ _ rfl rfl trivial (λ_ _=>trivial) ?_;clear H;intro w' H' O';have H:=ai H';have HB:=ai<|One.below HB O' ag;have B0:=ai<|B0.one O' ag;have⟨c0,f0,z0⟩:=uh B0;clear H' O'));go_ret;exact⟨_,_,rfl,ag,br _,B0,H,HB⟩
def aac rb:(Cq 94 #[rp rb] w λe w'=>∃b x0 y0,e=.returned (Mv b)/\w.heap.size<=b/\Bx w' x0 #[rp rb]/\Bx w' y0 #[pA 141 rb]/\w.heap.size<=x0/\w.heap.size<=y0/\MS jv w' b [(iC,Vn x0 y0)]/\Bq w w')/\
 Cq 96 #[rp rb] w λe w'=>∃b x0 y0,e=.returned (Mv b)/\w.heap.size<=b/\Bx w' x0 #[rp rb]/\Bx w' y0 #[pA 143 rb]/\w.heap.size<=x0/\w.heap.size<=y0/\MS jv w' b [(jB,Vn x0 y0)]/\Bq w w':=by
 have H:=Ma.new (w:=w);have HB:=(qf w.heap.size w).alloc (br _)<|.map #[] 0;have iZ:= @run_makeMap jz;refine⟨?_,?_⟩;all_goals
  first|go_enter func94,ntmps94|go_enter func96,ntmps96
  go_wp2_with fail;first|refine(nJ rb 141).mono ?_|refine(nJ rb 143).mono ?_
  intro e w1 hp;obtain⟨x0,y0,rfl,hlx,hly,X0,Y0,hb⟩:=hp;have lx0:=jm H.lt hlx;have ly0:=jm H.lt hly;have H:=H.below hb;have HB:=HB.trans<|hb.mono HB.size;go_wp2_with(refine aZ _ rfl _ _ _ _ (j5 rfl) (KL.str Tryz.underlying201) j3 _ _ rfl H _ _ rfl rfl trivial (λ_ _=>trivial) ?_;clear H;intro w' H' O';have H:=ai H';have HB:=ai<|One.below HB O' qbr;have X0:=ai<|X0.one O'<|jp lx0;have Y0:=ai<|Y0.one O'<|jp ly0;clear H' O');go_ret;exact⟨_,_,_,rfl,br _,X0,Y0,jq lx0,jq ly0,H,HB⟩
def OG rb:Cq 95 #[rp rb] w λe w'=>∃b x0 y0 x1 y1,e=.returned (Mv b)/\w.heap.size<=b/\Bx w' x0 #[rp rb]/\Bx w' y0 #[pA 142 rb]/\w.heap.size<=x0/\w.heap.size<=y0/\Bx w' x1 #[rp rb]/\Bx w' y1 #[pA 142 rb]/\w.heap.size<=x1/\w.heap.size<=y1/\MS jv w' b [(lB,Vn x0 y0),(gp,Vn x1 y1)]/\Bq w w':=by
 have H:=Ma.new (w:=w);have HB:=(Below.refl w.heap.size w).alloc (br _)<|.map #[] 0;have iZ:= @run_makeMap Tryz.prog;go_enter func95,ntmps95;go_wp2_with fail;refine(nJ rb 142).mono ?_;intro e w1 hp;obtain⟨x0,y0,rfl,hlx,hly,hx,hy,hb⟩:=hp;have lx0:=Nat.lt_of_lt_of_le H.lt hlx;have ly0:=Nat.lt_of_lt_of_le H.lt hly;have X0:=ai hx;have Y0:=ai hy;have H:=H.below hb;have HB:=HB.trans<|hb.mono HB.size;go_wp2_with(refine aZ _ rfl _ _ _ _ (Or.inl rfl) (KL.str Tryz.underlying201) Tryz.underlying209 _ _ rfl H _ _ rfl rfl trivial (λ_ _=>trivial) ?_;clear H;intro w' H' O';have H:=ai H';have HB:=ai<|One.below HB O' qbr;have X0:=ai<|X0.one O'<|Nat.ne_of_gt lx0;have Y0:=ai<|Y0.one O'<|Nat.ne_of_gt ly0;clear H' O');refine(nJ rb 142).mono ?_;intro e w2 hp;obtain⟨x1,y1,rfl,hlx,hly,X1,Y1,hb⟩:=hp;have lx1:=Nat.lt_of_lt_of_le H.lt hlx;have ly1:=Nat.lt_of_lt_of_le H.lt hly;have X0:=X0.below hb;have Y0:=Y0.below hb;have H:=H.below hb;have HB:=HB.trans<|hb.mono HB.size
 go_wp2_with(refine aZ _ rfl _ _ _ _ (j5 rfl) (KL.str Tryz.underlying201) j3 _ _ rfl H _ _ rfl rfl trivial (λ_ _=>trivial) ?_;clear H;intro w' H' O';have H:=ai H';have HB:=ai<|One.below HB O' qbr;have X0:=ai<|X0.one O'<|jp lx0;have Y0:=ai<|Y0.one O'<|jp ly0;have X1:=ai<|X1.one O'<|jp lx1;have Y1:=ai<|Y1.one O'<|jp ly1;clear H' O');go_ret;exact⟨_,_,_,_,_,rfl,br _,X0,Y0,jq lx0,jq ly0,X1,Y1,jq lx1,jq ly1,H,HB⟩
def qW w rb(ms:List (Nat×List (BA×Value)))(bs:List (Nat×Array Value)):=
 (∀p∈ms,p.1≠rb/\MS jv w p.1 p.2)/\∀q∈bs,q.1≠rb/\Bx w q.1 q.2
section
variable {ms:List (Nat×List (BA×Value))} {bs:List (Nat×Array Value)}
def qW.ke(h:qW w rb ms bs)(hk:Ke rb w w'):qW w' rb ms bs:=
 ⟨λp q=>⟨(h.1 p q).1,(h.1 p q).2.same<|hk.block _ (h.1 p q).2.lt (h.1 p q).1⟩,λp q=>⟨(h.2 p q).1,(h.2 p q).2.ke hk (h.2 p q).1⟩⟩
def qW.m(h:qW w rb ms bs){b}(hn:rb<b)(hm:MS jv w b L):qW w rb ((b,L)::ms) bs:=by grind[qW,bs,MS]
def qW.b(h:qW w rb ms bs){b}(hn:rb<b)(hm:Bx w b C):qW w rb ms ((b,C)::bs):=by grind[qW,bs]
def qW.map(h:qW w rb ms bs){b}(hm:(b,L)∈ms):pB w w.heap.size rb (Mv b) L:=⟨b,rfl,(h.1 _ hm).2.lt,(h.1 _ hm).1,(h.1 _ hm).2⟩
def qW.box(h:qW w rb ms bs){b}(hm:(b,C)∈bs):gX w w.heap.size rb b C:=⟨(h.2 _ hm).2.z,(h.2 _ hm).1,(h.2 _ hm).2⟩
end
def ajO s w e w':=
 Bq w w'/\(((aD s 0).kind≠6/\e=.returned (rp w.heap.size)/\∃N sb m,Bx w' w.heap.size (rdC s (aD s 0) 0 m sb)/\Env w' N w.heap.size sb m)\/((aD s 0).kind=6/\e=bU (eK<|aD s 0)))
def Gv rb:Cq 93 #[rp rb] w λe w'=>∃b,e=.returned (Mv b)/\w.heap.size<=b/\MS jv w' b (smL rb)/\Bq w w':=CU _
def xP(h:Laid w)s(hs:s.size<=1000):Cq 74 #[.string s] w (ajO s w):=by
 have B:=ai<|Bx.new w (zRd s) 211;have HB:=(Below.refl w.heap.size w).alloc (br _)<|Cv (zRd s) 211;have HL:=ai h;have HH:qW (w.alloc<|Cv (zRd s) 211) w.heap.size [] []:=⟨λp q=>absurd q ag,λp q=>absurd q ag⟩;have⟨c,f,z⟩:=uh B;have E:∀W,Laid W->Cq 97 #[Sv s,Iv 0] W (eM (aD s 0) W):=λW hW=>J' hW s 0 (Nat.zero_le _) hs;have cR:∀W:World,Bq w W->Laid W:=λW h=>HL.af h;have hz:=HL.hz;unfold ajO;generalize aD s 0=T at E⊢;go_enter func74,ntmps74;go_wp2_with fail;have zb0:=B.z;refine(aaa w.heap.size).1.mono ?_;intro e w1 hp;obtain⟨b0,rfl,le0,hM,hb⟩:=hp;have HH:=(HH.ke<|Ke.of hb).m (Nat.lt_of_lt_of_le zb0 le0) hM;have HB:=HB.trans<|hb.mono HB.size;have B:=ai<|B.below hb;have⟨c,f,z⟩:=uh B;go_wp2_with fail;have B:=ai<|B.aT 6 (Mv b0) (#[Sv s,Iv 0,Iv 0,Sv ⟨#[]⟩,Sv ⟨#[]⟩,Iv 0,Mv b0,.map none,.map none,.map none,.map none,.map none,.map none,.map none]) rfl ag;have HB:=HB.setCell (p:=⟨w.heap.size,6,none⟩) (br _)<|Mv b0;have HH:=HH.ke<|Ke.J_ _ _ 6<|Mv b0;have zb1:=B.z;refine(aaa w.heap.size).2.mono ?_;intro e w1 hp;obtain⟨b1,rfl,le1,hM,hb⟩:=hp;have HH:=(HH.ke<|Ke.of hb).m (Nat.lt_of_lt_of_le zb1 le1) hM;have HB:=HB.trans<|hb.mono HB.size;have B:=ai<|B.below hb;have⟨c,f,z⟩:=uh B;go_wp2_with fail
 have B:=ai<|B.aT 7 (Mv b1) (#[Sv s,Iv 0,Iv 0,Sv ⟨#[]⟩,Sv ⟨#[]⟩,Iv 0,Mv b0,Mv b1,.map none,.map none,.map none,.map none,.map none,.map none]) rfl ag;have HB:=HB.setCell (p:=⟨w.heap.size,7,none⟩) (br _)<|Mv b1;have HH:=HH.ke<|j7 _ _ 7<|Mv b1;have zb2:=B.z;refine(aab w.heap.size).1.mono ?_;intro e w1 hp;obtain⟨b2,x2,rfl,le2,lx2,hx,hM,hb⟩:=hp;have HH:=((HH.ke<|j8 hb).m (jm zb2 le2) hM).b (jm zb2 lx2) hx;have HB:=HB.trans<|hb.mono HB.size;have B:=ai<|B.below hb;have⟨c,f,z⟩:=uh B;go_wp2_with fail;have B:=ai<|B.aT 8 (Mv b2) (#[Sv s,Iv 0,Iv 0,Sv ⟨#[]⟩,Sv ⟨#[]⟩,Iv 0,Mv b0,Mv b1,Mv b2,.map none,.map none,.map none,.map none,.map none]) rfl ag;have HB:=HB.setCell (p:=⟨w.heap.size,8,none⟩) (br _)<|Mv b2;have HH:=HH.ke<|j7 _ _ 8<|Mv b2;have zb3:=B.z;refine(aab w.heap.size).2.mono ?_;intro e w1 hp;obtain⟨b3,x3,rfl,le3,lx3,hx,hM,hb⟩:=hp;have HH:=((HH.ke<|j8 hb).m (jm zb3 le3) hM).b (jm zb3 lx3) hx;have HB:=HB.trans<|hb.mono HB.size;have B:=ai<|B.below hb;have⟨c,f,z⟩:=uh B;go_wp2_with fail;have B:=ai<|B.aT 9 (Mv b3) (#[Sv s,Iv 0,Iv 0,Sv ⟨#[]⟩,Sv ⟨#[]⟩,Iv 0,Mv b0,Mv b1,Mv b2,Mv b3,.map none,.map none,.map none,.map none]) rfl ag;have HB:=HB.setCell (p:=⟨w.heap.size,9,none⟩) (br _)<|Mv b3;have HH:=HH.ke<|j7 _ _ 9<|Mv b3;have zb4:=B.z
 refine(Gv w.heap.size).mono ?_;intro e w1 hp;obtain⟨b4,rfl,le4,hM,hb⟩:=hp;have HH:=(HH.ke<|j8 hb).m (jm zb4 le4) hM;have HB:=HB.trans<|hb.mono HB.size;have B:=ai<|B.below hb;have⟨c,f,z⟩:=uh B;go_wp2_with fail;have B:=ai<|B.aT 10 (Mv b4) (#[Sv s,Iv 0,Iv 0,Sv ⟨#[]⟩,Sv ⟨#[]⟩,Iv 0,Mv b0,Mv b1,Mv b2,Mv b3,Mv b4,.map none,.map none,.map none]) rfl ag;have HB:=HB.setCell (p:=⟨w.heap.size,10,none⟩) (br _)<|Mv b4;have HH:=HH.ke<|j7 _ _ 10<|Mv b4;have zb5:=B.z;refine(aac w.heap.size).1.mono ?_;intro e w1 hp;obtain⟨b5,x5,y5,rfl,le5,hx,hy,lx,ly,hM,hb⟩:=hp;have HH:=(((HH.ke<|j8 hb).m (jm zb5 le5) hM).b (jm zb5 lx) hx).b (jm zb5 ly) hy;have HB:=HB.trans<|hb.mono HB.size;have B:=ai<|B.below hb;have⟨c,f,z⟩:=uh B;go_wp2_with fail;have B:=ai<|B.aT 11 (Mv b5) (#[Sv s,Iv 0,Iv 0,Sv ⟨#[]⟩,Sv ⟨#[]⟩,Iv 0,Mv b0,Mv b1,Mv b2,Mv b3,Mv b4,Mv b5,.map none,.map none]) rfl ag;have HB:=HB.setCell (p:=⟨w.heap.size,11,none⟩) (br _)<|Mv b5;have HH:=HH.ke<|j7 _ _ 11<|Mv b5;have zb6:=B.z;refine(OG w.heap.size).mono ?_;intro e w1 hp;obtain⟨b6,x6,y6,u6,v6,rfl,le6,hx,hy,lx,ly,hu,hv,lu,lv,hM,hb⟩:=hp
 have HH:=(((((HH.ke<|j8 hb).m (jm zb6 le6) hM).b (jm zb6 lx) hx).b (jm zb6 ly) hy).b (jm zb6 lu) hu).b (jm zb6 lv) hv;have HB:=HB.trans<|hb.mono HB.size;have B:=ai<|B.below hb;have⟨c,f,z⟩:=uh B;go_wp2_with fail;have B:=ai<|B.aT 12 (Mv b6) (#[Sv s,Iv 0,Iv 0,Sv ⟨#[]⟩,Sv ⟨#[]⟩,Iv 0,Mv b0,Mv b1,Mv b2,Mv b3,Mv b4,Mv b5,Mv b6,.map none]) rfl ag;have HB:=HB.setCell (p:=⟨w.heap.size,12,none⟩) (br _)<|Mv b6;have HH:=HH.ke<|j7 _ _ 12<|Mv b6;have zb7:=B.z;refine(aac w.heap.size).2.mono ?_;intro e w1 hp;obtain⟨b7,x7,y7,rfl,le7,hx,hy,lx,ly,hM,hb⟩:=hp;have HH:=(((HH.ke<|j8 hb).m (jm zb7 le7) hM).b (jm zb7 lx) hx).b (jm zb7 ly) hy;have HB:=HB.trans<|hb.mono HB.size;have B:=ai<|B.below hb;have⟨c,f,z⟩:=uh B;go_wp2_with fail;have B:=ai<|B.aT 13 (Mv b7) (#[Sv s,Iv 0,Iv 0,Sv ⟨#[]⟩,Sv ⟨#[]⟩,Iv 0,Mv b0,Mv b1,Mv b2,Mv b3,Mv b4,Mv b5,Mv b6,Mv b7]) rfl ag;have HB:=HB.setCell (p:=⟨w.heap.size,13,none⟩) (br _)<|Mv b7;have HH:=HH.ke<|j7 _ _ 13<|Mv b7;refine(E _<|cR _ HB).mono ?_;intro e w9 hp;by_cases hk:T.kind=6
 .obtain⟨rfl,hb⟩:=hp.bad hk;have HB:=HB.trans<|hb.mono HB.size;exact⟨rfl,HB,j6 ⟨hk,by rw[afI T hk];rfl⟩⟩
 .obtain⟨rfl,hb⟩:=hp.ok hk;have HB:=HB.trans<|hb.mono HB.size;have B:=ai<|B.below hb;have HH:=HH.ke<|j8 hb;have⟨c,f,z⟩:=uh B
  go_wp2
  go_ret;have du:=(((HB.setCell (p:=⟨w.heap.size,1,none⟩) (br _)<|Nv T.aF).setCell (p:=⟨w.heap.size,2,none⟩) (br _)<|Nv T.to).setCell (p:=⟨w.heap.size,3,none⟩) (br _)<|Sv<|aA T).setCell (p:=⟨w.heap.size,4,none⟩) (br _)<|Sv T.text;have Ca:=((((HH.ke<|j7 _ _ 1<|Nv T.aF).ke<|j7 _ _ 2<|Nv T.to).ke<|j7 _ _ 3<|Sv<|aA T).ke<|j7 _ _ 4<|Sv T.text);have B2:=B.ZQ (Nv T.aF) (Nv T.to) (Sv<|aA T)<|Sv T.text;generalize(((w9.setCell ⟨w.heap.size,1,none⟩<|Nv T.aF).setCell ⟨w.heap.size,2,none⟩<|Nv T.to).setCell ⟨w.heap.size,3,none⟩<|Sv<|aA T).setCell ⟨w.heap.size,4,none⟩ (Sv T.text)=W at du Ca B2⊢;have sm4:=Ca.map (b:=b4) (L:=smL w.heap.size)<|jk _<|jk _<|jk _<|jl _;obtain⟨_,q1,q2,q3,q4⟩:=sm4
  cases q1
  refine⟨du,j5 ⟨hk,rfl,W.heap.size,b4,⟨Mv b0,Mv b1,Mv b2,Mv b3,Mv b5,Mv b6,Mv b7⟩,B2,q4,cR _ du,hz,B2.z,q2,q3,br _,?_⟩⟩
  exact⟨Ca.map<|jk _<|jk _<|jk _<|jk _<|jk _<|jk _<|jk _<|jl _,Ca.map<|jk _<|jk _<|jk _<|jk _<|jk _<|jk _<|jl _,⟨x2,Ca.box<|jk _<|jk _<|jk _<|jk _<|jk _<|jk _<|jk _<|jk _<|jk _<|jl _,Ca.map<|jk _<|jk _<|jk _<|jk _<|jk _<|jl _⟩,⟨x3,Ca.box<|jk _<|jk _<|jk _<|jk _<|jk _<|jk _<|jk _<|jk _<|jl _,Ca.map<|jk _<|jk _<|jk _<|jk _<|jl _⟩,⟨x5,y5,Ca.box<|jk _<|jk _<|jk _<|jk _<|jk _<|jk _<|jk _<|jl _,Ca.box<|jk _<|jk _<|jk _<|jk _<|jk _<|jk _<|jl _,Ca.map<|jk _<|jk _<|jl _⟩,⟨x6,y6,u6,v6,Ca.box<|jk _<|jk _<|jk _<|jk _<|jk _<|jl _,Ca.box<|jk _<|jk _<|jk _<|jk _<|jl _,Ca.box<|jk _<|jk _<|jk _<|jl _,Ca.box<|jk _<|jk _<|jl _,Ca.map<|jk _<|jl _⟩,⟨x7,y7,Ca.box<|jk _<|jl _,Ca.box<|jl _,Ca.map<|jl _⟩⟩
end
def Ki w e s:Bq w (Lib.bytesWorld w e s):=by
 refine⟨?_,?_,?_,by rw[Lib.bytesWorld_size];omega,λb hb=>Lib.bytesWorld_at_old w e s b hb⟩;all_goals(simp[Lib.bytesWorld,World.freeze];try rfl)
def adF s(h:ahh s):Cq 195 #[.string s] w λe w'=>e=.returned (.tuple #[Nv<|Kj s,.nilIface])/\Bq w w':=by
 obtain⟨h0,h9,hd⟩:=h;have hcv:=Lib.run_convert_string_bytes (P:=Tryz.prog) w 9 95 5 s Tryz.underlying9 Tryz.underlying95 Tryz.underlying5;have hb:=Ki w 5 s;have bQ:=λj hj=>Lib.bytesWorld_cell w 5 s j hj;have l0:(0:Int)<(s.size:Int):=ae;have l1:(s.size:Int)<19:=ae;have a0:=hd 0 h0;rw[Pu.n9 h0]at a0;simp only[Pu.dQ,Bool.and_eq_true,Nat.ble_eq]at a0;have e1:((s[0].toNat:Int)==45)=false:=bD;have e2:((s[0].toNat:Int)==43)=false:=bD;generalize Lib.bytesWorld w 5 s=W at hcv hb bQ;generalize grownCap w s.size 0 5=C at hcv;go_enter func195,ntmps195
 go_wp2
 go_loop[6,49] (λn i=>∃k:Nat,k<=s.size/\i=Nv k/\n=Nv (Gw s k)) (λ_ i=>s.size-(intOf i).toNat)
 case atStart=>exact⟨0,ae,rfl,rfl⟩
 case round=>
  obtain⟨k,h1,rfl,rfl⟩:=hrel;have hn:=adG s k ae;by_cases ha:k<s.size
  .have hc:=bQ k ha;have dk:=hd k ha;have ek:s.data.toList.getD k 0=s[k]:=by
    rw[List.getD_eq_getElem?_getD,List.getElem?_eq_getElem<|by simpa using ha];rfl
   rw[ek]at hc;rw[jh ha]at dk;simp only[jf,j9,Nat.ble_eq]at dk;have bA:(k:Int)<(s.size:Int):=ae;clear bQ
   go_wp2
   refine⟨⟨k+1,ae,i_,congrArg (Value.int .i64) ?_⟩,by simp[intOf];omega⟩;simp only[Gw,jh ha];omega
  .have bA:decide ((k:Int)<(s.size:Int))=false:=bD;clear bQ
   go_wp2
   go_ret2;have ek:k=s.size:=ae;refine⟨?_,hb⟩;show Rv (.tuple #[Nv<|Gw s k,Zv])=_;rw[Kj];rw[show min s.size 9=k by omega]
def ahj w:(binOp .neq 239 .nilIface .nilIface).run jz w=.ok (.bool false) w:=qkr
def ahk s(h:ahh s):Cq 175 #[.string s] w λe w'=>e=.returned (.tuple #[Nv<|Kj s,.nilIface])/\Bq w w':=by
 have HC:=adF (w:=w) s h;have hn:=ahj;go_enter func175,ntmps175;go_wp2_with fail;refine HC.mono ?_;rintro e w1⟨rfl,hb⟩
 go_wp2
 go_ret2;exact⟨rfl,hb⟩
section
open Go.ChangeMaps
section
variable {m:MV}
def SX.set(h:SX w N rb sb m s k){b:Nat}(hb:N<=b)j v:SX (w.setCell ⟨b,j,none⟩ v) N rb sb m s k:=
 h.move zJ λc hc=>qg _ _ _ _ (by show c≠b;omega)
def SX.Gn(h:SX w N rb sb m s k){b:Nat}(hb:N<=b)v0 v1 v2:SX (((w.setCell ⟨b,0,none⟩ v0).setCell ⟨b,1,none⟩ v1).setCell ⟨b,2,none⟩ v2) N rb sb m s k:=((h.set hb 0 v0).set hb 1 v1).set hb 2 v2
def aad(h:SX w N rb sb m s k)(hs:s.size<=1000)(h7:(tk (ja s 0) k).kind≠7):Cq 99 #[rp rb] w (ap (Is<|tkA<|tk (ja s 0) k) N rb sb m s (.ok ((),k+1)) w):=
 (AA h.rd hs<|rD s k h.lt).mono λe w' hp=>by
  have mh:cx rb sb m s (tk (ja s 0) k) (dC<|tk (ja s 0) k) w e w':=hp;exact mh.x (R:=Is<|tkA<|tk (ja s 0) k) h h7 rfl
def Vp(h:SX w N rb sb m s k)(hs:s.size<=1000)(h4:(tk (ja s 0) k).kind=4):Cq 75 #[rp rb,.string OC] w (ap (Is<|tkA<|tk (ja s 0) k) N rb sb m s (.ok ((),k+1)) w):=by
 have hk:=Z8 (eC s k h.lt) h.ok;rw[h4]at hk;refine(iL h.rd hs (rD s k h.lt) OC<|by simpa using hk).mono λe w' hp=>?_;have mh:cx rb sb m s (tk (ja s 0) k) (dC<|tk (ja s 0) k) w e w':=hp;exact mh.x (R:=Is<|tkA<|tk (ja s 0) k) h ae rfl
def ul{k}(h:(tk T k).kind=n):dl T n k=.ok (tk T k,k+1):=by grind[tk,dl]
def uo{k}c(h:bW (tk T k)=c):cN (tk T k)=.mk c (tk T k).text (nK<|tk T k) [] (tk T k).aF (tk T k).to (tk T k).aF:=by rw[cN];rw[h]
def Vq(h:SX w N rb sb m s k)(hs:s.size<=1000):Cq 122 #[rp rb] w (ap OE N rb sb m s (dl (ja s 0) 1 k) w):=by
 have hz:=h.z;have hN:=h.ev.hN;have⟨b0,B0⟩:=oF w zNm 253;have HC:=vU (h.af b0) hs 1 Gu<|Or.inl ⟨rfl,rfl⟩;go_enter func122,ntmps122;go_wp2_with fail;refine HC.mono ?_;intro e w1 hp
 cases hA:fin (ja s 0) (dl (ja s 0) 1 k)with
 |error f=>
  obtain⟨rfl,hb⟩:=hp.bad hA;exact⟨rfl,ap.fail ((j8 b0).trans hb) hA⟩
 |ok r=>
 obtain⟨t,k1⟩:=r;obtain⟨v,rfl,hb,hS,hR⟩:=hp.ok hA
 cases hR
 have B1:=ai<|(B0.Gq hb ae).alloc<|Cv #[Nv t.aF,Nv t.to,Sv t.text] 121;have K1:=((j8 b0).trans hb).gE<|bw<|Cv #[Nv t.aF,Nv t.to,Sv t.text] 121;have S1:=hS.af<|bw<|Cv #[Nv t.aF,Nv t.to,Sv t.text] 121;have bA:=hb.size;simp at bA;have⟨c,f,z⟩:=uh B1;go_wp2_with fail;have⟨cF,fF,zF⟩:=B1.fW rfl (Nv t.aF) (Nv t.to) (Sv t.text);exact bodyPost_ret (v:=nmA t) (by simp[results,Tryz.results122,go_sem,cF]) rfl (ap.done (r9 hA).1 (K1.uf (br _) _ _ _) (S1.Gn hN _ _ _) rfl)
def uq{p:Prop}(h:p:=by
 obtain⟨rfl,hb⟩:=hp.bad<|cW _ h6
 exact⟨rfl,ap.fail hb<|cW _ h6⟩):p:=h
def afM(h:SX w N rb sb m s k)(hs:s.size<=1000)(hk:(tk (ja s 0) k).kind=2):(Cq 123 #[rp rb] w<|ap PE N rb sb m s (.ok (cN<|tk (ja s 0) k,k+1)) w)/\
 Cq 132 #[rp rb] w (ap PP N rb sb m s (.ok (cN<|tk (ja s 0) k,k+1)) w):=by
 have hi:=pD s k h.lt;have ho:=eC s k h.lt;have HC:=vU h hs 2 J9<|j6 ⟨rfl,rfl⟩;have Xh:=ij;refine⟨?_,?_⟩;all_goals
  first|go_enter func123,ntmps123|go_enter func132,ntmps132
  go_wp2_with fail;refine HC.mono ?_;intro e w1 hp;have hm:=ul hk;rw[hm]at hp;by_cases h6:(tk (ja s 0)<|k+1).kind=6
  .exact uq
  obtain⟨v,rfl,hb,hS,hR⟩:=hp.ok<|lI _ h6
  cases hR
  have K1:=hb.gE<|bw<|Cv #[Nv (tk (ja s 0) k).aF,Nv (tk (ja s 0) k).to,Sv (tk (ja s 0) k).text] 121;have S1:=hS.af<|bw<|Cv #[Nv (tk (ja s 0) k).aF,Nv (tk (ja s 0) k).to,Sv (tk (ja s 0) k).text] 121
  go_wp2
  go_ret;refine ap.done rfl K1 S1 ?_;rw[uo 2 (by rw[bW];simp[hk])];first|exact .up _ _ _ _ _ (ho.v2 hk)|exact .up _ _ [] _ _ _ _ none 0 (λ_=>Zv) (ho.v2 hk) hi.sp (j5 rfl) (λi hi=>by simp at hi)
def OH(h:SX w N rb sb m s k)(hs:s.size<=1000)(hk:aX (tk (ja s 0) k) CW=true):Cq 130 #[rp rb] w (ap PP N rb sb m s (.ok (cN<|tk (ja s 0) k,k+1)) w):=by
 have hi:=pD s k h.lt;have ho:=eC s k h.lt;have HC:=Z9 h hs CW aw;have Xh:=ij;go_enter func130,ntmps130;go_wp2_with fail;refine HC.mono ?_;intro e w1 hp;have hm:bz (Pu.bF s 0) CW k=.ok ((),k+1):=by rw[bz];rw[if_pos hk]
 rw[hm]at hp;by_cases h6:(tk (ja s 0)<|k+1).kind=6
 .exact uq
 obtain⟨v,rfl,K1,S1,hR⟩:=hp.ok<|lI _ h6
 cases hR
 go_wp2
 go_ret;refine ap.done rfl K1 S1 ?_;have h5:=pE hk;rw[uo 15 (by rw[bW];rw[if_neg ae,if_neg ae,if_neg ae,if_neg ae,if_neg (by rw[Kk,D9];rw[Rz]at hk;simp at hk;simp[hk.2]),if_pos hk])];exact .any _ _ _ _ _
def RC{p:Prop}(h:p:=by
 obtain⟨rfl,hb⟩:=hp.bad<|cW _ h6
 exact⟨rfl,ap.fail ((j8 b0).trans hb)<|cW _ h6⟩):p:=h
def adH(h:SX w N rb sb m s k)(hs:s.size<=1000)(hk:aX (tk (ja s 0) k) iN=true\/aX (tk (ja s 0) k) eF=true):Cq 127 #[rp rb] w (ap (Is<|.agg #[Nv (tk (ja s 0) k).aF,Nv (tk (ja s 0) k).to,.bool<|(aA<|tk (ja s 0) k).toList==[116,114,117,101]]) N rb sb m s (.ok ((),k+1)) w):=by
 have hz:=h.z;have hN:=h.ev.hN;have hi:=pD s k h.lt;have⟨b0,B0⟩:=oF w #[Iv 0,Iv 0,.bool false] 259;have HC:=aad (h.af b0) hs (by obtain hk|hk:=hk<;>exact Kg hk);go_enter func127,ntmps127;go_wp2_with fail;refine HC.mono ?_;intro e w1 hp;by_cases h6:(tk (Pu.bF s 0)<|k+1).kind=6
 .exact RC
 obtain⟨v,rfl,hb,hS,hR⟩:=hp.ok<|lI _ h6
 cases hR
 have B1:=ai<|(B0.Gq hb ae).alloc<|Cv #[Nv (tk (ja s 0) k).aF,Nv (tk (ja s 0) k).to,Sv<|aA<|tk (ja s 0) k,Sv (tk (ja s 0) k).text] 203;have K1:=((j8 b0).trans hb).gE<|bw<|Cv #[Nv (tk (ja s 0) k).aF,Nv (tk (ja s 0) k).to,Sv<|aA<|tk (ja s 0) k,Sv (tk (ja s 0) k).text] 203;have S1:=hS.af<|bw<|Cv #[Nv (tk (ja s 0) k).aF,Nv (tk (ja s 0) k).to,Sv<|aA<|tk (ja s 0) k,Sv (tk (ja s 0) k).text] 203;have bA:=hb.size;simp at bA;have⟨c,f,z⟩:=uh B1;go_wp2_with fail;have⟨cF,fF,zF⟩:=B1.fW rfl (Nv (tk (ja s 0) k).aF) (Nv (tk (ja s 0) k).to) (.bool<|(aA<|tk (ja s 0) k).toList==[116,114,117,101]);exact bodyPost_ret (v:=Av #[Nv (tk (ja s 0) k).aF,Nv (tk (ja s 0) k).to,.bool<|(aA<|tk (ja s 0) k).toList==[116,114,117,101]]) (by simp[results,Tryz.results127,go_sem,cF]) rfl (ap.done rfl (K1.uf (br _) _ _ _) (S1.Gn hN _ _ _) rfl)
def aae(h:SX w N rb sb m s k)(hs:s.size<=1000)(hk:(tk (ja s 0) k).kind=4):Cq 125 #[rp rb] w (ap (Is<|.agg #[Nv (tk (ja s 0) k).aF,Nv (tk (ja s 0) k).to,Nv<|Kj (tk (ja s 0) k).text]) N rb sb m s (.ok ((),k+1)) w):=by
 have hz:=h.z;have hN:=h.ev.hN;have hi:=pD s k h.lt;have⟨b0,B0⟩:=oF w #[Iv 0,Iv 0,Iv 0] 256;have HC:=Vp (h.af b0) hs hk;go_enter func125,ntmps125;go_wp2_with fail;refine HC.mono ?_;intro e w1 hp;by_cases h6:(tk (Pu.bF s 0)<|k+1).kind=6
 .exact RC
 obtain⟨v,rfl,hb,hS,hR⟩:=hp.ok<|lI _ h6
 cases hR
 have B1:=ai<|(B0.Gq hb ae).alloc<|Cv #[Nv (tk (ja s 0) k).aF,Nv (tk (ja s 0) k).to,Sv<|aA<|tk (ja s 0) k,Sv (tk (ja s 0) k).text] 203;have B2:=ai<|Bx.new w1 #[Nv (tk (ja s 0) k).aF,Nv (tk (ja s 0) k).to,Sv<|aA<|tk (ja s 0) k,Sv (tk (ja s 0) k).text] 203;have K1:=((j8 b0).trans hb).gE<|bw<|Cv #[Nv (tk (ja s 0) k).aF,Nv (tk (ja s 0) k).to,Sv<|aA<|tk (ja s 0) k,Sv (tk (ja s 0) k).text] 203;have S1:=hS.af<|bw<|Cv #[Nv (tk (ja s 0) k).aF,Nv (tk (ja s 0) k).to,Sv<|aA<|tk (ja s 0) k,Sv (tk (ja s 0) k).text] 203;have bA:=hb.size;simp at bA;have⟨c,f,z⟩:=uh B1;have⟨c2,f2,z2⟩:=uh B2;go_wp2_with fail;refine(ahk _<|hi.v4 hk).mono ?_;rintro e w2⟨rfl,hb⟩;have B1:=ai<|B1.below hb;have B2:=ai<|B2.below hb;have K1:=K1.gE hb;have S1:=S1.af hb;have⟨c,f,z⟩:=uh B1;have⟨c2,f2,z2⟩:=uh B2;go_wp2_with fail;have⟨cF,fF,zF⟩:=B1.fW rfl (Nv (tk (ja s 0) k).aF) (Nv (tk (ja s 0) k).to) (Nv<|Kj (tk (ja s 0) k).text);exact bodyPost_ret (v:=Av #[Nv (tk (ja s 0) k).aF,Nv (tk (ja s 0) k).to,Nv<|Kj (tk (ja s 0) k).text]) (by simp[results,Tryz.results125,go_sem,cF]) rfl (ap.done rfl (K1.uf (br _) _ _ _) (S1.Gn hN _ _ _) rfl)
end
section
variable {m:MV}
def Gx(h:aX t iN=true\/aX t eF=true):bW t=4:=by
 have h5:t.kind=5:=by obtain h|h:=h<;>exact pE h
 rw[bW];rw[if_neg ae,if_neg ae,if_neg ae,if_neg ae,if_pos h]
def adI(h:aX t iN=true\/aX t eF=true):t.text.toList=iN.toList\/t.text.toList=eF.toList:=by
 obtain h|h:=h
 .left;rw[aX]at h;simp only[j9,beq_iff_eq]at h;exact h.2
 .right;rw[aX]at h;simp only[j9,beq_iff_eq]at h;exact h.2
def aaf(h:SX w N rb sb m s k)(hs:s.size<=1000)(hk:(tk (ja s 0) k).kind=1)x(hx:Bx w x #[rp rb]):
 Cq 121 #[Pv x] w (ap PE N rb sb m s (.ok (cN<|tk (ja s 0) k,k+1)) w)/\
 Cq 131 #[Pv x] w (ap PP N rb sb m s (.ok (cN<|tk (ja s 0) k,k+1)) w):=by
 have hi:=pD s k h.lt;have HC:=Vq h hs;obtain⟨c0,f0,z0⟩:=hx;refine⟨?_,?_⟩;all_goals
  first|go_enter func121,ntmps121|go_enter func131,ntmps131
  go_wp2_with fail;refine HC.mono ?_;intro e w1 hp;rw[ul hk]at hp;by_cases h6:(tk (ja s 0)<|k+1).kind=6
  .exact uq
  obtain⟨v,rfl,K1,S1,hR⟩:=hp.ok<|lI _ h6
  cases hR
  go_wp2
  go_ret;refine ap.done rfl K1 S1 ?_;rw[uo 1 (by rw[bW];simp[hk])];exact .low _ _ _ _ _<|hi.v1 hk
def aag(h:SX w N rb sb m s k)(hs:s.size<=1000)(hk:(tk (ja s 0) k).kind=4)x(hx:Bx w x #[rp rb]):
 Cq 124 #[Pv x] w (ap PE N rb sb m s (.ok (cN<|tk (ja s 0) k,k+1)) w)/\
 Cq 133 #[Pv x] w (ap PP N rb sb m s (.ok (cN<|tk (ja s 0) k,k+1)) w):=by
 have hi:=pD s k h.lt;have HC:=aae h hs hk;obtain⟨c0,f0,z0⟩:=hx;refine⟨?_,?_⟩;all_goals
  first|go_enter func124,ntmps124|go_enter func133,ntmps133
  go_wp2_with fail;refine HC.mono ?_;intro e w1 hp;by_cases h6:(tk (ja s 0)<|k+1).kind=6
  .exact uq
  obtain⟨v,rfl,K1,S1,hR⟩:=hp.ok<|lI _ h6
  cases hR
  go_wp2
  go_ret;refine ap.done rfl K1 S1 ?_;rw[uo 3 (by rw[bW];simp[hk]),show nK (tk (ja s 0) k)=Kj (tk (ja s 0) k).text by rw[nK];simp[hk]];exact .num _ _ _ _ _
def yR(h:SX w N rb sb m s k)(hs:s.size<=1000)(hk:aX (tk (ja s 0) k) iN=true\/aX (tk (ja s 0) k) eF=true)x(hx:Bx w x #[rp rb]):
 Cq 126 #[Pv x] w (ap PE N rb sb m s (.ok (cN<|tk (ja s 0) k,k+1)) w)/\
 Cq 128 #[Pv x] w (ap PE N rb sb m s (.ok (cN<|tk (ja s 0) k,k+1)) w)/\
 Cq 134 #[Pv x] w (ap PP N rb sb m s (.ok (cN<|tk (ja s 0) k,k+1)) w)/\
 Cq 135 #[Pv x] w (ap PP N rb sb m s (.ok (cN<|tk (ja s 0) k,k+1)) w):=by
 have hi:=pD s k h.lt;have HC:=adH h hs hk;obtain⟨c0,f0,z0⟩:=hx;refine⟨?_,?_,?_,?_⟩;all_goals
  first|go_enter func126,ntmps126|go_enter func128,ntmps128|go_enter func134,ntmps134|go_enter func135,ntmps135
  go_wp2_with fail;refine HC.mono ?_;intro e w1 hp;by_cases h6:(tk (ja s 0)<|k+1).kind=6
  .exact uq
  obtain⟨v,rfl,K1,S1,hR⟩:=hp.ok<|lI _ h6
  cases hR
  go_wp2
  go_ret;refine ap.done rfl K1 S1 ?_;rw[uo 4<|Gx hk,qI (by obtain hk|hk:=hk<;>exact pE hk)];exact .word _ _ _ _ _<|adI hk
end
def vV(h:t.kind=6)sort:aK t sort=false:=by
 have h0:bW t=0:=by rw[bW];simp[h,eE h]
 rw[aK];rw[eE h,h0];repeat' split
 all_goals rfl
def nL p q sort:aS T (aH T p q sort):=λk h=>by rw[aH];rw[vV h];rfl
def xQ p q sort f a:aS T (iK T p q sort f a):=λk h=>by
 rw[iK];rw[eE h,eE h];rw[if_neg ag,if_neg ag];exact Kc T _ k h
theorem jQ(sm:M Nd)(sort:Nat):∀f x,aS T<|dn T sm sort f x
 |0,x=>λk h=>cW _ h|f+1,x=>λk h=>by unfold dn;rw[vV h];exact cW _ h
def Kl(hs:aS T sm):aS T (iM T sm sort):=λk h=>by
 rw[iM];rw[if_neg<|by simp[h]];exact hs k h
def qJ:∀n,aS T<|dv T n
 |0=>λk h=>rfl|n+1=>Kl<|nL _ _ _
def pF{p:M Nd}(hp:aS T p)sort f:aS T (eQ T p q sort f):=λk h=>by
 rw[eQ];rw[eE h,if_neg ag];exact b8 (hp k h) λa=>xQ _ _ _ _ a
def xR(sm:M Nd)(fr:Nat):∀f x,aS T<|jF T sm fr f x
 |0,x=>λk h=>cW _ h|f+1,x=>λk h=>by unfold jF;rw[vV h];exact cW _ h
def pG(sm:M Nd)(fr:Nat):∀f x,aS T<|mL T sm fr f x
 |0,x=>λk h=>cW _ h|f+1,x=>λk h=>by unfold mL;rw[eE h];exact cW _ h
def si(sm:M Nd)(fr:Nat):∀f x,aS T<|vW T sm fr f x
 |0,x=>λk h=>cW _ h|f+1,x=>λk h=>by unfold vW;rw[eE h,eE h,if_neg ag];exact cW _ h
def nM(hs:aS T sm):aS T (db T sm):=λk h=>b8 (hs k h) λa=>xR _ _ _ a
def sk(hs:aS T sm):aS T (fe T sm):=λk h=>b8 (hs k h) λa=>pG _ _ _ a
def D_(hs:aS T sm):aS T (ur T sm):=λk h=>b8 (hs k h) λa=>si _ _ _ a
def Km sum fr(x:Nd):=λk1=>if aX (tk T k1) iC=true then aV sum (λy k'=>.ok (.mk 7 iC 0 [x,y] fr (aR T k') fr,k')) (k1+1)else .ok (x,k1)
def xS sum fr x:aS T (Km (T:=T) sum fr x):=λk h=>by rw[Km];rw[eE h];exact cW _ h
def adJ sum k:uv T sum k=aV sum (Km (T:=T) sum (tk T k).aF) k:=rfl
def OI{sum}(hs:aS T sum):aS T (uv T sum):=λk h=>b8 (hs k h) λa=>xS _ _ a
def nN:∀n,aS T<|bt T n
 |0=>λk h=>rfl|n+1=>λk h=>by
  unfold bt;rw[eE h,eE h,eE h,eE h];exact OI (D_<|sk<|nM<|nL _ _ _) k h
def Vr e:aS T (vX T e):=λk h=>by
 rw[vX,aV];rw[show bz T OD k=.error (eK<|tk T k) by rw[bz];rw[eE h];rfl];rfl
def rE:M Unit:=λk=>.ok ((),k+1)
def vY{p:M Nd}(h:aX (tk T k) nD=true):aH T p q sort k=aV (bz T nD) (λ_=>eQ T p q sort (tk T k).aF) k:=by
 have h':=h;rw[aH,aV,bz];rw[if_pos (by rw[aK];simp[h']),if_pos h',if_pos h]
def AG{p:M Nd}(h1:sort≠1)(h:aX (tk T k) nO=true):eQ T p q sort f k=aV rE (λ_ j=>.ok (.mk 5 jY 0 [] f (aR T j) f,j)) k:=by
 rw[eQ];rw[if_pos ⟨h1,h⟩];rfl
def AH{p:M Nd}(h:aX (tk T k) nO=false):eQ T p q sort f k=aV p (iK T p q sort f) k:=by
 rw[eQ];rw[if_neg<|by simp[h]]
def pH{p:M Nd}(h:aX (tk T k) nQ=true):iK T p q sort f a k=aV rE (λ_=>aV p λb=>aV (bz T nO) λ_ j=>.ok (.mk 6 jY 0 [a,b] f (aR T j) f,j)) k:=by rw[iK];rw[if_pos h];rfl
def Kn{p:M Nd}(h0:aX (tk T k) nQ=false)(h:aX (tk T k) Gy=true):iK T p q 3 f a k=aV rE (λ_=>aV q λb=>aV (bz T nO) λ_ j=>.ok (.mk 14 jY 0 [a,b] f (aR T j) f,j)) k:=by rw[iK];rw[if_neg<|by simp[h0],if_pos ⟨rfl,h⟩];rfl
def xT{p:M Nd}(h0:aX (tk T k) nQ=false)(h:sort=3->aX (tk T k) Gy=false):iK T p q sort f a k=aV (bz T nO) (λ_ j=>.ok (a,j)) k:=by
 rw[iK];rw[if_neg<|by simp[h0],if_neg (by rintro⟨h1,h2⟩;rw[h h1]at h2;cases h2)];rfl
def adK(h:dl (ja s 0) 1 k=.ok (t,k'))(hk:k<(ja s 0).length):CX t.text/\t.to=t.aF+t.text.size:=by
 rw[dl]at h;split at h
 .rename_i hq
  cases h
  have:=pD s k hk;exact⟨this.v1<|by simpa using hq,this.sp⟩
 .cases h
def stl{p:Prop}(h:p:=by intros;repeat' (first|exact Kh _|exact r_ _ _|exact nN _|exact qJ _|exact sg _ _ (by decide)|exact Vr _|exact OJ _|exact vQ _ _|exact OK hT0 _|exact Gz hT0|exact OL _ _ _|exact jA|exact λq h=>xR _ _ _ _ q h|exact λq h=>pG _ _ _ _ q h|exact λq h=>si _ _ _ _ q h|exact xQ _ _ _ _ _|exact pF (qJ _) _ _|exact pF (vQ _ _) _ _|exact pF (nN _) _ _|refine fZ ?_ λ_=>?_)):p:=h
def Mov{α:Type}(R:World->(Nat->Prop)->α->Value->Prop):=∀w w' P Q a v,R w P a v->w.heap.size<=w'.heap.size->(∀b,P b->b<w.heap.size->w'.heap[b]? =w.heap[b]?)->(∀b,P b->b<w.heap.size->Q b)->R w' Q a v
structure cG{γ:Type}N rb sb m s r w0 xb C(g:M γ)(P:World->Prop)k w:Prop where
 sx:SX w N rb sb m s k
 ke:Ke rb w0 w
 eq:r=g k
 lv:∀w',w.heap.size<=w'.heap.size->(∀b,b<w.heap.size->b≠rb->b≠xb->w'.heap[b]? =w.heap[b]?)->P w'
 rz:rb<w0.heap.size/\N<=w0.heap.size
 xz:xb<w.heap.size
 bx:xb=rb\/N<=xb/\w0.heap.size<=xb/\Bx w xb C
section
variable {m:MV} {r:Except Fl (γ×Nat)} {P Q:World->Prop} {g g':M γ} {f:FuncId}
def cG.p(H:cG N rb sb m s r w0 xb C g P k w):P w:=H.lv w (br _) λ_ _ _ _=>rfl
def cG.mv(H:cG N rb sb m s r w0 xb C g P k w)(q:Ke rb w w')(S:SX w' N rb sb m s k')(e:r=g' k'):cG N rb sb m s r w0 xb C g' P k' w':=
 ⟨S,H.ke.trans q,e,λw2 a b=>H.lv w2 (jo q.size a) λc c1 c2 c3=>(b c (jm c1 q.size) c2 c3).trans<|q.block c c1 c2,H.rz,jm H.xz q.size,H.bx.imp id λ⟨a,b,c⟩=>⟨a,b,c.Gq q (by have:=H.rz.1;omega)⟩⟩
def cG.af(H:cG N rb sb m s r w0 xb C g P k w)(hb:Bq w w'):cG N rb sb m s r w0 xb C g P k w':=H.mv (j8 hb) (H.sx.af hb) H.eq
def cG.drew(H:cG N rb sb m s r w0 xb C g P k w):cG N rb sb m s r w0 xb C g P k w.drew:=H.af (qf _ _).drew
def cG.re(H:cG N rb sb m s r w0 xb C g P k w)(h:g k=g' k):cG N rb sb m s r w0 xb C g' P k w:=H.mv (Ke.refl _ _) H.sx<|H.eq.trans h
def cG.add(H:cG N rb sb m s r w0 xb C g P k w)(h:∀w',w.heap.size<=w'.heap.size->(∀b,b<w.heap.size->b≠rb->b≠xb->w'.heap[b]? =w.heap[b]?)->Q w'):cG N rb sb m s r w0 xb C g (λw=>P w/\Q w) k w:=⟨H.sx,H.ke,H.eq,λw' a b=>⟨H.lv w' a b,h w' a b⟩,H.rz,H.xz,H.bx⟩
def cG.box{t:TypeId}(H:cG N rb sb m s r w0 xb C g P k w):cG N rb sb m s r w0 xb C g (λv=>P v/\Bx v w.heap.size D) k (w.alloc<|.cells D t):=
 (H.af<|bw _).add λw' a b=>(Bx.new w D t).same a (b _ ag (by have:=H.rz.1;have:=H.ke.size;omega) (by have:=H.xz;omega))
def cG.own{t:TypeId}(H:cG N rb sb m s r w0 rb C g P k w):cG N rb sb m s r w0 w.heap.size D g P k (w.alloc<|.cells D t):=
 have K:=H.af<|bw<|Cv D t
 ⟨K.sx,K.ke,K.eq,λw' a b=>H.lv w' (jo ag a) λc c1 c2 _=>(b c bD c2 ae).trans<|(bw _).block c c1,H.rz,ag,.inr ⟨H.sx.ev.hN,H.ke.size,Bx.new w D t⟩⟩
def cG.put(H:cG N rb sb m s r w0 xb C g P k w)(o:xb≠rb)(B:Bx w' xb D)(q:One xb w w'):cG N rb sb m s r w0 xb D g P k w':=by
 obtain h|⟨b1,b2,b3⟩:=H.bx
 .exact absurd h o
 have K:=H.ke;have z:=q.size;exact⟨H.sx.move ae λb p=>q.block b ae,⟨q.os.trans K.os,q.tape.trans K.tape,q.output.trans K.output,by rw[z];exact K.size,λb z n=>(q.block b ae).trans<|K.block b z n⟩,H.eq,λw2 a b=>H.lv w2 ae λc c1 c2 c3=>(b c ae c2 c3).trans<|q.block c c3,H.rz,B.z,.inr ⟨b1,b2,B⟩⟩
def cO{w0 w}{b}{v}(h:One b w0 w):One b w0 (w.setCell ⟨b,j,none⟩ v):=⟨h.os,h.tape,h.output,by simpa[World.setCell]using h.size,λi hi=>(qg _ _ _ _ hi).trans<|h.block i hi⟩
def cG.bo(H:cG N rb sb m s r w0 xb C g P k w)(o:xb≠rb):Bx w xb C:=(H.bx.resolve_left o).2.2
def cG.at(h:SX w N rb sb m s k)(e:r=g k):cG N rb sb m s r w rb #[] g (λ_=>True) k w:=⟨h,Ke.refl _ _,e,λ_ _ _=>trivial,⟨h.z,h.ev.hN⟩,h.z,.inl rfl⟩
def cG.AK{R}{mm}{g:α->M γ}(h:SX w N rb sb m s k)(e:r=aV mm g k)(c:cG N rb sb m s r w rb #[] (aV mm g) (λ_=>True) k w->Cq f args w (ap R N rb sb m s r w)):Cq f args w (ap R N rb sb m s r w):=
 c (.at h e)
def cG.imp(H:cG N rb sb m s r w0 xb C g P k w)(h:∀w,P w->Q w):cG N rb sb m s r w0 xb C g Q k w:=⟨H.sx,H.ke,H.eq,λw' a b=>h _<|H.lv w' a b,H.rz,H.xz,H.bx⟩
theorem cG.a_{R}{mm}{g}{a:α}(H:cG N rb sb m s r w0 xb C (aV mm g) P k w)(h:ap R N rb sb m s (mm k) w e w')(hA:fin (ja s 0) (mm k)=.ok (a,k'))(mv:Mov R:=by first|exact λ_ _ _ _ _ _ h _ _ _=>h|exact λ_ _ _ _ _ _ h a b c=>h.move a b c):∃v,e=.returned v/\cG N rb sb m s r w0 xb C (g a) (λw'=>P w'/\R w' (λb=>w0.heap.size<=b) a v) k' w'/\R w' (λb=>w.heap.size<=b) a v:=by
 have⟨v,e1,hb,S,V⟩:=h.ok hA;exact⟨v,e1,(H.mv hb S<|H.eq.trans<|nH hA).add λw2 a1 b1=>mv _ _ _ _ _ _ V a1 (λb p z=>b1 b z (by have:=H.rz.1;have:=H.ke.size;have p':w.heap.size<=b:=p;omega) (by have:=H.xz;have p':w.heap.size<=b:=p;omega)) λb p _=>jo H.ke.size p,V⟩
def cG.lost{R}{R'}{mm}{g:α->M γ}{f:Fl}(H:cG N rb sb m s r w0 xb C (aV mm g) P k w)(h:ap R N rb sb m s (mm k) w e w')(hA:fin (ja s 0) (mm k)=.error f)(st:∀a,aS (ja s 0)<|g a:=by exact stl):e=bU f/\ap R' N rb sb m s r w0 (bU f) w':=⟨(h.bad hA).1,ap.stop H.eq hA st<|H.ke.trans (h.bad hA).2⟩
def cG.call{R}{R'}{mm}{g:α->M γ}(H:cG N rb sb m s r w0 xb C (aV mm g) P k w)(hC:Cq f args w (ap R N rb sb m s (mm k) w))(ok:∀a k' v w',cG N rb sb m s r w0 xb C (g a) (λw'=>P w'/\R w' (λb=>w0.heap.size<=b) a v) k' w'->mm k=.ok (a,k')->R w' (λb=>w.heap.size<=b) a v->post (.returned v) w')(st:∀a,aS (ja s 0)<|g a:=by exact stl)(bad:∀f' w',ap R' N rb sb m s r w0 (bU f') w'->post (bU f') w':=by exact λ_ _ h=>⟨rfl,h⟩)(mv:Mov R:=by first|exact λ_ _ _ _ _ _ h _ _ _=>h|exact λ_ _ _ _ _ _ h a b c=>h.move a b c):Cq f args w post:=
 hC.mono λe w' hp=>by
  cases hA:fin (ja s 0) (mm k)with
  |error f=>obtain⟨rfl,h⟩:=H.lost hp hA st;exact bad _ _ h
  |ok p=>obtain⟨v,rfl,H,V⟩:=H.a_ (a:=p.1) hp hA mv;exact ok _ _ v w' H (r9 hA).1 V
def cG.take{R'}{g}(H:cG N rb sb m s r w0 xb C (aV (bz (ja s 0) c) g) P k w)(ok:∀w',cG N rb sb m s r w0 xb C (g ()) P (k+1) w'->post (.returned<|tkA<|tk (ja s 0) k) w')(hs:s.size<=1000:=by assumption)(hc:c.size<=5:=by decide)(st:∀a,aS (ja s 0)<|g a:=by exact stl)(bad:∀f' w',ap R' N rb sb m s r w0 (bU f') w'->post (bU f') w':=by exact λ_ _ h=>⟨rfl,h⟩):Cq 75 #[rp rb,.string c] w post:=
 ap.go H.ke H.eq (Z9 H.sx hs c hc) st bad λa k' v w' S K E q _ hb hR=>by
  cases hR
  cases bB _ _ _ _ q
  exact ok w'<|H.mv hb S E
def cG.C8{R'}{g}(H:cG N rb sb m s r w0 xb C (aV rE g) P k w)(hi:aX (tk (ja s 0) k) c=true)(ok:∀w',cG N rb sb m s r w0 xb C (g ()) P (k+1) w'->post (.returned<|.bool true) w')(hs:s.size<=1000:=by assumption)(hc:c.size<=5:=by decide)(st:∀a,aS (ja s 0)<|g a:=by exact stl)(bad:∀f' w',ap R' N rb sb m s r w0 (bU f') w'->post (bU f') w':=by exact λ_ _ h=>⟨rfl,h⟩):Cq 77 #[rp rb,.string c] w post:=
 ap.go H.ke H.eq (ahf H.sx hs c hc hi) st bad λa k' v w' S K E q _ hb hR=>by
  cases hR
  cases q
  exact ok w'<|H.mv hb S E
def cG.GB(H:cG N rb sb m s r w0 xb C g P k w)(hi:aX (tk (ja s 0) k) c=false)(ok:post (.returned<|.bool false) w)(hc:c.size<=5:=by decide):Cq 77 #[rp rb,.string c] w post:=
 (ahg H.sx c hc hi).mono λ_ _⟨a,b⟩=>by subst a;subst b;exact ok
def cG.name{R'}{g}(H:cG N rb sb m s r w0 xb C (aV (dl (ja s 0) 1) g) P k w)(ok:∀t w',cG N rb sb m s r w0 xb C (g t) P (k+1) w'->Hid (CX t.text/\t.to=t.aF+t.text.size)->post (.returned<|nmA t) w')(hs:s.size<=1000:=by assumption)(st:∀a,aS (ja s 0)<|g a:=by exact stl)(bad:∀f' w',ap R' N rb sb m s r w0 (bU f') w'->post (bU f') w':=by exact λ_ _ h=>⟨rfl,h⟩):Cq 101 #[rp rb,.string Gu] w post:=
 ap.go H.ke H.eq (vU H.sx hs 1 Gu<|j5 ⟨rfl,rfl⟩) st bad λa k' v w' S K E q _ hb hR=>by
  have:=adK q H.sx.lt
  cases hR
  cases eN _ _ _ _ q
  exact ok a w' (H.mv hb S E) this
def cG.expr{R'}{g}(H:cG N rb sb m s r w0 xb C (aV (bt (ja s 0) n) g) P k w)(IH:fc s n)(ok:∀a k' t x w',cG N rb sb m s r w0 xb C (g a) (λw'=>P w'/\PE w' (λb=>w0.heap.size<=b) a (.iface t<|.agg x)) k' w'->k<k'->post (.returned<|.iface t<|.agg x) w')(hn:(ja s 0).length<=k+n:=by omega)(st:∀a,aS (ja s 0)<|g a:=by exact stl)(bad:∀f' w',ap R' N rb sb m s r w0 (bU f') w'->post (bU f') w':=by exact λ_ _ h=>⟨rfl,h⟩):Cq 172 #[rp rb] w post:=
 H.call (IH _ _ _ _ _ _ H.sx hn) (λa k' v w' H q V=>by obtain⟨t,x,rfl⟩:=V.iface;exact ok a k' t x w' H<|kR n _ _ _ q) st bad
def cG.uw{R'}{g}(H:cG N rb sb m s r w0 xb C (aV (dv (ja s 0) n) g) P k w)(IH:CY s n)(ok:∀a k' t x w',cG N rb sb m s r w0 xb C (g a) (λw'=>P w'/\PP w' (λb=>w0.heap.size<=b) a (.iface t<|.agg x)) k' w'->k<=k'->post (.returned<|.iface t<|.agg x) w')(hn:(ja s 0).length<=k+n:=by omega)(st:∀a,aS (ja s 0)<|g a:=by exact stl)(bad:∀f' w',ap R' N rb sb m s r w0 (bU f') w'->post (bU f') w':=by exact λ_ _ h=>⟨rfl,h⟩):Cq 176 #[rp rb] w post:=
 H.call (IH _ _ _ _ _ _ H.sx hn) (λa k' v w' H q V=>by obtain⟨t,x,rfl⟩:=V.iface;exact ok a k' t x w' H<|pI n _ _ _ q) st bad
def cG.since{i}(H:cG N rb sb m s r w0 xb C g P k w)(ok:∀w',cG N rb sb m s r w0 xb C g P k w'->post (.returned<|.agg #[Iv i,.int .i64 ((aR (ja s 0) k:Nat):Int)]) w'):Cq 78 #[rp rb,Iv i] w post:=
 (adE H.sx i).mono λ_ _⟨a,b⟩=>by subst a;exact ok _<|H.af b
def cG.done{R}{a}{v}(H:cG N rb sb m s r w0 xb C g P k w)(h:P w->R w (λb=>w0.heap.size<=b) a v)(he:g k=.ok (a,k):=by rfl):ap R N rb sb m s r w0 (.returned v) w:=
 ap.done (H.eq.trans he) H.ke H.sx (h H.p)
end
section
variable {m:MV}
def RE{p:Prop}(h:p:=by
 refine H.GB hm ?_;go_wp2_with fail;refine(H.re<|xT hm λh=>ae).take ?_;intro w5 H
 go_wp2
 go_ret
 exact H.done λ⟨_,A⟩=>A):p:=h
def AL(hs:s.size<=1000)(IH:CY s n)(h:SX w N rb sb m s k)(hn:(ja s 0).length<=k+1+n)(ho:aX (tk (ja s 0) k) nD=true):
 Cq 136 #[rp rb] w (ap PP N rb sb m s (aH (ja s 0) (dv (ja s 0) n) (lZ<|ja s 0) 2 k) w):=by
 have Xh:=ij;have hf2:=kQ;refine cG.AK h (vY ho) λH=>?_;go_enter func136,ntmps136;go_wp2_with fail;refine H.take ?_;intro w1 H;go_wp2_with fail
 cases hc:aX (tk (ja s 0)<|k+1) nO
 .refine H.GB hc ?_;go_wp2_with fail;refine(H.re<|AH hc).uw IH ?_;intro a k2 t2 x2 w2 H l2;go_wp2_with fail
  cases hm:aX (tk (ja s 0) k2) nQ
  .exact RE
  .refine(H.re<|pH hm).C8 hm ?_;intro w3 H;go_wp2_with fail;refine H.uw IH ?_;intro b k4 t4 x4 w4 H l4;go_wp2_with fail;refine H.take ?_;intro w5 H;go_wp2_with fail;refine H.since ?_;intro w6 H
   go_wp2
   go_ret;exact H.done λ⟨⟨_,A⟩,B⟩=>.pr _ _ _ _ _ _ _ _ _ A B
 .refine(H.re<|AG aw hc).C8 hc ?_;intro w2 H;go_wp2_with fail;refine H.since ?_;intro w3 H
  go_wp2
  go_ret;exact H.done λ_=>.unit _ _ _ _ _
end
abbrev EQ(α:Type):=World->(Nat->Prop)->α->(Nat->Value)->Prop
def gq{α:Type}(Q:EQ α):=∀(w w':World)(P P':Nat->Prop)(a:α)(c:Nat->Value),Q w P a c->w.heap.size<=w'.heap.size->(∀b,P b->b<w.heap.size->w'.heap[b]? =w.heap[b]?)->(∀b,P b->b<w.heap.size->P' b)->Q w' P' a c
def gW(cs:Nat->Nat->Value)(sz:Nat):Nat->List Value
 |0=>[]|n+1=>gW cs sz n++(qh sz).map (cs n)
def vZ cs sz n:(gW cs sz n).length=n*sz:=by
 induction n with
 |zero=>simp[gW]|succ n ih=>simp only[gW,lz,ih,List.length_map,List.length_range,jt]
def aah cs sz:∀n i j,i<n->j<sz->(gW cs sz n)[i*sz+j]? =some (cs i j):=by
 intro n
 induction n with
 |zero=>intro i j h;omega|succ n ih=>
  intro i j hi hj;simp only[gW];by_cases h:i<n
  .have:i*sz+j<n*sz:=by
    have:(i+1)*sz<=n*sz:=ju _ h;rw[jt]at this;omega
   rw[List.getElem?_append_left (by rw[vZ];exact this)];exact ih i j h hj
  .have e:i=n:=ae;subst e;rw[List.getElem?_append_right (by rw[vZ];omega),vZ];rw[show i*sz+j-i*sz=j by omega];simp[hj]
def xU{cs ds:Nat->Nat->Value}{sz:Nat}:∀n,(∀i,i<n->cs i=ds i)->gW cs sz n=gW ds sz n
 |0,_=>rfl|n+1,h=>by simp only[gW];rw[xU n<|λi hi=>h i ae,h n ae]
def dh{α:Type}(Q:EQ α)et sz w base va vc(L:List α):=
 ∃cs:Nat->Nat->Value,w.ownsRow base et sz (.slice va L.length vc) L.length (gW cs sz L.length)/\∀i(h:i<L.length),Q w (λb=>base<=b/\b<w.heap.size/\(jx va L.length vc).ownBlock≠some b) L[i]<|cs i
def RowV{α:Type}(Q:EQ α)sz w P L(v:Value):=
 ∃(va:Option Addr)(vc:Nat)(cs:Nat->Nat->Value),v=.slice va L.length vc/\(L=[]\/∃g,va=some ⟨g,0,none⟩/\P g/\g<w.heap.size/\∀i,i<L.length->∀j,j<sz->w.cell? ⟨g,i*sz+j,none⟩=some (cs i j))/\∀i(h:i<L.length),Q w P L[i]<|cs i
section
variable {Q:EQ α} {sz:Nat} {L:List α}
def dh.nil(Q:EQ α)et sz w base:dh Q et sz w base none 0 []:=⟨λ_ _=>.nilIface,World.ownsRow_nil _ _ _ _,λi h=>absurd h ag⟩
def dh.v(hQ:gq Q)(h:dh Q et sz w base va vc L):RowV Q sz w (λb=>base<=b) L (.slice va L.length vc):=by
 obtain⟨cs,ho,hr⟩:=h;refine⟨va,vc,cs,rfl,?_,λi hi=>hQ _ _ _ _ _ _ (hr i hi) (br _) (λ_ _ _=>rfl) λb p _=>p.1⟩;obtain⟨h1,h2⟩:=ho;obtain⟨_,hz⟩|⟨q,cap,l_,hv,hg,hh,_,_,_,ht⟩:=h2
 .grind
 .injection hv with e1 e2 e3;subst e1;refine j6 ⟨q,rfl,hg,(Array.getElem?_eq_some_iff.1 hh).1,λi hi j hj=>?_⟩;have bA:i*sz+j<L.length*sz:=by
   have:(i+1)*sz<=L.length*sz:=ju _ hi;rw[jt]at this;omega
  rw[<-aah cs sz L.length i j hi hj,<-ht];simp only[World.cell?,hh];rw[List.getElem?_take_of_lt bA];simp
def dh.lU(hQ:gq Q)(h:dh Q et sz w base va vc L)(hs:w.heap.size<=w'.heap.size)(hb:∀b,base<=b->b<w.heap.size->w'.heap[b]? =w.heap[b]?):dh Q et sz w' base va vc L:=by
 obtain⟨cs,ho,hr⟩:=h;refine⟨cs,?_,λi hi=>hQ _ _ _ _ _ _ (hr i hi) hs (λb p z=>hb b p.1 z) λb p _=>⟨p.1,ae,p.2.2⟩⟩;obtain⟨h1,h2⟩:=ho;refine⟨h1,?_⟩;obtain h2|⟨q,cap,l_,hv,hg,hh,r⟩:=h2
 .exact j5 h2
 .refine j6 ⟨q,cap,l_,hv,hg,?_,r⟩;rw[hb q hg (Array.getElem?_eq_some_iff.1 hh).1,hh]
def dh.block(h:dh Q et sz w base va vc L):∀b,(jx va L.length vc).ownBlock=some b->base<=b/\b<w.heap.size:=by
 obtain⟨cs,ho,_⟩:=h;exact fU ho
def dh.one{lo q:Nat}{a}{c:Nat->Value}(hQ:gq Q)(hq:Q w (λb=>lo<=b) a c)(sH:base<=lo)(hb:lo<=w.heap.size)(hs:0<sz)C(hC:C=((qh sz).map c).toArray)(hqq:q=w.heap.size):dh Q et sz (w.alloc<|.cells C et) base (some ⟨q,0,none⟩) 1 [a]:=by
 subst hqq hC;refine⟨λ_=>c,⟨by simp[gW],j6 ⟨w.heap.size,1,_,rfl,ae,(MapKept.heap_alloc w _).1,ag,Yu,ag,by simp[gW];exact List.take_of_length_le ag⟩⟩,λi hi=>?_⟩;have:i=0:=qBl;subst this;refine hQ _ _ _ _ _ _ hq ag (λb _ z=>Below.heap_alloc _ _ _ z) λb p z=>⟨jo sH p,bD,?_⟩;simp[Value.ownBlock];omega
def dh.push{w1}{lo q3 c3:Nat}{a}{c:Nat->Value}(hQ:gq Q){cs}(hP:∀i(h:i<L.length),Q w1 (λb=>base<=b/\b<w1.heap.size/\(jx va L.length vc).ownBlock≠some b) L[i]<|cs i)(hq:Q w1 (λb=>lo<=b) a c)(ru:base<=lo)(hold:∀b,(jx va L.length vc).ownBlock=some b->b<lo)(hW:Bq w1 W)(h3:w3.ownsRow base et sz (.slice (some ⟨q3,0,none⟩) (L.length+1) c3) (L.length+1) (gW cs sz L.length++(qh sz).map c))(hg:W.grownBy w3 (jx va L.length vc).ownBlock)(U9:(jx (some ⟨q3,0,none⟩) (L.length+1) c3).ownBlock=(jx va L.length vc).ownBlock\/(jx (some ⟨q3,0,none⟩) (L.length+1) c3).ownBlock=some W.heap.size):
 dh Q et sz w3 base (some ⟨q3,0,none⟩) c3 (L++[a]):=by
 have hlen:(L++[a]).length=L.length+1:=ag;have fK:=hg.size;have hbk:∀b,b<w1.heap.size->(Lv va L.length vc).ownBlock≠some b->w3.heap[b]? =w1.heap[b]? :=λb hb hn=>(hg.block b (jm hb hW.size)<|λe=>hn e.symm).trans<|hW.block b hb;have Cf:∀b,b<w1.heap.size->(Lv va L.length vc).ownBlock≠some b->(Lv (some ⟨q3,0,none⟩) (L.length+1) c3).ownBlock≠some b:=λb hb hn e=>by
  obtain g|g:=U9
  .exact hn (g▸e)
  .have q:=e.symm.trans g;simp at q;have:=hW.size;omega
 have hws:=hW.size;have NR:∀i,i<L.length->(λi=>if i=L.length then c else cs i) i=cs i:=λi hi=>if_neg ae;refine⟨λi=>if i=L.length then c else cs i,?_,λi hi=>?_⟩
 .rw[hlen];show w3.ownsRow base et sz _ _<|gW _ sz L.length++(qh sz).map (if L.length=L.length then c else cs L.length);rw[if_pos rfl,xU (ds:=cs) L.length NR];exact h3
 .rw[hlen];by_cases bA:i<L.length
  .rw[List.getElem_append_left bA];show Q w3 _ L[i]<|if i=L.length then c else cs i;rw[if_neg ae];exact hQ _ _ _ _ _ _ (hP i bA) ae (λb p z=>hbk b p.2.1 p.2.2) λb p z=>⟨p.1,ae,Cf b p.2.1 p.2.2⟩
  .have zK:i=L.length:=MZ;subst zK;have e1:(L++[a])[L.length]'hi=a:=ag;rw[e1];show Q w3 _ a<|if L.length=L.length then c else cs L.length;rw[if_pos rfl];have cR:∀b,lo<=b->(Lv va L.length vc).ownBlock≠some b:=λb h1 e=>by have:=hold b e;omega
   exact hQ _ _ _ _ _ _ hq ae (λb p z=>hbk b z<|cR b p) λb p z=>⟨jo ru p,ae,Cf b z<|cR b p⟩
end
def Q1(R:World->(Nat->Prop)->Nd->Value->Prop):EQ Nd:=λw P a c=>R w P a<|c 0
def aai:gq (Q1 PT):=λ_ _ _ _ _ _ h h1 h2 h3=>PT.move h h1 h2 h3
section
variable {row:Option Nat} {m:MV}
def SX.grown(hg:W.grownBy w3 row)(h:SX W N rb sb m s k)(hr:∀j,row=some j->N<=j):SX w3 N rb sb m s k:=
 h.move hg.size λb hb=>hg.block b (jm hb h.ev.hN) λe=>by have:=hr b e.symm;omega
def eG{b}{mt ft}(h:MS jv W b L)(hm:Tryz.prog.underlying mt=some (.map 201 ft))(hz:(zeroValue ft).run jz W=.ok .nilFunc W)x:
 (Instr.lookup mt (Mv b) (.string x) true).run jz W=.ok (lH (a_ x L) .nilFunc) W:=by
 have:=h.look (KL.str Tryz.underlying201) hm hz x trivial (λ_ _=>trivial) true;rw[this]
 cases a_ x L<;>rfl
theorem GC{x:BA}:∀{L:List (BA×Value)},(∀p∈L,p.1≠x)->a_ x L=none
 |[],_=>rfl|p::l,h=>by
  rw[a_];rw[if_neg<|h p<|List.mem_cons_self ..];exact GC λq hq=>h q<|List.mem_cons_of_mem _ hq
end
def ux(ho:gF t)(hs:sort=2\/sort=3)(hb:aK t sort=true):t.kind=1\/t.kind=2\/t.kind=4\/aX t iN=true\/aX t eF=true\/(sort=2/\aX t CW=true)\/aX t nD=true:=by
 by_cases h0:aX t nD=true
 .simp[h0]
 have h0':aX t ug=false:=by simpa using h0
 rw[aK]at hb;rw[h0']at hb;rw[bW]at hb;by_cases h1:t.kind=1
 .exact j5 h1
 by_cases h2:t.kind=2
 .omega
 by_cases h4:t.kind=4
 .omega
 by_cases h5:aX t iN=true
 .simp[h5]
 by_cases h6:aX t eF=true
 .simp[h6]
 by_cases h7:aX t CW=true
 .obtain rfl|rfl:=hs
  .simp[h7]
  .grind
 .exfalso;obtain rfl|rfl:=hs
  .grind
  .grind
def xV(hs:sort=2\/sort=3)(hb:aK t sort=false):t.kind≠1/\t.kind≠2/\t.kind≠4/\aX t iN=false/\aX t eF=false/\(sort=2->aX t CW=false)/\aX t nD=false:=by
 rw[aK]at hb;rw[Bool.or_eq_false_iff]at hb;obtain⟨h0,hb⟩:=hb;have key:∀c,c=1\/c=2\/c=3\/c=4->bW t≠c:=Cc;refine⟨λe=>key 1 ag (by rw[bW];simp[e]),λe=>key 2 ag (by rw[bW];simp[e]),λe=>key 3 ag (by rw[bW];simp[e]),?_,?_,?_,h0⟩
 .cases h:aX t iN with
  |false=>rfl|true=>exact absurd (Gx<|j5 h)<|key 4 ag
 .cases h:aX t eF with
  |false=>rfl|true=>exact absurd (Gx<|j6 h)<|key 4 ag
 .rintro rfl
  cases h:aX t CW with
  |false=>rfl|true=>
   have h5:=pE h;have:bW t=15:=by
    rw[bW];rw[if_neg ae,if_neg ae,if_neg ae,if_neg ae,if_neg (by rw[Kk,D9];rw[Rz]at h;simp at h;simp[h.2]),if_pos h]
   rw[this]at hb;simp at hb
def cy{p}(hb:aK (tk T k) sort=true)(ho:aX (tk T k) nD=false):aH T p q sort k=.ok (cN<|tk T k,k+1):=by
 have ho':=ho;rw[aH];rw[if_pos hb,if_neg<|by simp[ho']]
theorem afN{a b:BA}(h:a.toList=b.toList):a=b:=by
 rw[jy,jy]at h;exact ByteArray.ext<|Array.ext' h
def gG(h:aX t c=true):aA t=c:=by
 rw[qI<|pE h];rw[aX]at h;simp only[j9,beq_iff_eq]at h;exact afN h.2
def so(h5:t.kind=5)(h:aX t c=false):c≠t.text:=λe=>by
 subst e;rw[aX]at h;simp[h5]at h
def qK(h:t.kind≠5)c:aX t c=false:=by rw[aX];simp[h]
def uy{d}(h:aX t c=true)(hn:c.toList≠d.toList):aX t d=false:=by
 rw[aX]at h⊢;simp only[j9,beq_iff_eq]at h;simp[h.1,h.2,hn]
section
variable {m:MV}
def Vs(hs:s.size<=1000)(IH:CY s n)(h:SX w N rb sb m s k)(hn:(ja s 0).length<=k+1+n)(hb:aK (tk (ja s 0) k) 2=true){x}(hx:Bx w x #[rp rb]):
 (∃f,a_ (aA<|tk (ja s 0) k) (sf rb x)=some (pA f rb)/\(∀args w,(callFunc f args).run jz w=.ok (.enter f args) w)/\∀W,Bq w W->Cq f #[rp rb] W (ap PP N rb sb m s (aH (ja s 0) (dv (ja s 0) n) (lZ<|ja s 0) 2 k) W))\/
 (∃f,a_ (aA<|tk (ja s 0) k) (sf rb x)=some (mY f x)/\(∀args w,(callFunc f args).run jz w=.ok (.enter f args) w)/\∀W,Bq w W->Cq f #[Pv x] W (ap PP N rb sb m s (aH (ja s 0) (dv (ja s 0) n) (lZ<|ja s 0) 2 k) W)):=by
 have ho:=eC s k h.lt;obtain hk|hk|hk|hk|hk|⟨h9,hk⟩|hk:=ux ho aw hb
 .refine j6 ⟨131,by rw[jN hk];rfl,λ_ _=>qkr,?_⟩;rw[cy hb<|qK ae _];exact λW hW=>(aaf (h.af hW) hs hk x<|hx.below hW).2
 .refine j5 ⟨132,by rw[iw hk];rfl,λ_ _=>qkr,?_⟩;rw[cy hb<|qK ae _];exact λW hW=>(afM (h.af hW) hs hk).2
 .refine j6 ⟨133,by rw[jO hk];rfl,λ_ _=>qkr,?_⟩;rw[cy hb<|qK ae _];exact λW hW=>(aag (h.af hW) hs hk x<|hx.below hW).2
 .refine j6 ⟨134,qBk,λ_ _=>qkr,?_⟩;rw[cy hb<|uy hk qAp];exact λW hW=>(yR (h.af hW) hs (j5 hk) x<|hx.below hW).2.2.1
 .refine j6 ⟨135,qBk,λ_ _=>qkr,?_⟩;rw[cy hb<|uy hk qAp];exact λW hW=>(yR (h.af hW) hs (j6 hk) x<|hx.below hW).2.2.2
 .refine j5 ⟨130,qBk,λ_ _=>qkr,?_⟩;rw[cy hb<|uy hk qAp];exact λW hW=>OH (h.af hW) hs hk
 .refine j5 ⟨136,qBk,λ_ _=>qkr,λW hW=>AL hs IH (h.af hW) hn hk⟩
def aaj(h:SX w N rb sb m s k)(hb:aK (tk (ja s 0) k) 2=false)x:a_ (aA<|tk (ja s 0) k) (sf rb x)=none:=by
 have ho:=eC s k h.lt;have⟨n1,n2,n4,nt,nf,na,no⟩:=xV aw hb;obtain h'|h'|h'|h'|h'|h'|h':=ho.kd
 .exact absurd h' n1
 .exact absurd h' n2
 .rw[iy h'];rfl
 .exact absurd h' n4
 .rw[qI h'];have hz:=ho.s5 h';have q_:∀c:BA,5<c.size->c≠(tk (ja s 0) k).text:=λc hc e=>by rw[e]at hc;omega
  refine GC λp hp=>?_;simp only[sf,List.mem_cons,List.not_mem_nil,or_false]at hp;obtain rfl|rfl|rfl|rfl|rfl|rfl|rfl:=hp
  .exact so h' (na rfl)
  .exact q_ Gu aw
  .exact q_ J9 aw
  .exact q_ OC aw
  .exact so h' nt
  .exact so h' nf
  .exact so h' no
 .exact absurd h' h.ok
 .rw[jP h'];rfl
def adL w:(zeroValue 261).run jz w=.ok .nilFunc w:=qkr
end
theorem RowV.move{Q}{sz}{P'}{L:List α}{v:Value}(h:RowV Q sz w P L v)(hQ:gq Q)(hs:w.heap.size<=w'.heap.size)(hb:∀b,P b->b<w.heap.size->w'.heap[b]? =w.heap[b]?)(hq:∀b,P b->b<w.heap.size->P' b):RowV Q sz w' P' L v:=by
 obtain⟨va,vc,cs,hv,aN,hr⟩:=h;refine⟨va,vc,cs,hv,?_,λi hi=>hQ _ _ _ _ _ _ (hr i hi) hs hb hq⟩;obtain h0|⟨g,h1,h2,h3,h4⟩:=aN
 .exact j5 h0
 .refine j6 ⟨g,h1,hq g h2 h3,jm h3 hs,λi hi j hj=>?_⟩;rw[qe (a:=⟨g,i*sz+j,none⟩) (w:=w)<|hb g h2 h3];exact h4 i hi j hj
section
variable {Q:EQ α} {sz:Nat} {m:MV} {r:Except Fl (γ×Nat)} {P:World->Prop} {g:M γ} {L:List α}
def GD(I:List α->Prop)Q et sz N rb sb m s k w r(g:Nat->List α->Nat->M γ)gk(v:Value)wr:=
 ∃(kr:Nat)(L:List α)(f:Nat)(va:Option Addr)(vc tz:Nat),v=.slice va L.length vc/\I L/\cG N rb sb m s r w rb #[] (g f L tz) (λw'=>dh Q et sz w' w.heap.size va vc L) kr wr/\Hid (gk=(ja s 0).length-kr)/\k<=kr/\L.length<=kr/\(ja s 0).length<=kr+f
def cG.row(H:cG N rb sb m s r w0 xb C g P k w)(hQ:gq Q)(R:dh Q et sz w base va vc L)(hb:w0.heap.size<=base/\(xb=rb\/xb<base)):cG N rb sb m s r w0 xb C g (λw'=>dh Q et sz w' base va vc L) k w:=
 (H.add λw' a b=>R.lU hQ a λc c1 c2=>b c c2 (by have:=H.rz;omega) (by have:=H.rz;omega)).imp λ_ h=>h.2
def cG.append{ops}{rest}{o}{ac}{K}{sO xO}{t bytes}{z}{D}{c}{a}{wr:World}(H:cG N rb sb m s r w0 xb C g P k w)(hT:(ja s 0).length<=1001)(hQ:gq Q)(inf:(Tryz.prog.info? et).map (λi=>(i.zero,i.size,i.bytes))=some (some z,sz,bytes))(ut:Tryz.prog.underlying t=some (.slice et))(R:dh Q et sz w base va vc L)(hr:base<=wr.heap.size)(hb:∀b,(jx va L.length vc).ownBlock=some b->b<wr.heap.size)(V:Q w (λb=>wr.heap.size<=b) a c)(hl:L.length<k)(h:∀q c' w3,cG N rb sb m s r w0 xb C g (λw'=>dh Q et sz w' base (some ⟨q,0,none⟩) c'<|L++[a]) k w3->wpList jz ops K rest (ac.put o.dst<|.slice (some ⟨q,0,none⟩) (L++[a]).length c') w3)(he:w0.heap.size<=base/\(xb=rb\/xb<base)/\base<=w.heap.size:=by exact⟨br _,.inl rfl,H.ke.size⟩)(hD:D=(qh sz).map c:=by rfl)(h1:∀u∈D,u.oneCell'=true:=by intro u hu;simp at hu;obtain rfl|rfl|rfl|rfl|rfl|rfl:=hu<;>rfl)(hz:z.cells.size=sz/\0<sz/\bytes<=1000:=by decide)(hgd:o.guard=none:=by rfl)(ho:o.op=.call {callee:=.builtin .append,args:=#[sO,xO],argTypes:=#[t,t]}:=by rfl)(hs:ac.eval sO=.slice va L.length vc:=by rfl)(hx:ac.eval xO=.slice (some ⟨w.heap.size,0,none⟩) 1 1:=by rfl):
 wpList jz ops K (o::rest) ac (w.alloc<|.cells D.toArray et):=by
 have⟨i0,wY,og,l8,gR⟩:=info_parts inf;obtain⟨cs,HO,HP⟩:=R;have kl:=H.sx.lt;have hbw:Bq w (w.alloc<|Cv D.toArray et):=bw _;have Xc:=fU HO;refine wpList_append_own_at _ hgd sO xO t ho base et i0 _ sz bytes ut wY og l8 gR hz.1 hz.2.1 (Lv va L.length vc) L.length _ hs (jX HO hbw) ⟨w.heap.size,0,none⟩ 1 1 D hx (by rw[hD];simp) (oW _ _ _ _ ag) h1 Yu (jo (Nat.mul_le_mul_left _ hz.2.2) ae) bD ?_;intro v3 w3 O3 g3 n3 l3;obtain⟨q,c',rfl⟩:=tI O3 ae;have e:(L++[a]).length=L.length+1:=ag;have B:=H.af hbw;have rz:=H.rz;have G:cG N rb sb m s r w0 xb C g (λ_=>True) k w3:=⟨SX.grown g3 B.sx λj e=>by have:=Xc j e;omega,Ke.grown g3 B.ke λj e=>by have:=Xc j e;omega,H.eq,λ_ _ _=>trivial,H.rz,jm B.xz g3.size,B.bx.imp id λ⟨b1,b2,b3⟩=>⟨b1,b2,b3.grown g3 λj e=>by have:=Xc j e;omega⟩⟩;have:=h q c' w3<|G.row hQ (dh.push (w1:=w) (lo:=wr.heap.size) (c:=c) hQ HP V hr hb hbw (hD▸O3) g3 l3) ⟨he.1,he.2.1⟩;rw[e]at this;exact this
end
def adM:(Tryz.prog.info? 263).map (λi=>(i.zero,i.size,i.bytes))=some (some .nilIface,1,16):=qkr
def Vt:Tryz.prog.underlying 311=some (.slice 263):=qkr
def I6:(Tryz.prog.info? 79).map (λi=>(i.zero,i.size,i.bytes))=some (some .nilIface,1,16):=qkr
def zI:Tryz.prog.underlying 148=some (.slice 79):=qkr
def uz w:(zeroValue 252).run jz w=.ok .nilFunc w:=qkr
def Ko{x:Nd}(h:aK (tk T k) sort=false):dn T sm sort f x k=.ok (x,k):=by
 cases f with
 |zero=>rfl|succ f=>unfold dn;rw[h];rfl
def Vu{x:Nd}(h:aK (tk T k) sort=true):dn T sm sort (f+1) x k=aV sm (λy k'=>dn T sm sort f (x.add y<|aR T k') k') k:=by
 show(if aK (tk T k) sort=true then _ else _)=_;rw[if_pos h]
def sq{T:List jc}{sm:M Nd}{sort c:Nat}{nm:BA}{n fr at_:Nat}:∀f L k a k2,dn T sm sort f (.mk c nm n L fr (aR T k) at_) k=.ok (a,k2)->∃L',a=.mk c nm n L' fr (aR T k2) at_
 |0,L,k,a,k2,h=>by cases h;exact⟨L,rfl⟩|f+1,L,k,a,k2,h=>by
  unfold dn at h;split at h
  .have⟨y,k1,_,h2⟩:=aC h;exact sq f (L++[y]) k1 a k2 h2
  .cases h;exact⟨L,rfl⟩
def GF(f:M α)k:f k=aV f (λa k=>.ok (a,k)) k:=by rw[aV];cases f k<;>rfl
def adN R nm w P(a:Nd)v:=∃L fr tz at_,a=.mk 2 nm 0 L fr tz at_/\RowV (Q1 R) 1 w P L v
def Tab N rb sb m s R(sm:M Nd)sort b w k:=∃L,MS jv w b L/\
 (aK (tk (ja s 0) k) sort=true/\((∃F,a_ (aA<|tk (ja s 0) k) L=some (pA F rb)/\(∀args w,(callFunc F args).run jz w=.ok (.enter F args) w)/\∀W,Bq w W->Cq F #[rp rb] W (ap R N rb sb m s (sm k) W))\/
  (∃F x,a_ (aA<|tk (ja s 0) k) L=some (mY F x)/\(∀args w,(callFunc F args).run jz w=.ok (.enter F args) w)/\∀W,Bq w W->Cq F #[Pv x] W (ap R N rb sb m s (sm k) W)))\/
  aK (tk (ja s 0) k) sort=false/\a_ (aA<|tk (ja s 0) k) L=none)
section
variable {m:MV} {b:Nat} {p:M Nd}
def Kq(hF:mt=208\/mt=207\/mt=206)(hM:MS jv w b L)x:(Instr.lookup mt (Mv b) (.string x) true).run jz w=.ok (lH (a_ x L) .nilFunc) w:=by
 obtain rfl|rfl|rfl:=hF
 .exact eG hM Tryz.underlying208 (ahe w) x
 .exact eG hM Tryz.underlying207 (adL w) x
 .exact eG hM Tryz.underlying206 (uz w) x
def afO{FO}(hF:FO=100/\mt=208\/FO=197/\mt=207\/FO=179/\mt=206)(hI:∀{w P a v},R w P a v->∃t x,v=.iface t (.agg x))(h:SX w N rb sb m s k)(Y:Tab N rb sb m s R (aH (ja s 0) p q sort) sort b w k):
 Cq FO #[rp rb,Mv b] w (ap R N rb sb m s (aH (ja s 0) p q sort k) w):=by
 obtain⟨L,hM,Y⟩:=Y;have hl:=Kq (mt:=mt) (by obtain h|h|h:=hF<;>simp[h.2]) hM (aA<|tk (ja s 0) k);have⟨c,f,z⟩:=h.bx;obtain⟨hb,⟨F,hg,hcf,HC⟩|⟨F,x,hg,hcf,HC⟩⟩|⟨hb,hg⟩:=Y;all_goals simp only[hg,lH]at hl
 all_goals clear hg hM
 all_goals obtain⟨rfl,rfl⟩|⟨rfl,rfl⟩|⟨rfl,rfl⟩:=hF
 all_goals(
  first
  |go_enter func100,ntmps100
  |go_enter func197,ntmps197
  |go_enter func179,ntmps179
  first
  |(go_wp2_with(go_at_call 98;refine(xL h.rd).mono ?_;rintro e w1⟨rfl,IB⟩)
    refine⟨rfl,j8 IB,?_⟩;rw[show aH (ja s 0) p q sort k=.error (eK<|tk (ja s 0) k) by rw[aH];rw[hb];rfl,eK,if_neg h.ok]
    rfl)
  |(go_wp2_with fail
    refine(HC _<|qf _ _).mono ?_;intro e w1 hp
    cases hA:fin (ja s 0) (aH (ja s 0) p q sort k)with
    |error f'=>
     obtain⟨rfl,IB⟩:=hp.bad hA;exact⟨rfl,hp⟩
    |ok r=>
    obtain⟨a,k2⟩:=r;obtain⟨v,rfl,_,_,hR⟩:=hp.ok hA;obtain⟨tv,xv,rfl⟩:=hI hR
    go_wp2
    go_ret
    exact hp))
def aak{FM et}(hT:(ja s 0).length<=1001)(hF:FM=102/\mt=208/\et=79\/FM=198/\mt=207/\et=263)(hI:∀{w P a v},R w P a v->∃t x,v=.iface t (.agg x))(mv:Mov R)(lts:mZ sm)(D:∀w k',SX w N rb sb m s k'->k<=k'->Tab N rb sb m s R sm sort b w k')(h:SX w N rb sb m s k)nm(fr tz at_:Nat):
 Cq FM #[rp rb,Mv b] w (ap (adN R nm) N rb sb m s (dn (ja s 0) sm sort (ja s 0).length (.mk 2 nm 0 [] fr tz at_) k) w):=by
 have mvs:gq (Q1 R):=λ_ _ _ _ _ _ h a b c=>mv _ _ _ _ _ _ h a b c;obtain⟨r,hr⟩:∃r,r=dn (ja s 0) sm sort (ja s 0).length (.mk 2 nm 0 [] fr tz at_) k:=⟨_,rfl⟩;rw[<-hr];have H:=cG.at h hr
 replace D:=ai D
 have tl:=ai (λ(w:World)(L:List (BA×Value))(h:MS Sv w b L)=>Kq (mt:=mt) (by obtain h|h:=hF<;>simp[h.2.1]) h);clear h hr;obtain⟨rfl,rfl,he⟩|⟨rfl,rfl,he⟩:=hF
 all_goals(
  replace he:=ai he
  first
  |go_enter func102,ntmps102
  |go_enter func198,ntmps198
  go_wp2
  go_loopg[5] ((ja s 0).length-k) (λgk v wr=>GD (λ_=>True) (Q1 R) et 1 N rb sb m s k w r (λf L tz=>dn (ja s 0) sm sort f<|.mk 2 nm 0 L fr tz at_) gk v wr)
  case atStart=>exact⟨k,[],(ja s 0).length,none,0,tz,rfl,trivial,H.row mvs (dh.nil _ _ _ _ _) ⟨br _,.inl rfl⟩,ai rfl,br _,ag,ae⟩
  case round=>
   clear H;obtain rfl:=uh he;obtain⟨kr,L,f,va,vc,to',rfl,-,H,cV,hle,hLl,hfu⟩:=hrel;have⟨X,hM,Y⟩:=uh D _ _ H.sx hle;have hl:=uh tl _ _ hM<|aA<|tk (ja s 0) kr;have hkr:=H.sx.lt;have zw:=H.ke.size;have hrw:=H.p.block;have⟨c,ff,z⟩:=H.sx.bx;obtain⟨hb,Y⟩|⟨hb,hg⟩:=Y
   .obtain⟨f,rfl⟩:∃f',f=f'+1:=⟨f-1,ae⟩;obtain⟨F,hg,hcf,HC⟩|⟨F,x,hg,hcf,HC⟩:=Y
    all_goals(
     simp only[hg,lH]at hl;clear hg;go_wp2_with fail;refine(H.re<|Vu hb).call (HC _<|qf _ _) ?_ (st:=λa q h=>jQ _ _ _ _ q h) (mv:=mv);intro a k2 v w1 H q V;obtain⟨tv,xv,rfl⟩:=hI V;have l2:=lts _ _ _ q;clear HC hcf c ff z hl hM q;go_wp2_with(at_builtin;go_must(refine H.append (D:=[Fv tv<|Av xv]) (z:=Zv) (bytes:=16) hT mvs (by first|exact I6|exact adM) (by first|exact zI|exact Vt) H.p.1 zw (λb e=>(hrw b e).2) (c:=λ_=>Fv tv<|Av xv) V ae ?_;intro q3 c3 w3 H));go_roundg((ja s 0).length-k2)
     case measure=>rw[uh cV];omega
     case rel=>exact⟨k2,L++[a],f,_,c3,_,ag,trivial,H.re rfl,ai rfl,ae,bD,ae⟩)
   .simp only[hg,lH]at hl
    go_wp2
    go_ret
    exact H.done (λR=>⟨L,_,_,_,rfl,R.v mvs⟩)<|Ko hb)
end
section
variable {m:MV} {b:Nat} {p:M Nd}
def Kr{nm}(mv:Mov R):Mov (adN R nm):=λ_ _ _ _ _ _⟨L,a,b,c,d,e⟩x y z=>⟨L,a,b,c,d,e.move (λ_ _ _ _ _ _ h a b c=>mv _ _ _ _ _ _ h a b c) x y z⟩
def adN.sl{nm}{v}(h:adN R nm w P a v):∃va L vc,v=.slice va L vc:=by obtain⟨_,_,_,_,_,_,_,_,rfl,-⟩:=h;exact⟨_,_,_,rfl⟩
def aal{FH tt}(hs:s.size<=1000)(hT:(ja s 0).length<=1001)(hF:FH=176/\tt=313/\m.d=Mv b\/FH=76/\tt=150/\b=sb)(hI:∀{w P a v},R w P a v->∃t x,v=.iface t (.agg x))(mv:Mov R)(lts:mZ (aH (ja s 0) p q sort))(D:∀w k',SX w N rb sb m s k'->k<=k'->Tab N rb sb m s R (aH (ja s 0) p q sort) sort b w k')(h:SX w N rb sb m s k)(mk:∀{w P nm L v}{f t a y:Nat},oA nm->y=a+nm.size->RowV (Q1 R) 1 w P L v->R w P (.mk 2 nm 0 L f t a) (.iface tt<|.agg #[Nv f,Nv t,Nv a,Nv y,.string nm,v])):
 Cq FH #[rp rb] w (ap R N rb sb m s (iM (ja s 0) (aH (ja s 0) p q sort) sort k) w):=by
 have ho:=eC s k h.lt;have E_:=(pD s k h.lt).sp;have hku:=Gt ho h.ok;rw[show J9.toList=[117,112,32,110,97,109,101]from toList_mk _]at hku;have⟨c,f,z⟩:=h.bx
 replace D:=ai D
 replace E_:=ai E_
 by_cases h2:(tk (ja s 0) k).kind=2
 .rw[h2]at hku;have⟨k1,e1,e2⟩:=Rw s k h.lt ae;have HE:iM (ja s 0) (aH (ja s 0) p q sort) sort k=aV (dl (ja s 0) 2) (λ_=>dn (ja s 0) (aH (ja s 0) p q sort) sort (ja s 0).length<|.mk 2 (tk (ja s 0) k).text 0 [] (tk (ja s 0) k).aF (aR (ja s 0)<|k+1) (tk (ja s 0) k).aF) k:=by
   unfold iM;rw[if_pos<|by simp[h2]];unfold aV;rw[aam sort k h2,ul h2,e2];unfold cN bW nK;simp[h2]
  obtain⟨rfl,rfl,rC⟩|⟨rfl,rfl,rfl⟩:=hF
  all_goals(
   refine cG.AK h HE λH=>?_;clear HE e1 e2;first
   |go_enter func176,ntmps176
   |go_enter func76,ntmps76
   go_wp2_with fail;refine H.call (vU h hs 2 J9<|j6 ⟨rfl,rfl⟩) ?_ (st:=λ_=>jQ _ _ _ _);intro t k1 v w1 H q V
   cases V
   rw[ul h2]at q
   cases q
   have H:=H.box (D:=#[Nv (tk (ja s 0) k).aF,Nv (tk (ja s 0) k).to,Sv (tk (ja s 0) k).text]) (t:=121);clear c f z;have⟨c,f,z⟩:=H.sx.bx;go_wp2_with fail;clear c f z;refine(H.re<|GF (dn (ja s 0) (aH (ja s 0) p q sort) sort (ja s 0).length<|.mk 2 (tk (ja s 0) k).text 0 [] (tk (ja s 0) k).aF (aR (ja s 0)<|k+1) (tk (ja s 0) k).aF)<|k+1).call (aak hT (by first|exact .inl ⟨rfl,rfl,rfl⟩|exact .inr ⟨rfl,rfl,rfl⟩) hI mv lts (λw k' S l=>uh D w k' S ae) H.sx _ _ _ _) ?_ (mv:=Kr mv);intro a k2 v w3 H q V;have⟨L',hL'⟩:=sq _ _ _ _ _ q;subst hL';obtain⟨va,L,vc,rfl⟩:=V.sl;clear V q;have⟨⟨_,c3,f3,z3⟩,_⟩:=H.p
   go_wp2
   go_region_with(go_at_call 78;refine H.drew.since ?_;intro w4 H;have⟨⟨_,c4,f4,z4⟩,_⟩:=H.p)
   all_goals(
    go_wp2
    go_ret;refine H.done ?_;rintro⟨_,L1,fr,tz,at_,e,V⟩;injection e with _ _ _ e3 e4 e5 e6;subst e3 e4 e5 e6
    exact mk (ho.v2 h2) E_ V))
 .rw[show((tk (ja s 0) k).kind==2)=false by simp[h2]]at hku;have HE:iM (ja s 0) (aH (ja s 0) p q sort) sort k=(aH (ja s 0) p q sort) k:=by unfold iM;rw[if_neg<|by simp[h2]]
  rw[HE];obtain⟨rfl,rfl,rC⟩|⟨rfl,rfl,rfl⟩:=hF
  all_goals(
   first
   |go_enter func176,ntmps176
   |go_enter func76,ntmps76
   go_wp2_with fail;refine(afO (by first|exact .inl ⟨rfl,rfl⟩|exact .inr<|.inl ⟨rfl,rfl⟩) hI h<|uh D _ _ h<|br _).mono ?_;intro e w1 hp
   cases hA:fin (ja s 0) ((aH (ja s 0) p q sort) k)with
   |error f'=>
    obtain⟨rfl,IB⟩:=hp.bad hA;exact⟨rfl,hp⟩
   |ok r=>
   obtain⟨a,k2⟩:=r;obtain⟨v,rfl,_,_,hR⟩:=hp.ok hA;obtain⟨tv,xv,rfl⟩:=hI hR
   go_wp2
   go_ret
   exact hp)
end
abbrev Ea s n:=aH (ja s 0) (da (ja s 0) n) (da (ja s 0) n) 1
def RowV.pt{L}{v}{nm}{t a y}(hu:oA nm)(hy:y=a+nm.size)(h:RowV (Q1 PT) 1 w P L v):PT w P (.mk 2 nm 0 L f t a) (.iface 150<|.agg #[Nv f,Nv t,Nv a,Nv y,.string nm,v]):=by
 obtain⟨va,vc,cs,rfl,aN,hr⟩:=h;exact .up nm 0 L f t a _ _ _ _ va vc (λi=>cs i 0) hu (aN.imp id λ⟨g,h1,h2,h3,h4⟩=>⟨g,h1,h2,h3,λi hi=>by simpa using h4 i hi 0 aw⟩) hr rfl (by rw[hy])
def aan s n:=∀(w:World)(N rb sb:Nat)(m:MV)(k:Nat),SX w N rb sb m s k->(ja s 0).length<=k+n->Cq 52 #[rp rb] w (ap PT N rb sb m s (da (ja s 0) n k) w)
section
variable {m:MV}
def Ks(hs:s.size<=1000)(IH:aan s n)(h:SX w N rb sb m s k)(hn:(ja s 0).length<=k+1+n)(ho:aX (tk (ja s 0) k) nD=true):Cq 139 #[rp rb] w (ap PT N rb sb m s (Ea s n k) w):=by
 have Xh:=ij;have hf2:=kQ;refine cG.AK h (vY ho) λH=>?_;go_enter func139,ntmps139;go_wp2_with fail;refine H.take ?_;intro w1 H;go_wp2_with fail;refine(H.re (g':=aV (da (Pu.bF s 0) n)<|iK (Pu.bF s 0) (da (Pu.bF s 0) n) (da (Pu.bF s 0) n) 1 (tk (Pu.bF s 0) k).aF) (by rw[eQ];rw[if_neg ag])).call (IH _ _ _ _ _ _ H.sx ae) ?_;intro a k2 v w2 H q V;obtain⟨t2,x2,rfl⟩:=V.iface;have l2:=dc (T:=(Pu.bF s 0)) n _ _ _ q;go_wp2_with fail
 cases hm:aX (tk (ja s 0) k2) nQ
 .exact RE
 .refine(H.re<|pH hm).C8 hm ?_;intro w3 H;go_wp2_with fail;refine H.call (IH _ _ _ _ _ _ H.sx ae) ?_;intro b k4 v w4 H q V;obtain⟨t4,x4,rfl⟩:=V.iface;go_wp2_with fail;refine H.take ?_;intro w5 H;go_wp2_with fail;refine H.since ?_;intro w6 H
  go_wp2
  go_ret;exact H.done λ⟨⟨_,A⟩,B⟩=>.pr _ _ _ _ _ _ _ _ _ _ _ A B
def ajP(hs:s.size<=1000)(IH:aan s n)(h:SX w N rb sb m s k)(hn:(ja s 0).length<=k+1+n):Tab N rb sb m s PT (Ea s n) 1 sb w k:=by
 have ho:=eC s k h.lt;have ht:=rD s k h.lt;refine⟨smL rb,h.ev.sm,?_⟩
 cases hb:aK (tk (ja s 0) k) 1
 .exact .inr ⟨rfl,ZX ho h.ok hb⟩
 .refine .inl ⟨rfl,.inl ⟨_,adD ho h.ok hb,ZW _,λW hW=>?_⟩⟩;have h:=h.af hW;rw[fid];by_cases h3:(tk (ja s 0) k).kind=3
  .rw[if_pos h3,show Ea s n k=_ from xM (j5 h3)];refine(Vm h.rd hs ht h3 ho).mono λe w' q=>q.x h ae ?_;rw[show cN (tk (ja s 0) k)=.mk 16 (tk (ja s 0) k).text 0 [] (tk (ja s 0) k).aF (tk (ja s 0) k).to (tk (ja s 0) k).aF by rw[cN,bW,nK];simp[h3]];exact .var _ _ _ _ _ _ _ (ho.v3 h3) rfl (by rw[afK s k h.lt])
  rw[if_neg h3];by_cases h2:(tk (ja s 0) k).kind=2
  .rw[if_pos h2,show Ea s n k=_ from xM (j6 h2)];refine(OB h.rd hs ht h2).mono λe w' q=>q.x h ae ?_;rw[show cN (tk (ja s 0) k)=.mk 2 (tk (ja s 0) k).text 0 [] (tk (ja s 0) k).aF (tk (ja s 0) k).to (tk (ja s 0) k).aF by rw[cN,bW,nK];simp[h2]];exact .up _ _ [] _ _ _ _ _ _ _ none 0 (λ_=>Zv) (ho.v2 h2) (j5 rfl) (λi hi=>by simp at hi) rfl (by rw[afK s k h.lt])
  rw[if_neg h2];rw[vN ho]at hb;exact Ks hs IH h hn (by simpa[h2,h3]using hb)
def OM(hs:s.size<=1000)(hT:(ja s 0).length<=1001)(IH:aan s n):aan s (n+1):=by
 intro w N rb sb m k h hn;have sl:mZ (Ea s n):=cE (dc (T:=(Pu.bF s 0)) n) (dc n) 1;refine cG.AK (mm:=iM (Pu.bF s 0) (Ea s n) 1) (g:=nI (Pu.bF s 0) (da (Pu.bF s 0) n) (tk (Pu.bF s 0) k).aF) h rfl λH=>?_;have⟨c,f,z⟩:=h.bx;go_enter func52,ntmps52;go_wp2_with fail;refine H.call (aal (R:=PT) hs hT (.inr ⟨rfl,rfl,rfl⟩) PT.iface (λ_ _ _ _ _ _ h a b c=>h.move a b c) sl (λw k' S l=>ajP hs IH S ae) h RowV.pt) ?_ (st:=λa=>xN _ _ _ a);intro a k2 v w1 H q V;obtain⟨tv,xv,rfl⟩:=V.iface;have l2:=v7 sl 1 _ _ _ q;clear V q;go_wp2_with fail
 cases hc:aX (tk (ja s 0) k2) sr
 .refine H.GB hc ?_;have H:=H.re (g':=λk=>.ok (a,k)) (by rw[nI];rw[hc];rfl)
  go_wp2
  go_ret;exact H.done λh=>h.2
 .refine(H.re (g':=aV rE λ_=>aV (da (ja s 0) n) λb k'=>.ok (.mk 17 jY 0 [a,b] (tk (ja s 0) k).aF (aR (ja s 0) k') (tk (ja s 0) k).aF,k')) (by rw[nI];rw[if_pos hc];rfl)).C8 hc ?_;intro w3 H;go_wp2_with fail;refine H.call (IH _ _ _ _ _ _ H.sx ae) ?_;intro b k4 v w4 H q V;obtain⟨t4,x4,rfl⟩:=V.iface;go_wp2_with fail;refine H.since ?_;intro w5 H
  go_wp2
  go_ret;exact H.done λ⟨⟨_,A⟩,B⟩=>.fn _ _ _ _ _ _ _ _ _ _ _ A B
def aao(hs:s.size<=1000)(hT:(ja s 0).length<=1001):∀n,aan s n
 |0=>λw N rb sb m k h hn=>by have:=h.lt;omega|n+1=>OM hs hT<|aao hs hT n
def RG(hs:s.size<=1000)(hT:(ja s 0).length<=1001)(h:SX w N rb sb m s k)(hn:(ja s 0).length<=k+n):Cq 52 #[rp rb] w (ap PT N rb sb m s (da (ja s 0) n k) w):=aao hs hT n _ _ _ _ _ _ h hn
end
end
end Go.Proofs.YtlnlhlefeokfjaaGreatDoor

import Derived.Laws.AppendOwnNone
import Derived.Shelf.Spec.SlicesGrow
import Derived.Test.YtopmodaakdnliaaGreatDoorCPf
import Derived.Test.YtopmodaakdnliaaGreatDoorCWj
import Derived.Test.YtopmodaakdnliaaGreatDoorCTo
set_option linter.all false
set_option maxRecDepth 100000
set_option maxHeartbeats 8000000
namespace Go.Proofs.YtopmodaakdnliaaGreatDoor
open Pu renaming bG->ja,Tok->jc,aH->jd,dB->jf,m9->jh,at_->ji,cT->jj,gN->jk,gI->jl
open _root_.List.Mem renaming tail->jm,head->jo
open _root_.Nat renaming lt_of_lt_of_le->jq,le_trans->jt,mul_le_mul_left->ju,ne_of_gt->jv,le_of_lt->jx,zero_le->jy,succ_mul->jz,mul_le_mul_right->j3,zero_add->j5
open Go.Proofs.Tryz renaming prog->j6,underlying9->j7
open Go.Value renaming string->j8,slice->j9
open Go.ByteArray renaming toList_eq->qd
open Go.World renaming cell?_of_block->qe,ownsRow_nil->qf,setCell->qg
open Or renaming inl->qh,inr->qi
open Go.RowKit.Below renaming refl->qj,heap_setCell->ql
open Go.Instr renaming lookup->qm,field->qn
open Ke renaming J7->qp,of->qr
open _root_.List renaming range->qt,eq_nil_of_length_eq_zero->qu,getElem_append_left->qv,not_mem_nil->qx,mem_cons->qy
open Bool renaming and_eq_true->qz
open KL renaming str->q9
open Go Go.RowKit Proofs.Tryz
variable {ac:Act} {ad:Addr} {ops:Array Oper} {C D args:Array Value} {c nm s:BA} {post:Ending->World->Prop} {r:Except Fl (Nd×Nat)} {K:Exit->Act->World->Prop} {L:List (BA×Value)} {R:List (List Ms.Sk)} {l:List Dc} {ps:List Ms.Sk} {rest:List Oper} {T:List jc} {d:M Dc} {e q sm:M Nd} {B F N base bytes f g j k k' kb n rb sb sort uc vc xb y:Nat} {cs:Nat->Nat->Value} {P P' P2:Nat->Prop} {a nd:Nd} {o:Oper} {sO xO:Operand} {va:Option Addr} {t:jc} {α β γ:Type} {et:TypeId} {W w w' w0 w3:World}
section
open Go.ChangeMaps
def uI{r}{a:α}(h:fin T r=.ok (a,k)):r=.ok (a,k)/\(tk T k).kind≠6:=by
 unfold fin at h;split at h
 .cases h
 .grind
theorem cX(a:α)(h:(tk T k).kind=6):fin T (.ok (a,k))=.error (fD<|tk T k):=by rw[fin];simp[h]
def kP(a:α)(h:(tk T k).kind≠6):fin T (.ok (a,k))=.ok (a,k):=by grind[tk,fin]
def aO{α:Type}(T:List jc)(g:M α):=∀k,(tk T k).kind=6->fin T (g k)=.error (fD<|tk T k)
theorem mM{m}{g:α->M β}{a}(h:fin T (m k)=.ok (a,k')):aX m g k=g a k':=by grind[fin,aX]
def bQ{m}{g:α->M β}{f}(h:fin T (m k)=.error f)(hs:∀a,aO T<|g a):fin T (aX m g k)=.error f:=by grind[fin,aO,aX]
theorem dX(h:t.kind=6)s:aU t s=false:=by grind[aU]
def aaX(h:t.kind=6):aF t 1=false:=by grind[aF,bY,dX]
def qR(T:List jc)c:aO T (bm T c):=λk h=>by rw[bm];rw[dX h];rfl
theorem fP{m}{g:α->M β}(h:aO T m)(hg:∀a,aO T<|g a):aO T (aX m g):=λk hk=>bQ (h k hk) hg
def J'(T:List jc)mk:aO T (qS T mk):=fP (qR T _) λ_ k h=>cX _ h
def Ka(T:List jc)p q:aO T (aJ T p q 1):=λk h=>by
 rw[aJ];rw[aaX h];rfl
def wu(T:List jc)p f a:aO T (qT T p f a):=by grind[aO,qT,dX,cX]
def Dx(T:List jc):∀n,aO T<|iz T n
 |0=>λk h=>rfl|n+1=>λk h=>by
  rw[iz];refine bQ ?_<|λa=>wu T _ _ a;rw[iM];rw[if_neg<|by simp[h]];exact Ka T _ _ k h
def PT.iface{v}(h:PT w P a v):∃t x,v=.iface t (.agg x):=by
 cases h<;>exact⟨_,_,rfl⟩
def gW a b c d w:(qn 237 (.agg #[a,b,c,d]) 0).run j6 w=.ok (.agg #[a,b]) w:=qkr
def jT a b w:(qn 69 (.agg #[a,b]) 0).run j6 w=.ok a w:=qkr
abbrev FX:BA:=⟨#[108,111,119,32,110,97,109,101]⟩
abbrev OX:BA:=⟨#[97,32,110,117,109,98,101,114]⟩
abbrev rp rb:=Pv rb
abbrev oq(f rb:Nat):Value:=.func (.func f) #[rp rb] #[]
abbrev mA(f b:Nat):Value:=.func (.func f) #[] #[Pv b]
abbrev Wl(b c:Nat):Value:=.func (.func 201) #[] #[Pv b,Pv c]
abbrev Kc rb:=[(lO,oq 135 rb),(r9,oq 136 rb)]
abbrev SL rb:=[(OY,oq 137 rb),(r9,oq 138 rb),(kIf,oq 139 rb),(uJ,oq 140 rb)]
abbrev sI rb b:=[(FX,mA 141 b),(J6,oq 143 rb),(OX,mA 144 b),(fH,mA 146 b),(di,mA 148 b),(gG,oq 149 rb)]
abbrev qU rb b:=[(mF,oq 150 rb),(FX,mA 151 b),(J6,oq 152 rb),(OX,mA 153 b),(fH,mA 154 b),(di,mA 155 b),(gG,oq 156 rb)]
def ot w N rb v L:=∃b,v=Mv b/\b<N/\b≠rb/\MS j8 w b L
def gO w N rb b C:=b<N/\b≠rb/\Bx w b C
structure Maps w N rb(m:MV):Prop where
 d:ot w N rb m.a (Kc rb)
 wd:ot w N rb m.b (SL rb)
 at_:∃x,gO w N rb x #[rp rb]/\ot w N rb m.c (sI rb x)
 pl:∃x,gO w N rb x #[rp rb]/\ot w N rb m.d (qU rb x)
 cm:∃x y,gO w N rb x #[rp rb]/\gO w N rb y #[oq 161 rb]/\ot w N rb m.f [(ik,Wl x y)]
 sm:∃x y x' y',gO w N rb x #[rp rb]/\gO w N rb y #[oq 162 rb]/\gO w N rb x' #[rp rb]/\gO w N rb y' #[oq 162 rb]/\ot w N rb m.g [(jI,Wl x y),(fs,Wl x' y')]
 pr:∃x y,gO w N rb x #[rp rb]/\gO w N rb y #[oq 163 rb]/\ot w N rb m.h [(il,Wl x y)]
section
variable {m:MV}
theorem ot.move{v:Value}(h:ot w N rb v L)(hb:∀b,b<N->b≠rb->w'.heap[b]? =w.heap[b]?):ot w' N rb v L:=by
 obtain⟨b,h1,h2,h3,h4⟩:=h;exact⟨b,h1,h2,h3,h4.same<|hb b h2 h3⟩
theorem gO.move{b}(h:gO w N rb b C)(hs:w.heap.size<=w'.heap.size)(hb:∀b,b<N->b≠rb->w'.heap[b]? =w.heap[b]?):gO w' N rb b C:=
 ⟨h.1,h.2.1,h.2.2.same hs<|hb b h.1 h.2.1⟩
theorem Maps.move(h:Maps w N rb m)(hs:w.heap.size<=w'.heap.size)(hb:∀b,b<N->b≠rb->w'.heap[b]? =w.heap[b]?):Maps w' N rb m:=by
 obtain⟨d,wd,⟨x1,a1,a2⟩,⟨x2,b1,b2⟩,⟨x3,y3,c1,c2,c3⟩,⟨x4,y4,x5,y5,d1,d2,d3,d4,d5⟩,⟨x6,y6,e1,e2,e3⟩⟩:=h;exact⟨d.move hb,wd.move hb,⟨x1,a1.move hs hb,a2.move hb⟩,⟨x2,b1.move hs hb,b2.move hb⟩,⟨x3,y3,c1.move hs hb,c2.move hs hb,c3.move hb⟩,⟨x4,y4,x5,y5,d1.move hs hb,d2.move hs hb,d3.move hs hb,d4.move hs hb,d5.move hb⟩,⟨x6,y6,e1.move hs hb,e2.move hs hb,e3.move hb⟩⟩
structure Env w N rb sb m:Prop where
 sm:MS j8 w sb (smL rb)
 la:Laid w
 h2:2<=rb
 hr:rb<N
 hs:sb<N
 ne:sb≠rb
 hN:N<=w.heap.size
 mp:Maps w N rb m
theorem Env.move(h:Env w N rb sb m)(hs:w.heap.size<=w'.heap.size)(hb:∀b,b<N->b≠rb->w'.heap[b]? =w.heap[b]?):Env w' N rb sb m:=by
 have c:∀b o,b<2->w'.cell? ⟨b,o,none⟩=w.cell? ⟨b,o,none⟩:=λb o q=>qe (a:=⟨b,o,none⟩) (hb b (by have:=h.hr;have:=h.h2;omega) (by have:=h.h2;omega));exact⟨h.sm.same<|hb sb h.hs h.ne,⟨λj hj=>(c 1 j ae).trans<|h.la.words j hj,λj hj=>(c 0 j ae).trans<|h.la.signs j hj,jt h.la.hz hs⟩,h.h2,h.hr,h.hs,h.ne,jt h.hN hs,h.mp.move hs hb⟩
def Env.ke(h:Env w N rb sb m)(hk:Ke rb w w'):Env w' N rb sb m:=h.move hk.size λb hb hn=>hk.block b (jq hb h.hN) hn
end
structure SX w N rb sb m s k:Prop where
 bx:Bx w rb (rdC s (tk (ja s 0) k) (aR (ja s 0) k) m sb)
 ev:Env w N rb sb m
 lt:k<(ja s 0).length
 ok:(tk (ja s 0) k).kind≠6
def ap{α:Type}(R:World->(Nat->Prop)->α->Value->Prop)N rb sb m s r w e w':=
 Ke rb w w'/\match fin (ja s 0) r with
  |.error f=>e=bK f|.ok (a,k)=>∃v,e=.returned v/\SX w' N rb sb m s k/\R w' (λb=>w.heap.size<=b) a v
section
variable {R:World->(Nat->Prop)->α->Value->Prop} {m:MV} {e:Ending}
def SX.rd(h:SX w N rb sb m s k):RD w rb sb m s (tk (ja s 0) k) (aR (ja s 0) k):=⟨h.bx,h.ev.sm,h.ev.ne,h.ev.la,h.ev.h2⟩
theorem SX.move(h:SX w N rb sb m s k)(hs:w.heap.size<=w'.heap.size)(hb:∀b,b<N->w'.heap[b]? =w.heap[b]?):SX w' N rb sb m s k:=
 ⟨h.bx.same hs<|hb rb h.ev.hr,h.ev.move hs<|λb q _=>hb b q,h.lt,h.ok⟩
def SX.af(h:SX w N rb sb m s k)(hb:Bq w w'):SX w' N rb sb m s k:=h.move hb.size λb q=>hb.block b<|jq q h.ev.hN
def SX.z(h:SX w N rb sb m s k):rb<w.heap.size:=h.bx.z
def SX.of(h:RD w rb sb m s (tk (ja s 0) k) (aR (ja s 0) k))(hE:Env w N rb sb m)(h1:k<(ja s 0).length)(h2:(tk (ja s 0) k).kind≠6):SX w N rb sb m s k:=⟨h.bx,hE,h1,h2⟩
def ap.ok{r}(h:ap R N rb sb m s r w e w'){a}(hr:fin (ja s 0) r=.ok (a,k)):∃v,e=.returned v/\Ke rb w w'/\SX w' N rb sb m s k/\R w' (λb=>w.heap.size<=b) a v:=by grind[ap,fin]
def ap.bad{r}(h:ap R N rb sb m s r w e w'){f:Fl}(hr:fin (ja s 0) r=.error f):e=bK f/\Ke rb w w':=by grind[ap,fin]
def ap.fail{r}{f:Fl}(hK:Ke rb w w')(h:fin (ja s 0) r=.error f):ap R N rb sb m s r w (bK f) w':=⟨hK,by rw[h]⟩
def ap.stop{r}{mm}{g:β->M α}{f:Fl}(hE:r=aX mm g j)(hA:fin (ja s 0) (mm j)=.error f)(lF:∀a,aO (ja s 0)<|g a)(hK:Ke rb w w'):ap R N rb sb m s r w (bK f) w':=
 ap.fail hK (by rw[hE,bQ hA lF])
def ap.done{r}{a}{v:Value}(hE:r=.ok (a,k))(hK:Ke rb w w')(hS:SX w' N rb sb m s k)(hR:R w' (λb=>w.heap.size<=b) a v):ap R N rb sb m s r w (.returned v) w':=by
 refine⟨hK,?_⟩;rw[hE,kP _ hS.ok];exact⟨v,rfl,hS,hR⟩
def ap.go{f}{r}{mm}{g}{R':World->(Nat->Prop)->γ->Value->Prop}(hK:Hid (Ke rb w0 w))(hE:Hid (r=aX mm g j))(hC:Cq f args w (ap R N rb sb m s (mm j) w))(lF:∀a,aO (ja s 0)<|g a)(bad:∀f' w',ap R' N rb sb m s r w0 (bK f') w'->post (bK f') w')(ok:∀a k' v w',Hid (SX w' N rb sb m s k')->Hid (Ke rb w0 w')->Hid (r=g a k')->mm j=.ok (a,k')->w.heap.size<=w'.heap.size->Ke rb w w'->R w' (λb=>w.heap.size<=b) a v->post (.returned v) w'):Cq f args w post:=by
 refine hC.mono λe w' hp=>?_
 cases hA:fin (ja s 0) (mm j)with
 |error f'=>obtain⟨rfl,hb⟩:=hp.bad hA;exact bad f' w'<|ap.stop hE hA lF<|hK.trans hb
 |ok p=>obtain⟨a,k'⟩:=p;obtain⟨v,rfl,hb,hS,hR⟩:=hp.ok hA;exact ok a k' v w' hS (hK.trans hb) (hE.trans<|mM hA) (uI hA).1 hb.size hb hR
def cd.x{v:Value}(h:cd rb sb m s (tk (ja s 0) k) v w e w')(hX:SX w N rb sb m s k)(h7:(tk (ja s 0) k).kind≠7){a}(hR:R w' (λb=>w.heap.size<=b) a v):ap R N rb sb m s (.ok (a,k+1)) w e w':=by
 have⟨h1,h2,h3⟩:=SK s k hX.lt h7;rw[cd]at h;rw[h2,<-h3]at h;refine⟨h.1,?_⟩;rw[fin];obtain⟨g1,g2,g3⟩|⟨g1,g2⟩:=h.2
 .simp only[if_neg g1];exact⟨v,g2,SX.of g3 (hX.ev.ke h.1) h1 g1,hR⟩
 .grind
theorem sJ(h:gi t)(hk:t.kind≠6){kd}(hs:kd.size<=5):((aq t).toList==kd.toList)=aU t kd:=by
 have hl:kd.toList.length<=5:=by rw[qd];simpa using hs
 have no:∀x:List UInt8,5<x.length->(x==kd.toList)=false:=λx hx=>by
  rw[beq_eq_false_iff_ne];intro e;rw[e]at hx;omega
 rw[aU];obtain h'|h'|h'|h'|h'|h'|h':=h.kd
 .rw[iW h',no _ qBe];simp[h']
 .rw[ie h',no _ qBe];simp[h']
 .rw[ig h',no _ qBe];simp[h']
 .rw[iX h',no _ qBe];simp[h']
 .rw[po h'];simp[h']
 .exact absurd h' hk
 .rw[iY h',no _ qBe];simp[h']
def SM{p:Prop}(h:p:=by
 obtain h'|h'|h'|h'|h'|h'|h':=h.kd
 .rw[iW h'];simp[h',qd]
 .rw[ie h'];simp[h',qd]
 .rw[ig h'];simp[h',qd]
 .rw[iX h'];simp[h',qd]
 .rw[lW h hk aA h'];simp[h']
 .exact absurd h' hk
 .rw[iY h'];simp[h',qd]):p:=h
def aaY(h:gi t)(hk:t.kind≠6):((aq t).toList==FX.toList)=(t.kind==1):=by
 exact SM
def aaZ(h:gi t)(hk:t.kind≠6):((aq t).toList==OX.toList)=(t.kind==4):=by
 exact SM
abbrev tkA(t:jc):Value:=.agg #[Nv t.aD,Nv t.t9,.string<|aq t,.string t.text]
abbrev nmA(t:jc):Value:=.agg #[Nv t.aD,Nv t.t9,.string t.text]
def Is{α:Type}u(_:World)(_:Nat->Prop)(_:α)(v:Value):=v=u
def OZ(_:World)(_:Nat->Prop)(t:jc)v:=v=nmA t
def Kf(h:aU t c=true):t.kind≠7:=by grind[aU]
def aa0(h:SX w N rb sb m s k)(hs:s.size<=1000)c(hc:c.size<=5):Cq 82 #[rp rb,.string c] w (ap (Is<|tkA<|tk (ja s 0) k) N rb sb m s (bm (ja s 0) c k) w):=by
 have ho:=eH s k h.lt;have hk:=sJ ho h.ok hc
 cases hi:aU (tk (ja s 0) k) c with
 |true=>
  rw[hi]at hk;refine(jQ h.rd hs (sG s k h.lt) c hk).mono λe w' hp=>?_;have lG:cd rb sb m s (tk (ja s 0) k) (dv<|tk (ja s 0) k) w e w':=hp;have:=lG.x (R:=Is<|tkA<|tk (ja s 0) k) h (Kf hi) (a:=()) rfl;rw[bm];rw[if_pos hi];exact this
 |false=>
  rw[hi]at hk;refine(FU h.rd c hk h.ok).mono ?_;rintro e w'⟨rfl,hK⟩;exact ap.fail hK (by rw[bm];rw[hi];rfl)
def aif(h:SX w N rb sb m s k)(hs:s.size<=1000)c(hc:c.size<=5)(hi:aU (tk (ja s 0) k) c=true):Cq 198 #[rp rb,.string c] w (ap (Is<|.bool true) N rb sb m s (.ok ((),k+1)) w):=by
 have ho:=eH s k h.lt;have hk:=sJ ho h.ok hc;rw[hi]at hk;refine(aaQ h.rd hs (sG s k h.lt) c hk).mono λe w' hp=>?_;have lG:cd rb sb m s (tk (ja s 0) k) (.bool true) w e w':=hp;exact lG.x (R:=Is<|.bool true) h (Kf hi) rfl
def aih(h:SX w N rb sb m s k)c(hc:c.size<=5)(hi:aU (tk (ja s 0) k) c=false):Cq 198 #[rp rb,.string c] w λe w'=>e=.returned (.bool false)/\w=w':=
 (aev h.rd c (by rw[sJ (eH s k h.lt) h.ok hc];exact hi)).mono λe w' q=>⟨q.1,q.2.symm⟩
def uK(h:SX w N rb sb m s k)(hs:s.size<=1000)n c(hc:n=1/\c=FX\/n=2/\c=J6):Cq 188 #[rp rb,.string c] w (ap OZ N rb sb m s (dd (ja s 0) n k) w):=by
 have ho:=eH s k h.lt;have hk:((aq<|tk (ja s 0) k).toList==c.toList)=((tk (ja s 0) k).kind==n):=by
  obtain⟨rfl,rfl⟩|⟨rfl,rfl⟩:=hc
  .exact aaY ho h.ok
  .exact FV ho h.ok
 cases hi:((tk (ja s 0) k).kind==n)with
 |true=>
  rw[hi]at hk;have hn:(tk (ja s 0) k).kind=n:=yT;refine(OT h.rd hs (sG s k h.lt) c hk).mono λe w' hp=>?_;have:=hp.x (R:=OZ) h (by obtain⟨rfl,_⟩|⟨rfl,_⟩:=hc<;>omega) (a:=tk (ja s 0) k) rfl;rw[dd];rw[if_pos hi];exact this
 |false=>
  rw[hi]at hk;refine(aew h.rd c hk h.ok).mono ?_;rintro e w'⟨rfl,hK⟩;exact ap.fail hK (by rw[dd];rw[hi];rfl)
def aey(h:SX w N rb sb m s k)i:Cq 192 #[rp rb,Iv i] w λe w'=>e=.returned (.agg #[Iv i,.int .i64 ((aR (ja s 0) k:Nat):Int)])/\Bq w w':=aeu h.rd i
def Kg(g:Nat->α):aO T λk=>.ok (g k,k):=λ_ h=>cX _ h
theorem qV(T:List jc)n(hn:n≠6):aO T (dd T n):=λk h=>by rw[dd];rw[if_neg (by simp[h];omega)];rfl
end
def Ch(s:BA):=∃x r,s.toList=x::r/\jl x.toNat=true
def aii s:=0<s.size/\s.size<=9/\∀i,i<s.size->jf (ji s i)=true
structure agi(t:jc):Prop where
 sp:t.t9=t.aD+t.text.size
 v1:t.kind=1->Ch t.text
 v4:t.kind=4->aii t.text
def Wm{p}:∀(d i j:Nat),j-i=d->i<=j->j<jd s p i->p (ji s j)=true:=by
 have hp6:∀i,i<jd s p i->i<s.size/\p (ji s i)=true:=λi h=>by
  by_cases hi:i<s.size
  .cases q:p (ji s i)with
   |true=>exact⟨hi,rfl⟩|false=>rw[Pu.ox hi q]at h;omega
  .rw[Pu.jD ae]at h;omega
 intro d
 induction d with
 |zero=>grind|succ d ih=>
  intro i j h1 h2 h3;have aZ:i<jd s p i:=ae;have⟨g1,g2⟩:=hp6 i aZ;rw[Pu.fO g1 g2]at h3;exact ih (i+1) j ae ae h3
def aij s i e j(he:e<=s.size)(hj:i+j<e):ji (s.extract i e) j=ji s (i+j):=by
 have h1:j<(s.extract i e).size:=qBo;rw[jh h1,jh ae];rw[ByteArray.getElem_extract]
def aa1 s i(hi:i<s.size):agi (jj s i):=by
 have ht:=Pu.lQ s i hi;revert ht;rw[jj];have ex:∀k b:Nat,i<b->b<=s.size->(jk s i k b).t9=(jk s i k b).aD+(jk s i k b).text.size:=λk b h1 h2=>by
  show b=i+(s.extract i b).size;rw[ByteArray.size_extract];omega
 repeat' split
 all_goals intro ht
 all_goals refine⟨ex _ _ ht.1 ht.2,?_,?_⟩
 all_goals intro q
 all_goals try(exfalso;simp[jk]at q;done)
 .rename_i h1 _;exact⟨_,_,mL hi ht.1,by rw[<-jh hi];exact h1⟩
 .rename_i h4 h5;have hto:jd s jf (i+1)<=s.size:=ht.2;have aZ:i<jd s jf (i+1):=ht.1;have kX:(s.extract i<|jd s jf<|i+1).size=jd s jf (i+1)-i:=qBo;refine⟨by show 0<(s.extract i _).size;omega,by show(s.extract i _).size<=9;omega,λj hj=>?_⟩;have hj':j<(s.extract i<|jd s jf<|i+1).size:=hj;show jf (ji (s.extract i _) j)=true;rw[aij s i _ j hto ae]
  cases j with
  |zero=>exact h4|succ j=>exact Wm j (i+1) (i+(j+1)) ae ae ae
def oC s k(hk:k<(ja s 0).length):agi (tk (ja s 0) k):=by
 rw[kN s k hk];rw[aB];split
 .rename_i h;exact aa1 s _ h
 .exact⟨by simp[Pu.fB];rfl,qBr,qBr⟩
inductive PP(w:World)(P:Nat->Prop):Nd->Value->Prop where
 |any(s:BA)(n f t a:Nat):PP w P (.mk 15 s n [] f t a) (.iface 217<|.agg #[Nv f,Nv t])
 |low(s:BA)(n f t a:Nat)(hs:Ch s):PP w P (.mk 1 s n [] f t a) (.iface 305<|.agg #[Nv f,Nv t,.string s])
 |num(s:BA)(n f t a:Nat):PP w P (.mk 3 s n [] f t a) (.iface 206<|.agg #[Nv f,Nv t,Nv n])
 |word(s:BA)(n f t a:Nat)(hs:s.toList=fH.toList\/s.toList=di.toList):PP w P (.mk 4 s n [] f t a) (.iface 201<|.agg #[Nv f,Nv t,.bool<|s.toList==[116,114,117,101]])
 |unit(s:BA)(n f t a:Nat):PP w P (.mk 5 s n [] f t a) (.iface 204<|.agg #[Nv f,Nv t])
 |pr(s:BA)(n:Nat)(x y:Nd)(f t a:Nat)(vx vy:Value)(hx:PP w P x vx)(hy:PP w P y vy):PP w P (.mk 6 s n [x,y] f t a) (.iface 208<|.agg #[Nv f,Nv t,vx,vy])
 |up(s:BA)(n:Nat)(L:List Nd)(f t a y:Nat)(sa:Option Addr)(sc:Nat)(vs:Nat->Value)(hu:m0 s)(hy:y=a+s.size)(aE:L=[]\/∃g,sa=some ⟨g,0,none⟩/\P g/\g<w.heap.size/\∀i,i<L.length->w.cell? ⟨g,i,none⟩=some (vs i))(hr:∀i(h:i<L.length),PP w P L[i]<|vs i):
  PP w P (.mk 2 s n L f t a) (.iface 185<|.agg #[Nv f,Nv t,Nv a,Nv y,.string s,.slice sa L.length sc])
inductive PE(w:World)(P:Nat->Prop):Nd->Value->Prop where
 |low(s:BA)(n f t a:Nat)(hs:Ch s):PE w P (.mk 1 s n [] f t a) (.iface 305<|.agg #[Nv f,Nv t,.string s])
 |up(s:BA)(n f t a:Nat)(hs:m0 s):PE w P (.mk 2 s n [] f t a) (.iface 325<|.agg #[Nv f,Nv t,.string s])
 |num(s:BA)(n f t a:Nat):PE w P (.mk 3 s n [] f t a) (.iface 206<|.agg #[Nv f,Nv t,Nv n])
 |word(s:BA)(n f t a:Nat)(hs:s.toList=fH.toList\/s.toList=di.toList):PE w P (.mk 4 s n [] f t a) (.iface 201<|.agg #[Nv f,Nv t,.bool<|s.toList==[116,114,117,101]])
 |unit(s:BA)(n f t a:Nat):PE w P (.mk 5 s n [] f t a) (.iface 204<|.agg #[Nv f,Nv t])
 |pr(s:BA)(n:Nat)(x y:Nd)(f t a:Nat)(vx vy:Value)(hx:PE w P x vx)(hy:PE w P y vy):PE w P (.mk 6 s n [x,y] f t a) (.iface 187<|.agg #[Nv f,Nv t,vx,vy])
 |of(s:BA)(n:Nat)(x y:Nd)(f t a:Nat)(vx vy:Value)(hx:PE w P x vx)(hy:PT w P y vy):PE w P (.mk 14 s n [x,y] f t a) (.iface 189<|.agg #[Nv f,Nv t,vx,vy])
 |op(s:BA)(n:Nat)(x y:Nd)(f t a:Nat)(vx vy:Value)(hs:s=jI\/s=fs\/s=il\/s=ik)(hx:PE w P x vx)(hy:PE w P y vy):PE w P (.mk 7 s n [x,y] f t a) (.iface 197<|.agg #[Nv f,Nv t,.string s,vx,vy])
 |call(s:BA)(n:Nat)(x y:Nd)(f t a:Nat)(vx vy:Value)(hx:PE w P x vx)(hy:PE w P y vy):PE w P (.mk 8 s n [x,y] f t a) (.iface 199<|.agg #[Nv f,Nv t,vx,vy])
 |fn(s:BA)(n:Nat)(x:Nd)(f t a y:Nat)(vx:Value)(hs:Ch s)(hy:y=a+s.size)(hx:PE w P x vx):PE w P (.mk 9 s n [x] f t a) (.iface 191<|.agg #[Nv f,Nv t,Nv a,Nv y,.string s,vx])
 |lt(c:Nat)(s:BA)(n:Nat)(x z:Nd)(f t a y:Nat)(vx vz:Value)(hc:c=10\/c=11)(hs:Ch s)(hy:y=a+s.size)(hx:PE w P x vx)(hz:PE w P z vz):PE w P (.mk c s n [x,z] f t a) (.iface 193<|.agg #[Nv f,Nv t,.bool<|c==11,Nv a,Nv y,.string s,vx,vz])
 |ite(s:BA)(n:Nat)(x y z:Nd)(f t a:Nat)(vx vy vz:Value)(hx:PE w P x vx)(hy:PE w P y vy)(hz:PE w P z vz):PE w P (.mk 12 s n [x,y,z] f t a) (.iface 195<|.agg #[Nv f,Nv t,vx,vy,vz])
 |mt(s:BA)(n:Nat)(x:Nd)(A:List (Nd×Nd))(f t a:Nat)(vx:Value)(g sc:Nat)(vp ve:Nat->Value)(h0:A≠[])(hg:P g)(hz:g<w.heap.size)(hc:∀i,i<A.length->(∃u v,w.cell? ⟨g,i*4,none⟩=some (Iv u)/\w.cell? ⟨g,i*4+1,none⟩=some (Iv v))/\w.cell? ⟨g,i*4+2,none⟩=some (vp i)/\w.cell? ⟨g,i*4+3,none⟩=some (ve i))(hx:PE w P x vx)(hp:∀i(h:i<A.length),PP w P A[i].1<|vp i)(he:∀i(h:i<A.length),PE w P A[i].2<|ve i):
  PE w P (.mk 13 s n (x::bh A) f t a) (.iface 82<|.agg #[Nv f,Nv t,vx,.slice (some ⟨g,0,none⟩) A.length sc])
section
variable {Q:Nat->Prop} {v:Value}
theorem PP.move(h:PP w P nd v)(hs:w.heap.size<=w'.heap.size)(hb:∀b,P b->b<w.heap.size->w'.heap[b]? =w.heap[b]?)(hq:∀b,P b->b<w.heap.size->Q b):PP w' Q nd v:=by
 induction h with
 |any s n f t a=>exact .any s n f t a|low s n f t a h=>exact .low s n f t a h|num s n f t a=>exact .num s n f t a|word s n f t a h=>exact .word s n f t a h|unit s n f t a=>exact .unit s n f t a|pr s n x y f t a vx vy _ _ tL Bu=>exact .pr s n x y f t a vx vy tL Bu|up s n L f t a y sa sc vs hu hy aE hr ih=>
  refine .up s n L f t a y sa sc vs hu hy ?_ ih;obtain h0|⟨g,h1,hP,hz,hc⟩:=aE
  .exact qh h0
  .refine qi ⟨g,h1,hq g hP hz,jq hz hs,λi hi=>?_⟩;rw[qe (a:=⟨g,i,none⟩) (w:=w)<|hb g hP hz];exact hc i hi
def PP.af(h:PP w P nd v)(hb:Bq w w'):PP w' P nd v:=h.move hb.size (λb _ hz=>hb.block b hz)<|λ_ p _=>p
def PP.wide(h:PP w P nd v)(hq:∀b,P b->Q b):PP w Q nd v:=h.move (br _) (λ_ _ _=>rfl)<|λb p _=>hq b p
def PP.iface(h:PP w P nd v):∃t x,v=.iface t (.agg x):=by cases h<;>exact⟨_,_,rfl⟩
theorem PE.move(h:PE w P nd v)(hs:w.heap.size<=w'.heap.size)(hb:∀b,P b->b<w.heap.size->w'.heap[b]? =w.heap[b]?)(hq:∀b,P b->b<w.heap.size->Q b):PE w' Q nd v:=by
 induction h with
 |low s n f t a h=>exact .low s n f t a h|up s n f t a h=>exact .up s n f t a h|num s n f t a=>exact .num s n f t a|word s n f t a h=>exact .word s n f t a h|unit s n f t a=>exact .unit s n f t a|pr s n x y f t a vx vy _ _ tL Bu=>exact .pr s n x y f t a vx vy tL Bu|of s n x y f t a vx vy _ hy tL=>exact .of s n x y f t a vx vy tL (hy.move hs hb hq)|op s n x y f t a vx vy ho _ _ tL Bu=>exact .op s n x y f t a vx vy ho tL Bu|call s n x y f t a vx vy _ _ tL Bu=>exact .call s n x y f t a vx vy tL Bu|fn s n x f t a y vx h1 h2 _ ih=>exact .fn s n x f t a y vx h1 h2 ih|lt c s n x z f t a y vx vz h1 h2 h3 _ _ tL ihz=>exact .lt c s n x z f t a y vx vz h1 h2 h3 tL ihz|ite s n x y z f t a vx vy vz _ _ _ tL Bu ihz=>exact .ite s n x y z f t a vx vy vz tL Bu ihz|mt s n x A f t a vx g sc vp ve h0 hg hz hc _ hp _ tL ihe=>
  have c:∀j,w'.cell? ⟨g,j,none⟩=w.cell? ⟨g,j,none⟩:=λj=>qe (a:=⟨g,j,none⟩)<|hb g hg hz;refine .mt s n x A f t a vx g sc vp ve h0 (hq g hg hz) (jq hz hs) (λi hi=>?_) tL (λi hi=>(hp i hi).move hs hb hq) ihe;rw[c,c,c,c];exact hc i hi
def PE.af(h:PE w P nd v)(hb:Bq w w'):PE w' P nd v:=h.move hb.size (λb _ hz=>hb.block b hz)<|λ_ p _=>p
def PE.wide(h:PE w P nd v)(hq:∀b,P b->Q b):PE w Q nd v:=h.move (br _) (λ_ _ _=>rfl)<|λb p _=>hq b p
def PE.iface(h:PE w P nd v):∃t x,v=.iface t (.agg x):=by cases h<;>exact⟨_,_,rfl⟩
end
def eW s n:=∀(w:World)(N rb sb:Nat)(m:MV)(k:Nat),SX w N rb sb m s k->(ja s 0).length<=k+n->
 Cq 194 #[rp rb] w (ap PE N rb sb m s (bu (ja s 0) n k) w)
def Ci s n:=∀(w:World)(N rb sb:Nat)(m:MV)(k:Nat),SX w N rb sb m s k->(ja s 0).length<=k+n->
 Cq 200 #[rp rb] w (ap PP N rb sb m s (b_ (ja s 0) n k) w)
def mN rb f:Cq 160 #[rp rb,oq f rb] w λe w'=>∃x y,e=.returned (Wl x y)/\w.heap.size<=x/\w.heap.size<=y/\Bx w' x #[rp rb]/\Bx w' y #[oq f rb]/\Bq w w':=by
 go_enter func160,ntmps160
 go_wp2
 go_ret;refine⟨w.heap.size,w.heap.size+1,rfl,br _,Nat.le_succ _,(Bx.new w #[rp rb] _).alloc _,?_,(bw _).alloc ah _⟩;have:=Bx.new (w.alloc<|Cv #[rp rb] 138) #[oq f rb] 310;simpa using this
def aa2 rb:(Cq 111 #[rp rb] w λe w'=>∃b,e=.returned (Mv b)/\w.heap.size<=b/\MS j8 w' b (Kc rb)/\Bq w w')/\
 Cq 112 #[rp rb] w λe w'=>∃b,e=.returned (Mv b)/\w.heap.size<=b/\MS j8 w' b (SL rb)/\Bq w w':=by
 have H:=Ma.new (w:=w);have HB:=(qj w.heap.size w).alloc (br _)<|.map #[] 0;have g_:= @run_makeMap j6;refine⟨?_,?_⟩;all_goals
  first|go_enter func111,ntmps111|go_enter func112,ntmps112
  go_wp2_with((refine aY _ rfl _ _ _ _ (qh rfl) (q9 Tryz.underlying235) (by first|exact Tryz.underlying240|exact Tryz.underlying241) _ _ rfl H _ _ rfl rfl trivial (λ_ _=>trivial) ?_;clear H;intro w' H' O';have H:=ai H';have HB:=ai<|One.below HB O' qbr;clear H' O'));go_ret;exact⟨_,rfl,br _,H,HB⟩
def aa3 rb:(Cq 113 #[rp rb] w λe w'=>∃b x,e=.returned (Mv b)/\w.heap.size<=b/\w.heap.size<=x/\Bx w' x #[rp rb]/\MS j8 w' b (sI rb x)/\Bq w w')/\
 Cq 114 #[rp rb] w λe w'=>∃b x,e=.returned (Mv b)/\w.heap.size<=b/\w.heap.size<=x/\Bx w' x #[rp rb]/\MS j8 w' b (qU rb x)/\Bq w w':=by
 have H:Hid (MS Sv ((w.alloc<|Cv #[rp rb] 138).alloc<|.map #[] 0) (w.heap.size+1) []):=ai (by have:=Ma.new (w:=w.alloc<|Cv #[rp rb] 138);simpa using this);have HB:=ai<|((qj w.heap.size w).alloc (br _)<|Cv #[rp rb] 138).alloc ah<|.map #[] 0;have B0:=ai<|(Bx.new w #[rp rb] 138).alloc<|.map #[] 0;have⟨c0,f0,z0⟩:=uh B0;have g_:= @run_makeMap j6;refine⟨?_,?_⟩;all_goals
  first|go_enter func113,ntmps113|go_enter func114,ntmps114
  go_wp2_with((refine aY _ rfl _ _ _ _ (qh rfl) (q9 Tryz.underlying235) (by first|exact Tryz.underlying241|exact Tryz.underlying242) _ _ rfl H _ _ rfl rfl trivial (λ_ _=>trivial) ?_;clear H;intro w' H' O';have H:=ai H';have HB:=ai<|One.below HB O' ah;have B0:=ai<|B0.one O' ah;have⟨c0,f0,z0⟩:=uh B0;clear H' O'));go_ret;exact⟨_,_,rfl,ah,br _,B0,H,HB⟩
def aa4 rb:(Cq 116 #[rp rb] w λe w'=>∃b x0 y0,e=.returned (Mv b)/\w.heap.size<=b/\Bx w' x0 #[rp rb]/\Bx w' y0 #[oq 161 rb]/\w.heap.size<=x0/\w.heap.size<=y0/\MS j8 w' b [(ik,Wl x0 y0)]/\Bq w w')/\
 Cq 118 #[rp rb] w λe w'=>∃b x0 y0,e=.returned (Mv b)/\w.heap.size<=b/\Bx w' x0 #[rp rb]/\Bx w' y0 #[oq 163 rb]/\w.heap.size<=x0/\w.heap.size<=y0/\MS j8 w' b [(il,Wl x0 y0)]/\Bq w w':=by
 have H:=Ma.new (w:=w);have HB:=(qj w.heap.size w).alloc (br _)<|.map #[] 0;have g_:= @run_makeMap j6;refine⟨?_,?_⟩;all_goals
  first|go_enter func116,ntmps116|go_enter func118,ntmps118
  go_wp2_with fail;first|refine(mN rb 161).mono ?_|refine(mN rb 163).mono ?_
  intro e w1 hp;obtain⟨x0,y0,rfl,hlx,YT,X0,Y0,hb⟩:=hp;have lx0:=jq H.lt hlx;have ly0:=jq H.lt YT;have H:=H.below hb;have HB:=HB.trans<|hb.mono HB.size;go_wp2_with(refine aY _ rfl _ _ _ _ (qh rfl) (q9 Tryz.underlying235) Tryz.underlying244 _ _ rfl H _ _ rfl rfl trivial (λ_ _=>trivial) ?_;clear H;intro w' H' O';have H:=ai H';have HB:=ai<|One.below HB O' qbr;have X0:=ai<|X0.one O'<|jv lx0;have Y0:=ai<|Y0.one O'<|jv ly0;clear H' O');go_ret;exact⟨_,_,_,rfl,br _,X0,Y0,jx lx0,jx ly0,H,HB⟩
def O0 rb:Cq 117 #[rp rb] w λe w'=>∃b x0 y0 x1 y1,e=.returned (Mv b)/\w.heap.size<=b/\Bx w' x0 #[rp rb]/\Bx w' y0 #[oq 162 rb]/\w.heap.size<=x0/\w.heap.size<=y0/\Bx w' x1 #[rp rb]/\Bx w' y1 #[oq 162 rb]/\w.heap.size<=x1/\w.heap.size<=y1/\MS j8 w' b [(jI,Wl x0 y0),(fs,Wl x1 y1)]/\Bq w w':=by
 have H:=Ma.new (w:=w);have HB:=(Below.refl w.heap.size w).alloc (br _)<|.map #[] 0;have g_:= @run_makeMap Tryz.prog;go_enter func117,ntmps117;go_wp2_with fail;refine(mN rb 162).mono ?_;intro e w1 hp;obtain⟨x0,y0,rfl,hlx,YT,hx,hy,hb⟩:=hp;have lx0:=Nat.lt_of_lt_of_le H.lt hlx;have ly0:=Nat.lt_of_lt_of_le H.lt YT;have X0:=ai hx;have Y0:=ai hy;have H:=H.below hb;have HB:=HB.trans<|hb.mono HB.size;go_wp2_with(refine aY _ rfl _ _ _ _ (Or.inl rfl) (KL.str Tryz.underlying235) Tryz.underlying244 _ _ rfl H _ _ rfl rfl trivial (λ_ _=>trivial) ?_;clear H;intro w' H' O';have H:=ai H';have HB:=ai<|One.below HB O' qbr;have X0:=ai<|X0.one O'<|Nat.ne_of_gt lx0;have Y0:=ai<|Y0.one O'<|Nat.ne_of_gt ly0;clear H' O');refine(mN rb 162).mono ?_;intro e w2 hp;obtain⟨x1,y1,rfl,hlx,YT,X1,Y1,hb⟩:=hp;have lx1:=Nat.lt_of_lt_of_le H.lt hlx;have ly1:=Nat.lt_of_lt_of_le H.lt YT;have X0:=X0.below hb;have Y0:=Y0.below hb;have H:=H.below hb;have HB:=HB.trans<|hb.mono HB.size
 go_wp2_with(refine aY _ rfl _ _ _ _ (qh rfl) (q9 Tryz.underlying235) Tryz.underlying244 _ _ rfl H _ _ rfl rfl trivial (λ_ _=>trivial) ?_;clear H;intro w' H' O';have H:=ai H';have HB:=ai<|One.below HB O' qbr;have X0:=ai<|X0.one O'<|jv lx0;have Y0:=ai<|Y0.one O'<|jv ly0;have X1:=ai<|X1.one O'<|jv lx1;have Y1:=ai<|Y1.one O'<|jv ly1;clear H' O');go_ret;exact⟨_,_,_,_,_,rfl,br _,X0,Y0,jx lx0,jx ly0,X1,Y1,jx lx1,jx ly1,H,HB⟩
def pN w rb(ms:List (Nat×List (BA×Value)))(bs:List (Nat×Array Value)):=
 (∀p∈ms,p.1≠rb/\MS j8 w p.1 p.2)/\∀q∈bs,q.1≠rb/\Bx w q.1 q.2
section
variable {ms:List (Nat×List (BA×Value))} {bs:List (Nat×Array Value)}
def pN.ke(h:pN w rb ms bs)(hk:Ke rb w w'):pN w' rb ms bs:=
 ⟨λp q=>⟨(h.1 p q).1,(h.1 p q).2.same<|hk.block _ (h.1 p q).2.lt (h.1 p q).1⟩,λp q=>⟨(h.2 p q).1,(h.2 p q).2.ke hk (h.2 p q).1⟩⟩
def pN.m(h:pN w rb ms bs){b}(hn:rb<b)(hm:MS j8 w b L):pN w rb ((b,L)::ms) bs:=by grind[pN,bs,MS]
def pN.b(h:pN w rb ms bs){b}(hn:rb<b)(hm:Bx w b C):pN w rb ms ((b,C)::bs):=by grind[pN,bs]
def pN.map(h:pN w rb ms bs){b}(hm:(b,L)∈ms):ot w w.heap.size rb (Mv b) L:=⟨b,rfl,(h.1 _ hm).2.lt,(h.1 _ hm).1,(h.1 _ hm).2⟩
def pN.box(h:pN w rb ms bs){b}(hm:(b,C)∈bs):gO w w.heap.size rb b C:=⟨(h.2 _ hm).2.z,(h.2 _ hm).1,(h.2 _ hm).2⟩
end
def ak3 s w e w':=
 Bq w w'/\(((aB s 0).kind≠6/\e=.returned (rp w.heap.size)/\∃N sb m,Bx w' w.heap.size (rdC s (aB s 0) 0 m sb)/\Env w' N w.heap.size sb m)\/((aB s 0).kind=6/\e=bK (fD<|aB s 0)))
def FY rb:Cq 115 #[rp rb] w λe w'=>∃b,e=.returned (Mv b)/\w.heap.size<=b/\MS j8 w' b (smL rb)/\Bq w w':=Cg _
def Kh(h:Laid w)s(hs:s.size<=1000):Cq 81 #[.string s] w (ak3 s w):=by
 have B:=ai<|Bx.new w (zRd s) 246;have HB:=(Below.refl w.heap.size w).alloc (br _)<|Cv (zRd s) 246;have HL:=ai h;have HH:pN (w.alloc<|Cv (zRd s) 246) w.heap.size [] []:=⟨λp q=>absurd q ah,λp q=>absurd q ah⟩;have⟨c,f,z⟩:=uh B;have E:∀W,Laid W->Cq 119 #[Sv s,Iv 0] W (eA (aB s 0) W):=λW hW=>J8 hW s 0 (Nat.zero_le _) hs;have cJ:∀W:World,Bq w W->Laid W:=λW h=>HL.af h;have hz:=HL.hz;unfold ak3;generalize aB s 0=T at E⊢;go_enter func81,ntmps81;go_wp2_with fail;have zb0:=B.z;refine(aa2 w.heap.size).1.mono ?_;intro e w1 hp;obtain⟨b0,rfl,le0,hM,hb⟩:=hp;have HH:=(HH.ke<|Ke.of hb).m (Nat.lt_of_lt_of_le zb0 le0) hM;have HB:=HB.trans<|hb.mono HB.size;have B:=ai<|B.below hb;have⟨c,f,z⟩:=uh B;go_wp2_with fail;have B:=ai<|B.aP 6 (Mv b0) (#[Sv s,Iv 0,Iv 0,Sv ⟨#[]⟩,Sv ⟨#[]⟩,Iv 0,Mv b0,.map none,.map none,.map none,.map none,.map none,.map none,.map none]) rfl ah;have HB:=HB.setCell (p:=⟨w.heap.size,6,none⟩) (br _)<|Mv b0;have HH:=HH.ke<|Ke.J7 _ _ 6<|Mv b0;have zb1:=B.z;refine(aa2 w.heap.size).2.mono ?_;intro e w1 hp;obtain⟨b1,rfl,le1,hM,hb⟩:=hp;have HH:=(HH.ke<|Ke.of hb).m (Nat.lt_of_lt_of_le zb1 le1) hM;have HB:=HB.trans<|hb.mono HB.size;have B:=ai<|B.below hb;have⟨c,f,z⟩:=uh B;go_wp2_with fail
 have B:=ai<|B.aP 7 (Mv b1) (#[Sv s,Iv 0,Iv 0,Sv ⟨#[]⟩,Sv ⟨#[]⟩,Iv 0,Mv b0,Mv b1,.map none,.map none,.map none,.map none,.map none,.map none]) rfl ah;have HB:=HB.setCell (p:=⟨w.heap.size,7,none⟩) (br _)<|Mv b1;have HH:=HH.ke<|qp _ _ 7<|Mv b1;have zb2:=B.z;refine(aa3 w.heap.size).1.mono ?_;intro e w1 hp;obtain⟨b2,x2,rfl,le2,lx2,hx,hM,hb⟩:=hp;have HH:=((HH.ke<|qr hb).m (jq zb2 le2) hM).b (jq zb2 lx2) hx;have HB:=HB.trans<|hb.mono HB.size;have B:=ai<|B.below hb;have⟨c,f,z⟩:=uh B;go_wp2_with fail;have B:=ai<|B.aP 8 (Mv b2) (#[Sv s,Iv 0,Iv 0,Sv ⟨#[]⟩,Sv ⟨#[]⟩,Iv 0,Mv b0,Mv b1,Mv b2,.map none,.map none,.map none,.map none,.map none]) rfl ah;have HB:=HB.setCell (p:=⟨w.heap.size,8,none⟩) (br _)<|Mv b2;have HH:=HH.ke<|qp _ _ 8<|Mv b2;have zb3:=B.z;refine(aa3 w.heap.size).2.mono ?_;intro e w1 hp;obtain⟨b3,x3,rfl,le3,lx3,hx,hM,hb⟩:=hp;have HH:=((HH.ke<|qr hb).m (jq zb3 le3) hM).b (jq zb3 lx3) hx;have HB:=HB.trans<|hb.mono HB.size;have B:=ai<|B.below hb;have⟨c,f,z⟩:=uh B;go_wp2_with fail;have B:=ai<|B.aP 9 (Mv b3) (#[Sv s,Iv 0,Iv 0,Sv ⟨#[]⟩,Sv ⟨#[]⟩,Iv 0,Mv b0,Mv b1,Mv b2,Mv b3,.map none,.map none,.map none,.map none]) rfl ah;have HB:=HB.setCell (p:=⟨w.heap.size,9,none⟩) (br _)<|Mv b3;have HH:=HH.ke<|qp _ _ 9<|Mv b3;have zb4:=B.z
 refine(FY w.heap.size).mono ?_;intro e w1 hp;obtain⟨b4,rfl,le4,hM,hb⟩:=hp;have HH:=(HH.ke<|qr hb).m (jq zb4 le4) hM;have HB:=HB.trans<|hb.mono HB.size;have B:=ai<|B.below hb;have⟨c,f,z⟩:=uh B;go_wp2_with fail;have B:=ai<|B.aP 10 (Mv b4) (#[Sv s,Iv 0,Iv 0,Sv ⟨#[]⟩,Sv ⟨#[]⟩,Iv 0,Mv b0,Mv b1,Mv b2,Mv b3,Mv b4,.map none,.map none,.map none]) rfl ah;have HB:=HB.setCell (p:=⟨w.heap.size,10,none⟩) (br _)<|Mv b4;have HH:=HH.ke<|qp _ _ 10<|Mv b4;have zb5:=B.z;refine(aa4 w.heap.size).1.mono ?_;intro e w1 hp;obtain⟨b5,x5,y5,rfl,le5,hx,hy,lx,ly,hM,hb⟩:=hp;have HH:=(((HH.ke<|qr hb).m (jq zb5 le5) hM).b (jq zb5 lx) hx).b (jq zb5 ly) hy;have HB:=HB.trans<|hb.mono HB.size;have B:=ai<|B.below hb;have⟨c,f,z⟩:=uh B;go_wp2_with fail;have B:=ai<|B.aP 11 (Mv b5) (#[Sv s,Iv 0,Iv 0,Sv ⟨#[]⟩,Sv ⟨#[]⟩,Iv 0,Mv b0,Mv b1,Mv b2,Mv b3,Mv b4,Mv b5,.map none,.map none]) rfl ah;have HB:=HB.setCell (p:=⟨w.heap.size,11,none⟩) (br _)<|Mv b5;have HH:=HH.ke<|qp _ _ 11<|Mv b5;have zb6:=B.z;refine(O0 w.heap.size).mono ?_;intro e w1 hp;obtain⟨b6,x6,y6,u6,v6,rfl,le6,hx,hy,lx,ly,hu,hv,lu,lv,hM,hb⟩:=hp
 have HH:=(((((HH.ke<|qr hb).m (jq zb6 le6) hM).b (jq zb6 lx) hx).b (jq zb6 ly) hy).b (jq zb6 lu) hu).b (jq zb6 lv) hv;have HB:=HB.trans<|hb.mono HB.size;have B:=ai<|B.below hb;have⟨c,f,z⟩:=uh B;go_wp2_with fail;have B:=ai<|B.aP 12 (Mv b6) (#[Sv s,Iv 0,Iv 0,Sv ⟨#[]⟩,Sv ⟨#[]⟩,Iv 0,Mv b0,Mv b1,Mv b2,Mv b3,Mv b4,Mv b5,Mv b6,.map none]) rfl ah;have HB:=HB.setCell (p:=⟨w.heap.size,12,none⟩) (br _)<|Mv b6;have HH:=HH.ke<|qp _ _ 12<|Mv b6;have zb7:=B.z;refine(aa4 w.heap.size).2.mono ?_;intro e w1 hp;obtain⟨b7,x7,y7,rfl,le7,hx,hy,lx,ly,hM,hb⟩:=hp;have HH:=(((HH.ke<|qr hb).m (jq zb7 le7) hM).b (jq zb7 lx) hx).b (jq zb7 ly) hy;have HB:=HB.trans<|hb.mono HB.size;have B:=ai<|B.below hb;have⟨c,f,z⟩:=uh B;go_wp2_with fail;have B:=ai<|B.aP 13 (Mv b7) (#[Sv s,Iv 0,Iv 0,Sv ⟨#[]⟩,Sv ⟨#[]⟩,Iv 0,Mv b0,Mv b1,Mv b2,Mv b3,Mv b4,Mv b5,Mv b6,Mv b7]) rfl ah;have HB:=HB.setCell (p:=⟨w.heap.size,13,none⟩) (br _)<|Mv b7;have HH:=HH.ke<|qp _ _ 13<|Mv b7;refine(E _<|cJ _ HB).mono ?_;intro e w9 hp;by_cases hk:T.kind=6
 .obtain⟨rfl,hb⟩:=hp.bad hk;have HB:=HB.trans<|hb.mono HB.size;exact⟨rfl,HB,qi ⟨hk,by rw[agf T hk];rfl⟩⟩
 .obtain⟨rfl,hb⟩:=hp.ok hk;have HB:=HB.trans<|hb.mono HB.size;have B:=ai<|B.below hb;have HH:=HH.ke<|qr hb;have⟨c,f,z⟩:=uh B
  go_wp2
  go_ret;have h_:=(((HB.setCell (p:=⟨w.heap.size,1,none⟩) (br _)<|Nv T.aD).setCell (p:=⟨w.heap.size,2,none⟩) (br _)<|Nv T.t9).setCell (p:=⟨w.heap.size,3,none⟩) (br _)<|Sv<|aq T).setCell (p:=⟨w.heap.size,4,none⟩) (br _)<|Sv T.text;have Bz:=((((HH.ke<|qp _ _ 1<|Nv T.aD).ke<|qp _ _ 2<|Nv T.t9).ke<|qp _ _ 3<|Sv<|aq T).ke<|qp _ _ 4<|Sv T.text);have B2:=B.aaO (Nv T.aD) (Nv T.t9) (Sv<|aq T)<|Sv T.text;generalize(((w9.setCell ⟨w.heap.size,1,none⟩<|Nv T.aD).setCell ⟨w.heap.size,2,none⟩<|Nv T.t9).setCell ⟨w.heap.size,3,none⟩<|Sv<|aq T).setCell ⟨w.heap.size,4,none⟩ (Sv T.text)=W at h_ Bz B2⊢;have sm4:=Bz.map (b:=b4) (L:=smL w.heap.size)<|jm _<|jm _<|jm _<|jo _;obtain⟨_,q1,q2,q3,q4⟩:=sm4
  cases q1
  refine⟨h_,qh ⟨hk,rfl,W.heap.size,b4,⟨Mv b0,Mv b1,Mv b2,Mv b3,Mv b5,Mv b6,Mv b7⟩,B2,q4,cJ _ h_,hz,B2.z,q2,q3,br _,?_⟩⟩
  exact⟨Bz.map<|jm _<|jm _<|jm _<|jm _<|jm _<|jm _<|jm _<|jo _,Bz.map<|jm _<|jm _<|jm _<|jm _<|jm _<|jm _<|jo _,⟨x2,Bz.box<|jm _<|jm _<|jm _<|jm _<|jm _<|jm _<|jm _<|jm _<|jm _<|jo _,Bz.map<|jm _<|jm _<|jm _<|jm _<|jm _<|jo _⟩,⟨x3,Bz.box<|jm _<|jm _<|jm _<|jm _<|jm _<|jm _<|jm _<|jm _<|jo _,Bz.map<|jm _<|jm _<|jm _<|jm _<|jo _⟩,⟨x5,y5,Bz.box<|jm _<|jm _<|jm _<|jm _<|jm _<|jm _<|jm _<|jo _,Bz.box<|jm _<|jm _<|jm _<|jm _<|jm _<|jm _<|jo _,Bz.map<|jm _<|jm _<|jo _⟩,⟨x6,y6,u6,v6,Bz.box<|jm _<|jm _<|jm _<|jm _<|jm _<|jo _,Bz.box<|jm _<|jm _<|jm _<|jm _<|jo _,Bz.box<|jm _<|jm _<|jm _<|jo _,Bz.box<|jm _<|jm _<|jo _,Bz.map<|jm _<|jo _⟩,⟨x7,y7,Bz.box<|jm _<|jo _,Bz.box<|jo _,Bz.map<|jo _⟩⟩
end
def Ki w e s:Bq w (Lib.bytesWorld w e s):=by
 refine⟨?_,?_,?_,by rw[Lib.bytesWorld_size];omega,λb hb=>Lib.bytesWorld_at_old w e s b hb⟩;all_goals(simp[Lib.bytesWorld,World.freeze];try rfl)
def aez s(h:aii s):Cq 219 #[.string s] w λe w'=>e=.returned (.tuple #[Nv<|xM s,.nilIface])/\Bq w w':=by
 obtain⟨h0,h9,hd⟩:=h;have hcv:=Lib.run_convert_string_bytes (P:=Tryz.prog) w 9 169 5 s Tryz.underlying9 Tryz.underlying169 Tryz.underlying5;have hb:=Ki w 5 s;have bX:=λj hj=>Lib.bytesWorld_cell w 5 s j hj;have l0:(0:Int)<(s.size:Int):=ae;have l1:(s.size:Int)<19:=ae;have a0:=hd 0 h0;rw[Pu.m9 h0]at a0;simp only[Pu.dB,Bool.and_eq_true,Nat.ble_eq]at a0;have e1:((s[0].toNat:Int)==45)=false:=bi;have e2:((s[0].toNat:Int)==43)=false:=bi;generalize Lib.bytesWorld w 5 s=W at hcv hb bX;generalize grownCap w s.size 0 5=C at hcv;go_enter func219,ntmps219
 go_wp2
 go_loop[6,49] (λn i=>∃k:Nat,k<=s.size/\i=Nv k/\n=Nv (F_ s k)) (λ_ i=>s.size-(intOf i).toNat)
 case atStart=>exact⟨0,ae,rfl,rfl⟩
 case round=>
  obtain⟨k,h1,rfl,rfl⟩:=hrel;have hn:=aeA s k ae;by_cases ha:k<s.size
  .have hc:=bX k ha;have dk:=hd k ha;have ek:s.data.toList.getD k 0=s[k]:=by
    rw[List.getD_eq_getElem?_getD,List.getElem?_eq_getElem<|by simpa using ha];rfl
   rw[ek]at hc;rw[jh ha]at dk;simp only[jf,qz,Nat.ble_eq]at dk;have aZ:(k:Int)<(s.size:Int):=ae;clear bX
   go_wp2
   refine⟨⟨k+1,ae,d_,congrArg (Value.int .i64) ?_⟩,by simp[intOf];omega⟩;simp only[F_,jh ha];omega
  .have aZ:decide ((k:Int)<(s.size:Int))=false:=bi;clear bX
   go_wp2
   go_ret2;have ek:k=s.size:=ae;refine⟨?_,hb⟩;show Rv (.tuple #[Nv<|F_ s k,Zv])=_;rw[xM];rw[show min s.size 9=k by omega]
def aik w:(binOp .neq 332 .nilIface .nilIface).run j6 w=.ok (.bool false) w:=qkr
def ail s(h:aii s):Cq 197 #[.string s] w λe w'=>e=.returned (.tuple #[Nv<|xM s,.nilIface])/\Bq w w':=by
 have HC:=aez (w:=w) s h;have hn:=aik;go_enter func197,ntmps197;go_wp2_with fail;refine HC.mono ?_;rintro e w1⟨rfl,hb⟩
 go_wp2
 go_ret2;exact⟨rfl,hb⟩
section
open Go.ChangeMaps
section
variable {m:MV}
def SX.set(h:SX w N rb sb m s k){b:Nat}(hb:N<=b)j v:SX (w.setCell ⟨b,j,none⟩ v) N rb sb m s k:=
 h.move yG λc hc=>ql _ _ _ _ (by show c≠b;omega)
def SX.pI(h:SX w N rb sb m s k){b:Nat}(hb:N<=b)v0 v1 v2:SX (((w.setCell ⟨b,0,none⟩ v0).setCell ⟨b,1,none⟩ v1).setCell ⟨b,2,none⟩ v2) N rb sb m s k:=((h.set hb 0 v0).set hb 1 v1).set hb 2 v2
def aa5(h:SX w N rb sb m s k)(hs:s.size<=1000)(h7:(tk (ja s 0) k).kind≠7):Cq 121 #[rp rb] w (ap (Is<|tkA<|tk (ja s 0) k) N rb sb m s (.ok ((),k+1)) w):=
 (Aj h.rd hs<|sG s k h.lt).mono λe w' hp=>by
  have lG:cd rb sb m s (tk (ja s 0) k) (dv<|tk (ja s 0) k) w e w':=hp;exact lG.x (R:=Is<|tkA<|tk (ja s 0) k) h h7 rfl
def Wo(h:SX w N rb sb m s k)(hs:s.size<=1000)(h4:(tk (ja s 0) k).kind=4):Cq 82 #[rp rb,.string OX] w (ap (Is<|tkA<|tk (ja s 0) k) N rb sb m s (.ok ((),k+1)) w):=by
 have hk:=aaZ (eH s k h.lt) h.ok;rw[h4]at hk;refine(jQ h.rd hs (sG s k h.lt) OX<|by simpa using hk).mono λe w' hp=>?_;have lG:cd rb sb m s (tk (ja s 0) k) (dv<|tk (ja s 0) k) w e w':=hp;exact lG.x (R:=Is<|tkA<|tk (ja s 0) k) h ae rfl
def sK{k}(h:(tk T k).kind=n):dd T n k=.ok (tk T k,k+1):=by grind[tk,dd]
def sM{k}c(h:bY (tk T k)=c):dG (tk T k)=.mk c (tk T k).text (mO<|tk T k) [] (tk T k).aD (tk T k).t9 (tk T k).aD:=by rw[dG];rw[h]
def RI{p:Prop}(h:p:=by
 obtain⟨rfl,hb⟩:=hp.bad hA
 exact⟨rfl,ap.fail ((qr b0).trans hb) hA⟩):p:=h
def Wp(h:SX w N rb sb m s k)(hs:s.size<=1000):Cq 142 #[rp rb] w (ap OZ N rb sb m s (dd (ja s 0) 1 k) w):=by
 have hz:=h.z;have hN:=h.ev.hN;have⟨b0,B0⟩:=Hu w zNm 305;have HC:=uK (h.af b0) hs 1 FX<|Or.inl ⟨rfl,rfl⟩;go_enter func142,ntmps142;go_wp2_with fail;refine HC.mono ?_;intro e w1 hp
 cases hA:fin (ja s 0) (dd (ja s 0) 1 k)with
 |error f=>
  exact RI
 |ok r=>
 obtain⟨t,k1⟩:=r;obtain⟨v,rfl,hb,hS,hR⟩:=hp.ok hA
 cases hR
 have B1:=ai<|(B0.J9 hb ae).alloc<|Cv #[Nv t.aD,Nv t.t9,Sv t.text] 71;have K1:=((qr b0).trans hb).gh<|bw<|Cv #[Nv t.aD,Nv t.t9,Sv t.text] 71;have S1:=hS.af<|bw<|Cv #[Nv t.aD,Nv t.t9,Sv t.text] 71;have aZ:=hb.size;simp at aZ;have⟨c,f,z⟩:=uh B1;go_wp2_with fail;have⟨cF,fF,zF⟩:=B1.pW rfl (Nv t.aD) (Nv t.t9) (Sv t.text);exact bodyPost_ret (v:=nmA t) (by simp[results,Tryz.results142,go_sem,cF]) rfl (ap.done (uI hA).1 (K1.sE (br _) _ _ _) (S1.pI hN _ _ _) rfl)
def sN{p:Prop}(h:p:=by
 obtain⟨rfl,hb⟩:=hp.bad<|cX _ h6
 exact⟨rfl,ap.fail hb<|cX _ h6⟩):p:=h
def agj(h:SX w N rb sb m s k)(hs:s.size<=1000)(hk:(tk (ja s 0) k).kind=2):(Cq 143 #[rp rb] w<|ap PE N rb sb m s (.ok (dG<|tk (ja s 0) k,k+1)) w)/\
 Cq 152 #[rp rb] w (ap PP N rb sb m s (.ok (dG<|tk (ja s 0) k,k+1)) w):=by
 have hi:=oC s k h.lt;have ho:=eH s k h.lt;have HC:=uK h hs 2 J6<|qi ⟨rfl,rfl⟩;have X_:=gW;refine⟨?_,?_⟩;all_goals
  first|go_enter func143,ntmps143|go_enter func152,ntmps152
  go_wp2_with fail;refine HC.mono ?_;intro e w1 hp;have hm:=sK hk;rw[hm]at hp;by_cases h6:(tk (ja s 0)<|k+1).kind=6
  .exact sN
  obtain⟨v,rfl,hb,hS,hR⟩:=hp.ok<|kP _ h6
  cases hR
  have K1:=hb.gh<|bw<|Cv #[Nv (tk (ja s 0) k).aD,Nv (tk (ja s 0) k).t9,Sv (tk (ja s 0) k).text] 71;have S1:=hS.af<|bw<|Cv #[Nv (tk (ja s 0) k).aD,Nv (tk (ja s 0) k).t9,Sv (tk (ja s 0) k).text] 71
  go_wp2
  go_ret;refine ap.done rfl K1 S1 ?_;rw[sM 2 (by rw[bY];simp[hk])];first|exact .up _ _ _ _ _ (ho.v2 hk)|exact .up _ _ [] _ _ _ _ none 0 (λ_=>Zv) (ho.v2 hk) hi.sp (qh rfl) (λi hi=>by simp at hi)
def O7(h:SX w N rb sb m s k)(hs:s.size<=1000)(hk:aU (tk (ja s 0) k) mF=true):Cq 150 #[rp rb] w (ap PP N rb sb m s (.ok (dG<|tk (ja s 0) k,k+1)) w):=by
 have hi:=oC s k h.lt;have ho:=eH s k h.lt;have HC:=aa0 h hs mF aA;have X_:=gW;go_enter func150,ntmps150;go_wp2_with fail;refine HC.mono ?_;intro e w1 hp;have hm:bm (Pu.bG s 0) mF k=.ok ((),k+1):=by rw[bm];rw[if_pos hk]
 rw[hm]at hp;by_cases h6:(tk (ja s 0)<|k+1).kind=6
 .exact sN
 obtain⟨v,rfl,K1,S1,hR⟩:=hp.ok<|kP _ h6
 cases hR
 go_wp2
 go_ret;refine ap.done rfl K1 S1 ?_;have h5:=oE hk;rw[sM 15 (by rw[bY];rw[if_neg ae,if_neg ae,if_neg ae,if_neg ae,if_neg (by rw[Kj,Dy];rw[SU]at hk;simp at hk;simp[hk.2]),if_pos hk])];exact .any _ _ _ _ _
def Tg{p:Prop}(h:p:=by
 obtain⟨rfl,hb⟩:=hp.bad<|cX _ h6
 exact⟨rfl,ap.fail ((qr b0).trans hb)<|cX _ h6⟩):p:=h
def aeB(h:SX w N rb sb m s k)(hs:s.size<=1000)(hk:aU (tk (ja s 0) k) fH=true\/aU (tk (ja s 0) k) di=true):Cq 147 #[rp rb] w (ap (Is<|.agg #[Nv (tk (ja s 0) k).aD,Nv (tk (ja s 0) k).t9,.bool<|(aq<|tk (ja s 0) k).toList==[116,114,117,101]]) N rb sb m s (.ok ((),k+1)) w):=by
 have hz:=h.z;have hN:=h.ev.hN;have hi:=oC s k h.lt;have⟨b0,B0⟩:=Hu w #[Iv 0,Iv 0,.bool false] 201;have HC:=aa5 (h.af b0) hs (by obtain hk|hk:=hk<;>exact Kf hk);go_enter func147,ntmps147;go_wp2_with fail;refine HC.mono ?_;intro e w1 hp;by_cases h6:(tk (Pu.bG s 0)<|k+1).kind=6
 .exact Tg
 obtain⟨v,rfl,hb,hS,hR⟩:=hp.ok<|kP _ h6
 cases hR
 have B1:=ai<|(B0.J9 hb ae).alloc<|Cv #[Nv (tk (ja s 0) k).aD,Nv (tk (ja s 0) k).t9,Sv<|aq<|tk (ja s 0) k,Sv (tk (ja s 0) k).text] 237;have K1:=((qr b0).trans hb).gh<|bw<|Cv #[Nv (tk (ja s 0) k).aD,Nv (tk (ja s 0) k).t9,Sv<|aq<|tk (ja s 0) k,Sv (tk (ja s 0) k).text] 237;have S1:=hS.af<|bw<|Cv #[Nv (tk (ja s 0) k).aD,Nv (tk (ja s 0) k).t9,Sv<|aq<|tk (ja s 0) k,Sv (tk (ja s 0) k).text] 237;have aZ:=hb.size;simp at aZ;have⟨c,f,z⟩:=uh B1;go_wp2_with fail;have⟨cF,fF,zF⟩:=B1.pW rfl (Nv (tk (ja s 0) k).aD) (Nv (tk (ja s 0) k).t9) (.bool<|(aq<|tk (ja s 0) k).toList==[116,114,117,101]);exact bodyPost_ret (v:=Av #[Nv (tk (ja s 0) k).aD,Nv (tk (ja s 0) k).t9,.bool<|(aq<|tk (ja s 0) k).toList==[116,114,117,101]]) (by simp[results,Tryz.results147,go_sem,cF]) rfl (ap.done rfl (K1.sE (br _) _ _ _) (S1.pI hN _ _ _) rfl)
def aa6(h:SX w N rb sb m s k)(hs:s.size<=1000)(hk:(tk (ja s 0) k).kind=4):Cq 145 #[rp rb] w (ap (Is<|.agg #[Nv (tk (ja s 0) k).aD,Nv (tk (ja s 0) k).t9,Nv<|xM (tk (ja s 0) k).text]) N rb sb m s (.ok ((),k+1)) w):=by
 have hz:=h.z;have hN:=h.ev.hN;have hi:=oC s k h.lt;have⟨b0,B0⟩:=Hu w #[Iv 0,Iv 0,Iv 0] 206;have HC:=Wo (h.af b0) hs hk;go_enter func145,ntmps145;go_wp2_with fail;refine HC.mono ?_;intro e w1 hp;by_cases h6:(tk (Pu.bG s 0)<|k+1).kind=6
 .exact Tg
 obtain⟨v,rfl,hb,hS,hR⟩:=hp.ok<|kP _ h6
 cases hR
 have B1:=ai<|(B0.J9 hb ae).alloc<|Cv #[Nv (tk (ja s 0) k).aD,Nv (tk (ja s 0) k).t9,Sv<|aq<|tk (ja s 0) k,Sv (tk (ja s 0) k).text] 237;have B2:=ai<|Bx.new w1 #[Nv (tk (ja s 0) k).aD,Nv (tk (ja s 0) k).t9,Sv<|aq<|tk (ja s 0) k,Sv (tk (ja s 0) k).text] 237;have K1:=((qr b0).trans hb).gh<|bw<|Cv #[Nv (tk (ja s 0) k).aD,Nv (tk (ja s 0) k).t9,Sv<|aq<|tk (ja s 0) k,Sv (tk (ja s 0) k).text] 237;have S1:=hS.af<|bw<|Cv #[Nv (tk (ja s 0) k).aD,Nv (tk (ja s 0) k).t9,Sv<|aq<|tk (ja s 0) k,Sv (tk (ja s 0) k).text] 237;have aZ:=hb.size;simp at aZ;have⟨c,f,z⟩:=uh B1;have⟨c2,f2,z2⟩:=uh B2;go_wp2_with fail;refine(ail _<|hi.v4 hk).mono ?_;rintro e w2⟨rfl,hb⟩;have B1:=ai<|B1.below hb;have B2:=ai<|B2.below hb;have K1:=K1.gh hb;have S1:=S1.af hb;have⟨c,f,z⟩:=uh B1;have⟨c2,f2,z2⟩:=uh B2;go_wp2_with fail;have⟨cF,fF,zF⟩:=B1.pW rfl (Nv (tk (ja s 0) k).aD) (Nv (tk (ja s 0) k).t9) (Nv<|xM (tk (ja s 0) k).text);exact bodyPost_ret (v:=Av #[Nv (tk (ja s 0) k).aD,Nv (tk (ja s 0) k).t9,Nv<|xM (tk (ja s 0) k).text]) (by simp[results,Tryz.results145,go_sem,cF]) rfl (ap.done rfl (K1.sE (br _) _ _ _) (S1.pI hN _ _ _) rfl)
end
section
variable {m:MV}
def Ga(h:aU t fH=true\/aU t di=true):bY t=4:=by
 have h5:t.kind=5:=by obtain h|h:=h<;>exact oE h
 rw[bY];rw[if_neg ae,if_neg ae,if_neg ae,if_neg ae,if_pos h]
def aeC(h:aU t fH=true\/aU t di=true):t.text.toList=fH.toList\/t.text.toList=di.toList:=by
 obtain h|h:=h
 .left;rw[aU]at h;simp only[qz,beq_iff_eq]at h;exact h.2
 .right;rw[aU]at h;simp only[qz,beq_iff_eq]at h;exact h.2
def aa7(h:SX w N rb sb m s k)(hs:s.size<=1000)(hk:(tk (ja s 0) k).kind=1)x(hx:Bx w x #[rp rb]):
 Cq 141 #[Pv x] w (ap PE N rb sb m s (.ok (dG<|tk (ja s 0) k,k+1)) w)/\
 Cq 151 #[Pv x] w (ap PP N rb sb m s (.ok (dG<|tk (ja s 0) k,k+1)) w):=by
 have hi:=oC s k h.lt;have HC:=Wp h hs;obtain⟨c0,f0,z0⟩:=hx;refine⟨?_,?_⟩;all_goals
  first|go_enter func141,ntmps141|go_enter func151,ntmps151
  go_wp2_with fail;refine HC.mono ?_;intro e w1 hp;rw[sK hk]at hp;by_cases h6:(tk (ja s 0)<|k+1).kind=6
  .exact sN
  obtain⟨v,rfl,K1,S1,hR⟩:=hp.ok<|kP _ h6
  cases hR
  go_wp2
  go_ret;refine ap.done rfl K1 S1 ?_;rw[sM 1 (by rw[bY];simp[hk])];exact .low _ _ _ _ _<|hi.v1 hk
def aa8(h:SX w N rb sb m s k)(hs:s.size<=1000)(hk:(tk (ja s 0) k).kind=4)x(hx:Bx w x #[rp rb]):
 Cq 144 #[Pv x] w (ap PE N rb sb m s (.ok (dG<|tk (ja s 0) k,k+1)) w)/\
 Cq 153 #[Pv x] w (ap PP N rb sb m s (.ok (dG<|tk (ja s 0) k,k+1)) w):=by
 have hi:=oC s k h.lt;have HC:=aa6 h hs hk;obtain⟨c0,f0,z0⟩:=hx;refine⟨?_,?_⟩;all_goals
  first|go_enter func144,ntmps144|go_enter func153,ntmps153
  go_wp2_with fail;refine HC.mono ?_;intro e w1 hp;by_cases h6:(tk (ja s 0)<|k+1).kind=6
  .exact sN
  obtain⟨v,rfl,K1,S1,hR⟩:=hp.ok<|kP _ h6
  cases hR
  go_wp2
  go_ret;refine ap.done rfl K1 S1 ?_;rw[sM 3 (by rw[bY];simp[hk]),show mO (tk (ja s 0) k)=xM (tk (ja s 0) k).text by rw[mO];simp[hk]];exact .num _ _ _ _ _
def yq(h:SX w N rb sb m s k)(hs:s.size<=1000)(hk:aU (tk (ja s 0) k) fH=true\/aU (tk (ja s 0) k) di=true)x(hx:Bx w x #[rp rb]):
 Cq 146 #[Pv x] w (ap PE N rb sb m s (.ok (dG<|tk (ja s 0) k,k+1)) w)/\
 Cq 148 #[Pv x] w (ap PE N rb sb m s (.ok (dG<|tk (ja s 0) k,k+1)) w)/\
 Cq 154 #[Pv x] w (ap PP N rb sb m s (.ok (dG<|tk (ja s 0) k,k+1)) w)/\
 Cq 155 #[Pv x] w (ap PP N rb sb m s (.ok (dG<|tk (ja s 0) k,k+1)) w):=by
 have hi:=oC s k h.lt;have HC:=aeB h hs hk;obtain⟨c0,f0,z0⟩:=hx;refine⟨?_,?_,?_,?_⟩;all_goals
  first|go_enter func146,ntmps146|go_enter func148,ntmps148|go_enter func154,ntmps154|go_enter func155,ntmps155
  go_wp2_with fail;refine HC.mono ?_;intro e w1 hp;by_cases h6:(tk (ja s 0)<|k+1).kind=6
  .exact sN
  obtain⟨v,rfl,K1,S1,hR⟩:=hp.ok<|kP _ h6
  cases hR
  go_wp2
  go_ret;refine ap.done rfl K1 S1 ?_;rw[sM 4<|Ga hk,po (by obtain hk|hk:=hk<;>exact oE hk)];exact .word _ _ _ _ _<|aeC hk
end
def uL(h:t.kind=6)sort:aF t sort=false:=by
 have h0:bY t=0:=by rw[bY];simp[h,dX h]
 rw[aF];rw[dX h,h0];repeat' split
 all_goals rfl
def mP p q sort:aO T (aJ T p q sort):=λk h=>by rw[aJ];rw[uL h];rfl
def wv p q sort f a:aO T (jU T p q sort f a):=λk h=>by
 rw[jU];rw[dX h,dX h];rw[if_neg ah,if_neg ah];exact J' T _ k h
theorem iZ(sm:M Nd)(sort:Nat):∀f x,aO T<|dw T sm sort f x
 |0,x=>λk h=>cX _ h|f+1,x=>λk h=>by unfold dw;rw[uL h];exact cX _ h
def Kk(hs:aO T sm):aO T (iM T sm sort):=λk h=>by
 rw[iM];rw[if_neg<|by simp[h]];exact hs k h
def pq:∀n,aO T<|b_ T n
 |0=>λk h=>rfl|n+1=>Kk<|mP _ _ _
def oG{p:M Nd}(hp:aO T p)sort f:aO T (fE T p q sort f):=λk h=>by
 rw[fE];rw[dX h,if_neg ah];exact bQ (hp k h) λa=>wv _ _ _ _ a
def wB(sm:M Nd)(fr:Nat):∀f x,aO T<|iN T sm fr f x
 |0,x=>λk h=>cX _ h|f+1,x=>λk h=>by unfold iN;rw[uL h];exact cX _ h
def oH(sm:M Nd)(fr:Nat):∀f x,aO T<|lX T sm fr f x
 |0,x=>λk h=>cX _ h|f+1,x=>λk h=>by unfold lX;rw[dX h];exact cX _ h
def qW(sm:M Nd)(fr:Nat):∀f x,aO T<|uM T sm fr f x
 |0,x=>λk h=>cX _ h|f+1,x=>λk h=>by unfold uM;rw[dX h,dX h,if_neg ah];exact cX _ h
def mQ(hs:aO T sm):aO T (cY T sm):=λk h=>bQ (hs k h) λa=>wB _ _ _ a
def qX(hs:aO T sm):aO T (eY T sm):=λk h=>bQ (hs k h) λa=>oH _ _ _ a
def Dz(hs:aO T sm):aO T (sP T sm):=λk h=>bQ (hs k h) λa=>qW _ _ _ a
def Kl sum fr(x:Nd):=λk1=>if aU (tk T k1) ik=true then aX sum (λy k'=>.ok (.mk 7 ik 0 [x,y] fr (aR T k') fr,k')) (k1+1)else .ok (x,k1)
def wC sum fr x:aO T (Kl (T:=T) sum fr x):=λk h=>by rw[Kl];rw[dX h];exact cX _ h
def aeD sum k:sQ T sum k=aX sum (Kl (T:=T) sum (tk T k).aD) k:=rfl
def O8{sum}(hs:aO T sum):aO T (sQ T sum):=λk h=>bQ (hs k h) λa=>wC _ _ a
def mR:∀n,aO T<|bu T n
 |0=>λk h=>rfl|n+1=>λk h=>by
  unfold bu;rw[dX h,dX h,dX h,dX h];exact O8 (Dz<|qX<|mQ<|mP _ _ _) k h
def Wq e:aO T (uv T e):=λk h=>by
 rw[uv,aX];rw[show bm T OY k=.error (fD<|tk T k) by rw[bm];rw[dX h];rfl];rfl
def pZ:M Unit:=λk=>.ok ((),k+1)
def uN{p:M Nd}(h:aU (tk T k) gG=true):aJ T p q sort k=aX (bm T gG) (λ_=>fE T p q sort (tk T k).aD) k:=by
 have h':=h;rw[aJ,aX,bm];rw[if_pos (by rw[aF];simp[h']),if_pos h',if_pos h]
def O_{p:M Nd}(h1:sort≠1)(h:aU (tk T k) dJ=true):fE T p q sort f k=aX pZ (λ_ j=>.ok (.mk 5 ph 0 [] f (aR T j) f,j)) k:=by
 rw[fE];rw[if_pos ⟨h1,h⟩];rfl
def Am{p:M Nd}(h:aU (tk T k) dJ=false):fE T p q sort f k=aX p (jU T p q sort f) k:=by
 rw[fE];rw[if_neg<|by simp[h]]
def oJ{p:M Nd}(h:aU (tk T k) fy=true):jU T p q sort f a k=aX pZ (λ_=>aX p λb=>aX (bm T dJ) λ_ j=>.ok (.mk 6 ph 0 [a,b] f (aR T j) f,j)) k:=by rw[jU];rw[if_pos h];rfl
def Km{p:M Nd}(h0:aU (tk T k) fy=false)(h:aU (tk T k) Gb=true):jU T p q 3 f a k=aX pZ (λ_=>aX q λb=>aX (bm T dJ) λ_ j=>.ok (.mk 14 ph 0 [a,b] f (aR T j) f,j)) k:=by rw[jU];rw[if_neg<|by simp[h0],if_pos ⟨rfl,h⟩];rfl
def wE{p:M Nd}(h0:aU (tk T k) fy=false)(h:sort=3->aU (tk T k) Gb=false):jU T p q sort f a k=aX (bm T dJ) (λ_ j=>.ok (a,j)) k:=by
 rw[jU];rw[if_neg<|by simp[h0],if_neg (by rintro⟨h1,h2⟩;rw[h h1]at h2;cases h2)];rfl
def aeE(h:dd (ja s 0) 1 k=.ok (t,k'))(hk:k<(ja s 0).length):Ch t.text/\t.t9=t.aD+t.text.size:=by
 rw[dd]at h;split at h
 .rename_i hq
  cases h
  have:=oC s k hk;exact⟨this.v1<|by simpa using hq,this.sp⟩
 .cases h
def Yv{p:Prop}(h:p:=by intros;repeat' (first|exact Kg _|exact qR _ _|exact mR _|exact pq _|exact qV _ _ (by decide)|exact Wq _|exact Pa _|exact Dx _ _|exact Pb hT0 _|exact Gc hT0|exact Pc _ _ _|exact lF|exact λq h=>wB _ _ _ _ q h|exact λq h=>oH _ _ _ _ q h|exact λq h=>qW _ _ _ _ q h|exact wv _ _ _ _ _|exact oG (pq _) _ _|exact oG (Dx _ _) _ _|exact oG (mR _) _ _|refine fP ?_ λ_=>?_)):p:=h
def Mov{α:Type}(R:World->(Nat->Prop)->α->Value->Prop):=∀w w' P Q a v,R w P a v->w.heap.size<=w'.heap.size->(∀b,P b->b<w.heap.size->w'.heap[b]? =w.heap[b]?)->(∀b,P b->b<w.heap.size->Q b)->R w' Q a v
structure cD{γ:Type}N rb sb m s r w0 xb C(g:M γ)(P:World->Prop)k w:Prop where
 sx:SX w N rb sb m s k
 ke:Ke rb w0 w
 eq:r=g k
 lv:∀w',w.heap.size<=w'.heap.size->(∀b,b<w.heap.size->b≠rb->b≠xb->w'.heap[b]? =w.heap[b]?)->P w'
 rz:rb<w0.heap.size/\N<=w0.heap.size
 xz:xb<w.heap.size
 bx:xb=rb\/N<=xb/\w0.heap.size<=xb/\Bx w xb C
section
variable {m:MV} {r:Except Fl (γ×Nat)} {P Q:World->Prop} {g g':M γ} {f:FuncId}
def cD.p(H:cD N rb sb m s r w0 xb C g P k w):P w:=H.lv w (br _) λ_ _ _ _=>rfl
def cD.mv(H:cD N rb sb m s r w0 xb C g P k w)(q:Ke rb w w')(S:SX w' N rb sb m s k')(e:r=g' k'):cD N rb sb m s r w0 xb C g' P k' w':=
 ⟨S,H.ke.trans q,e,λw2 a b=>H.lv w2 (jt q.size a) λc c1 c2 c3=>(b c (jq c1 q.size) c2 c3).trans<|q.block c c1 c2,H.rz,jq H.xz q.size,H.bx.imp id λ⟨a,b,c⟩=>⟨a,b,c.J9 q (by have:=H.rz.1;omega)⟩⟩
def cD.af(H:cD N rb sb m s r w0 xb C g P k w)(hb:Bq w w'):cD N rb sb m s r w0 xb C g P k w':=H.mv (qr hb) (H.sx.af hb) H.eq
def cD.drew(H:cD N rb sb m s r w0 xb C g P k w):cD N rb sb m s r w0 xb C g P k w.drew:=H.af (qj _ _).drew
def cD.re(H:cD N rb sb m s r w0 xb C g P k w)(h:g k=g' k):cD N rb sb m s r w0 xb C g' P k w:=H.mv (Ke.refl _ _) H.sx<|H.eq.trans h
def cD.add(H:cD N rb sb m s r w0 xb C g P k w)(h:∀w',w.heap.size<=w'.heap.size->(∀b,b<w.heap.size->b≠rb->b≠xb->w'.heap[b]? =w.heap[b]?)->Q w'):cD N rb sb m s r w0 xb C g (λw=>P w/\Q w) k w:=⟨H.sx,H.ke,H.eq,λw' a b=>⟨H.lv w' a b,h w' a b⟩,H.rz,H.xz,H.bx⟩
def cD.box{t:TypeId}(H:cD N rb sb m s r w0 xb C g P k w):cD N rb sb m s r w0 xb C g (λv=>P v/\Bx v w.heap.size D) k (w.alloc<|.cells D t):=
 (H.af<|bw _).add λw' a b=>(Bx.new w D t).same a (b _ ah (by have:=H.rz.1;have:=H.ke.size;omega) (by have:=H.xz;omega))
def cD.own{t:TypeId}(H:cD N rb sb m s r w0 rb C g P k w):cD N rb sb m s r w0 w.heap.size D g P k (w.alloc<|.cells D t):=
 have K:=H.af<|bw<|Cv D t
 ⟨K.sx,K.ke,K.eq,λw' a b=>H.lv w' (jt ah a) λc c1 c2 _=>(b c bi c2 ae).trans<|(bw _).block c c1,H.rz,ah,.inr ⟨H.sx.ev.hN,H.ke.size,Bx.new w D t⟩⟩
def cD.put(H:cD N rb sb m s r w0 xb C g P k w)(o:xb≠rb)(B:Bx w' xb D)(q:One xb w w'):cD N rb sb m s r w0 xb D g P k w':=by
 obtain h|⟨b1,b2,b3⟩:=H.bx
 .exact absurd h o
 have K:=H.ke;have z:=q.size;exact⟨H.sx.move ae λb p=>q.block b ae,⟨q.os.trans K.os,q.tape.trans K.tape,q.output.trans K.output,by rw[z];exact K.size,λb z n=>(q.block b ae).trans<|K.block b z n⟩,H.eq,λw2 a b=>H.lv w2 ae λc c1 c2 c3=>(b c ae c2 c3).trans<|q.block c c3,H.rz,B.z,.inr ⟨b1,b2,B⟩⟩
def cO{w0 w}{b}{v}(h:One b w0 w):One b w0 (w.setCell ⟨b,j,none⟩ v):=⟨h.os,h.tape,h.output,by simpa[qg]using h.size,λi hi=>(ql _ _ _ _ hi).trans<|h.block i hi⟩
def cD.bo(H:cD N rb sb m s r w0 xb C g P k w)(o:xb≠rb):Bx w xb C:=(H.bx.resolve_left o).2.2
def cD.at(h:SX w N rb sb m s k)(e:r=g k):cD N rb sb m s r w rb #[] g (λ_=>True) k w:=⟨h,Ke.refl _ _,e,λ_ _ _=>trivial,⟨h.z,h.ev.hN⟩,h.z,.inl rfl⟩
def cD.An{R}{mm}{g:α->M γ}(h:SX w N rb sb m s k)(e:r=aX mm g k)(c:cD N rb sb m s r w rb #[] (aX mm g) (λ_=>True) k w->Cq f args w (ap R N rb sb m s r w)):Cq f args w (ap R N rb sb m s r w):=
 c (.at h e)
def cD.imp(H:cD N rb sb m s r w0 xb C g P k w)(h:∀w,P w->Q w):cD N rb sb m s r w0 xb C g Q k w:=⟨H.sx,H.ke,H.eq,λw' a b=>h _<|H.lv w' a b,H.rz,H.xz,H.bx⟩
theorem cD.bd{R}{mm}{g}{e:Ending}{a:α}(H:cD N rb sb m s r w0 xb C (aX mm g) P k w)(h:ap R N rb sb m s (mm k) w e w')(hA:fin (ja s 0) (mm k)=.ok (a,k'))(mv:Mov R:=by first|exact λ_ _ _ _ _ _ h _ _ _=>h|exact λ_ _ _ _ _ _ h a b c=>h.move a b c):∃v,e=.returned v/\cD N rb sb m s r w0 xb C (g a) (λw'=>P w'/\R w' (λb=>w0.heap.size<=b) a v) k' w'/\R w' (λb=>w.heap.size<=b) a v:=by
 have⟨v,e1,hb,S,V⟩:=h.ok hA;exact⟨v,e1,(H.mv hb S<|H.eq.trans<|mM hA).add λw2 a1 b1=>mv _ _ _ _ _ _ V a1 (λb p z=>b1 b z (by have:=H.rz.1;have:=H.ke.size;have p':w.heap.size<=b:=p;omega) (by have:=H.xz;have p':w.heap.size<=b:=p;omega)) λb p _=>jt H.ke.size p,V⟩
def cD.lost{R}{R'}{mm}{g:α->M γ}{e:Ending}{f:Fl}(H:cD N rb sb m s r w0 xb C (aX mm g) P k w)(h:ap R N rb sb m s (mm k) w e w')(hA:fin (ja s 0) (mm k)=.error f)(st:∀a,aO (ja s 0)<|g a:=by exact Yv):e=bK f/\ap R' N rb sb m s r w0 (bK f) w':=⟨(h.bad hA).1,ap.stop H.eq hA st<|H.ke.trans (h.bad hA).2⟩
def cD.call{R}{R'}{mm}{g:α->M γ}(H:cD N rb sb m s r w0 xb C (aX mm g) P k w)(hC:Cq f args w (ap R N rb sb m s (mm k) w))(ok:∀a k' v w',cD N rb sb m s r w0 xb C (g a) (λw'=>P w'/\R w' (λb=>w0.heap.size<=b) a v) k' w'->mm k=.ok (a,k')->R w' (λb=>w.heap.size<=b) a v->post (.returned v) w')(st:∀a,aO (ja s 0)<|g a:=by exact Yv)(bad:∀f' w',ap R' N rb sb m s r w0 (bK f') w'->post (bK f') w':=by exact λ_ _ h=>⟨rfl,h⟩)(mv:Mov R:=by first|exact λ_ _ _ _ _ _ h _ _ _=>h|exact λ_ _ _ _ _ _ h a b c=>h.move a b c):Cq f args w post:=
 hC.mono λe w' hp=>by
  cases hA:fin (ja s 0) (mm k)with
  |error f=>obtain⟨rfl,h⟩:=H.lost hp hA st;exact bad _ _ h
  |ok p=>obtain⟨v,rfl,H,V⟩:=H.bd (a:=p.1) hp hA mv;exact ok _ _ v w' H (uI hA).1 V
def cD.take{R'}{g}(H:cD N rb sb m s r w0 xb C (aX (bm (ja s 0) c) g) P k w)(ok:∀w',cD N rb sb m s r w0 xb C (g ()) P (k+1) w'->post (.returned<|tkA<|tk (ja s 0) k) w')(hs:s.size<=1000:=by assumption)(hc:c.size<=5:=by decide)(st:∀a,aO (ja s 0)<|g a:=by exact Yv)(bad:∀f' w',ap R' N rb sb m s r w0 (bK f') w'->post (bK f') w':=by exact λ_ _ h=>⟨rfl,h⟩):Cq 82 #[rp rb,.string c] w post:=
 ap.go H.ke H.eq (aa0 H.sx hs c hc) st bad λa k' v w' S K E q _ hb hR=>by
  cases hR
  cases bq _ _ _ _ q
  exact ok w'<|H.mv hb S E
def cD.Gd{R'}{g}(H:cD N rb sb m s r w0 xb C (aX pZ g) P k w)(hi:aU (tk (ja s 0) k) c=true)(ok:∀w',cD N rb sb m s r w0 xb C (g ()) P (k+1) w'->post (.returned<|.bool true) w')(hs:s.size<=1000:=by assumption)(hc:c.size<=5:=by decide)(st:∀a,aO (ja s 0)<|g a:=by exact Yv)(bad:∀f' w',ap R' N rb sb m s r w0 (bK f') w'->post (bK f') w':=by exact λ_ _ h=>⟨rfl,h⟩):Cq 198 #[rp rb,.string c] w post:=
 ap.go H.ke H.eq (aif H.sx hs c hc hi) st bad λa k' v w' S K E q _ hb hR=>by
  cases hR
  cases q
  exact ok w'<|H.mv hb S E
def cD.Ge(H:cD N rb sb m s r w0 xb C g P k w)(hi:aU (tk (ja s 0) k) c=false)(ok:post (.returned<|.bool false) w)(hc:c.size<=5:=by decide):Cq 198 #[rp rb,.string c] w post:=
 (aih H.sx c hc hi).mono λ_ _⟨a,b⟩=>by subst a;subst b;exact ok
def cD.name{R'}{g}(H:cD N rb sb m s r w0 xb C (aX (dd (ja s 0) 1) g) P k w)(ok:∀t w',cD N rb sb m s r w0 xb C (g t) P (k+1) w'->Hid (Ch t.text/\t.t9=t.aD+t.text.size)->post (.returned<|nmA t) w')(hs:s.size<=1000:=by assumption)(st:∀a,aO (ja s 0)<|g a:=by exact Yv)(bad:∀f' w',ap R' N rb sb m s r w0 (bK f') w'->post (bK f') w':=by exact λ_ _ h=>⟨rfl,h⟩):Cq 188 #[rp rb,.string FX] w post:=
 ap.go H.ke H.eq (uK H.sx hs 1 FX<|qh ⟨rfl,rfl⟩) st bad λa k' v w' S K E q _ hb hR=>by
  have:=aeE q H.sx.lt
  cases hR
  cases eC _ _ _ _ q
  exact ok a w' (H.mv hb S E) this
def cD.expr{R'}{g}(H:cD N rb sb m s r w0 xb C (aX (bu (ja s 0) n) g) P k w)(IH:eW s n)(ok:∀a k' t x w',cD N rb sb m s r w0 xb C (g a) (λw'=>P w'/\PE w' (λb=>w0.heap.size<=b) a (.iface t<|.agg x)) k' w'->k<k'->post (.returned<|.iface t<|.agg x) w')(hn:(ja s 0).length<=k+n:=by omega)(st:∀a,aO (ja s 0)<|g a:=by exact Yv)(bad:∀f' w',ap R' N rb sb m s r w0 (bK f') w'->post (bK f') w':=by exact λ_ _ h=>⟨rfl,h⟩):Cq 194 #[rp rb] w post:=
 H.call (IH _ _ _ _ _ _ H.sx hn) (λa k' v w' H q V=>by obtain⟨t,x,rfl⟩:=V.iface;exact ok a k' t x w' H<|jV n _ _ _ q) st bad
def cD.t_{R'}{g}(H:cD N rb sb m s r w0 xb C (aX (b_ (ja s 0) n) g) P k w)(IH:Ci s n)(ok:∀a k' t x w',cD N rb sb m s r w0 xb C (g a) (λw'=>P w'/\PP w' (λb=>w0.heap.size<=b) a (.iface t<|.agg x)) k' w'->k<=k'->post (.returned<|.iface t<|.agg x) w')(hn:(ja s 0).length<=k+n:=by omega)(st:∀a,aO (ja s 0)<|g a:=by exact Yv)(bad:∀f' w',ap R' N rb sb m s r w0 (bK f') w'->post (bK f') w':=by exact λ_ _ h=>⟨rfl,h⟩):Cq 200 #[rp rb] w post:=
 H.call (IH _ _ _ _ _ _ H.sx hn) (λa k' v w' H q V=>by obtain⟨t,x,rfl⟩:=V.iface;exact ok a k' t x w' H<|oK n _ _ _ q) st bad
def cD.since{i}(H:cD N rb sb m s r w0 xb C g P k w)(ok:∀w',cD N rb sb m s r w0 xb C g P k w'->post (.returned<|.agg #[Iv i,.int .i64 ((aR (ja s 0) k:Nat):Int)]) w'):Cq 192 #[rp rb,Iv i] w post:=
 (aey H.sx i).mono λ_ _⟨a,b⟩=>by subst a;exact ok _<|H.af b
def cD.done{R}{a}{v}(H:cD N rb sb m s r w0 xb C g P k w)(h:P w->R w (λb=>w0.heap.size<=b) a v)(he:g k=.ok (a,k):=by rfl):ap R N rb sb m s r w0 (.returned v) w:=
 ap.done (H.eq.trans he) H.ke H.sx (h H.p)
end
section
variable {m:MV}
def S7{p:Prop}(h:p:=by
 intro b k4 t4 x4 w4 H l4;go_wp2_with fail;refine H.take ?_;intro w5 H;go_wp2_with fail;refine H.since ?_;intro w6 H
 go_wp2
 go_ret
 exact H.done λ⟨⟨_,A⟩,B⟩=>.pr _ _ _ _ _ _ _ _ _ A B):p:=h
def S8{p:Prop}(h:p:=by
 refine(H.re<|O_ aA hc).Gd hc ?_;intro w2 H;go_wp2_with fail;refine H.since ?_;intro w3 H
 go_wp2
 go_ret
 exact H.done λ_=>.unit _ _ _ _ _):p:=h
def SV{p:Prop}(h:p:=by
 refine H.Ge hm ?_;go_wp2_with fail;refine(H.re<|wE hm λh=>ae).take ?_;intro w5 H
 go_wp2
 go_ret
 exact H.done λ⟨_,A⟩=>A):p:=h
def Ao(hs:s.size<=1000)(IH:Ci s n)(h:SX w N rb sb m s k)(hn:(ja s 0).length<=k+1+n)(ho:aU (tk (ja s 0) k) gG=true):
 Cq 156 #[rp rb] w (ap PP N rb sb m s (aJ (ja s 0) (b_ (ja s 0) n) (jW<|ja s 0) 2 k) w):=by
 have X_:=gW;have hf2:=jT;refine cD.An h (uN ho) λH=>?_;go_enter func156,ntmps156;go_wp2_with fail;refine H.take ?_;intro w1 H;go_wp2_with fail
 cases hc:aU (tk (ja s 0)<|k+1) dJ
 .refine H.Ge hc ?_;go_wp2_with fail;refine(H.re<|Am hc).t_ IH ?_;intro a k2 t2 x2 w2 H l2;go_wp2_with fail
  cases hm:aU (tk (ja s 0) k2) fy
  .exact SV
  .refine(H.re<|oJ hm).Gd hm ?_;intro w3 H;go_wp2_with fail;refine H.t_ IH ?_;exact S7
 .exact S8
end
abbrev EQ(α:Type):=World->(Nat->Prop)->α->(Nat->Value)->Prop
def cu{α:Type}(Q:EQ α):=∀(w w':World)(P P':Nat->Prop)(a:α)(c:Nat->Value),Q w P a c->w.heap.size<=w'.heap.size->(∀b,P b->b<w.heap.size->w'.heap[b]? =w.heap[b]?)->(∀b,P b->b<w.heap.size->P' b)->Q w' P' a c
def bL(cs:Nat->Nat->Value)(sz:Nat):Nat->List Value
 |0=>[]|n+1=>bL cs sz n++(qt sz).map (cs n)
def gX cs sz n:(bL cs sz n).length=n*sz:=by
 induction n with
 |zero=>simp[bL]|succ n ih=>simp only[bL,dr,ih,List.length_map,List.length_range,jz]
def sC cs sz:∀n i j,i<n->j<sz->(bL cs sz n)[i*sz+j]? =some (cs i j):=by
 intro n
 induction n with
 |zero=>intro i j h;omega|succ n ih=>
  intro i j hi hj;simp only[bL];by_cases h:i<n
  .have:i*sz+j<n*sz:=by
    have:(i+1)*sz<=n*sz:=j3 _ h;rw[jz]at this;omega
   rw[List.getElem?_append_left (by rw[gX];exact this)];exact ih i j h hj
  .have e:i=n:=ae;subst e;rw[List.getElem?_append_right (by rw[gX];omega),gX];rw[show i*sz+j-i*sz=j by omega];simp[hj]
def kQ{cs ds:Nat->Nat->Value}{sz:Nat}:∀n,(∀i,i<n->cs i=ds i)->bL cs sz n=bL ds sz n
 |0,_=>rfl|n+1,h=>by simp only[bL];rw[kQ n<|λi hi=>h i ae,h n ae]
def db{α:Type}(Q:EQ α)et sz w base va vc(L:List α):=
 ∃cs:Nat->Nat->Value,w.ownsRow base et sz (.slice va L.length vc) L.length (bL cs sz L.length)/\∀i(h:i<L.length),Q w (λb=>base<=b/\b<w.heap.size/\(j9 va L.length vc).ownBlock≠some b) L[i]<|cs i
def RowV{α:Type}(Q:EQ α)sz w P L(v:Value):=
 ∃(va:Option Addr)(vc:Nat)(cs:Nat->Nat->Value),v=.slice va L.length vc/\(L=[]\/∃g,va=some ⟨g,0,none⟩/\P g/\g<w.heap.size/\∀i,i<L.length->∀j,j<sz->w.cell? ⟨g,i*sz+j,none⟩=some (cs i j))/\∀i(h:i<L.length),Q w P L[i]<|cs i
section
variable {Q:EQ α} {sz:Nat} {L:List α}
def db.nil(Q:EQ α)et sz w base:db Q et sz w base none 0 []:=⟨λ_ _=>.nilIface,qf _ _ _ _,λi h=>absurd h ah⟩
def SY{p:Prop}(h:p:=by
 have aZ:i*sz+j<L.length*sz:=by
  have:(i+1)*sz<=L.length*sz:=j3 _ hi;rw[jz]at this;omega
 rw[<-sC cs sz L.length i j hi hj,<-ht];simp only[World.cell?,hh];rw[List.getElem?_take_of_lt aZ]
 simp):p:=h
def db.v(hQ:cu Q)(h:db Q et sz w base va vc L):RowV Q sz w (λb=>base<=b) L (.slice va L.length vc):=by
 obtain⟨cs,ho,hr⟩:=h;refine⟨va,vc,cs,rfl,?_,λi hi=>hQ _ _ _ _ _ _ (hr i hi) (br _) (λ_ _ _=>rfl) λb p _=>p.1⟩;obtain⟨h1,h2⟩:=ho;obtain⟨_,hz⟩|⟨q,cap,jL,hv,hg,hh,_,_,_,ht⟩:=h2
 .grind
 .injection hv with e1 e2 e3;subst e1;refine qi ⟨q,rfl,hg,(Array.getElem?_eq_some_iff.1 hh).1,λi hi j hj=>?_⟩;exact SY
def db.pL(hQ:cu Q)(h:db Q et sz w base va vc L)(hs:w.heap.size<=w'.heap.size)(hb:∀b,base<=b->b<w.heap.size->w'.heap[b]? =w.heap[b]?):db Q et sz w' base va vc L:=by
 obtain⟨cs,ho,hr⟩:=h;refine⟨cs,?_,λi hi=>hQ _ _ _ _ _ _ (hr i hi) hs (λb p z=>hb b p.1 z) λb p _=>⟨p.1,ae,p.2.2⟩⟩;obtain⟨h1,h2⟩:=ho;refine⟨h1,?_⟩;obtain h2|⟨q,cap,jL,hv,hg,hh,r⟩:=h2
 .exact qh h2
 .refine qi ⟨q,cap,jL,hv,hg,?_,r⟩;rw[hb q hg (Array.getElem?_eq_some_iff.1 hh).1,hh]
def db.block(h:db Q et sz w base va vc L):∀b,(j9 va L.length vc).ownBlock=some b->base<=b/\b<w.heap.size:=by
 obtain⟨cs,ho,_⟩:=h;exact cN ho
def db.one{lo q:Nat}{a}{c:Nat->Value}(hQ:cu Q)(hq:Q w (λb=>lo<=b) a c)(gJ:base<=lo)(hb:lo<=w.heap.size)(hs:0<sz)C(hC:C=((qt sz).map c).toArray)(hqq:q=w.heap.size):db Q et sz (w.alloc<|.cells C et) base (some ⟨q,0,none⟩) 1 [a]:=by
 subst hqq hC;refine⟨λ_=>c,⟨by simp[bL],qi ⟨w.heap.size,1,_,rfl,ae,(MapKept.heap_alloc w _).1,ah,NR,ah,by simp[bL];exact List.take_of_length_le ah⟩⟩,λi hi=>?_⟩;have:i=0:=yT;subst this;refine hQ _ _ _ _ _ _ hq ah (λb _ z=>Below.heap_alloc _ _ _ z) λb p z=>⟨jt gJ p,bi,?_⟩;simp[Value.ownBlock];omega
def db.push{w1}{lo q3 c3:Nat}{a}{c:Nat->Value}(hQ:cu Q)(hP:∀i(h:i<L.length),Q w1 (λb=>base<=b/\b<w1.heap.size/\(j9 va L.length vc).ownBlock≠some b) L[i]<|cs i)(hq:Q w1 (λb=>lo<=b) a c)(p7:base<=lo)(hold:∀b,(j9 va L.length vc).ownBlock=some b->b<lo)(hW:Bq w1 W)(h3:w3.ownsRow base et sz (.slice (some ⟨q3,0,none⟩) (L.length+1) c3) (L.length+1) (bL cs sz L.length++(qt sz).map c))(hg:W.grownBy w3 (j9 va L.length vc).ownBlock)(Ws:(j9 (some ⟨q3,0,none⟩) (L.length+1) c3).ownBlock=(j9 va L.length vc).ownBlock\/(j9 (some ⟨q3,0,none⟩) (L.length+1) c3).ownBlock=some W.heap.size):
 db Q et sz w3 base (some ⟨q3,0,none⟩) c3 (L++[a]):=by
 have hlen:(L++[a]).length=L.length+1:=ah;have kX:=hg.size;have XN:∀b,b<w1.heap.size->(Lv va L.length vc).ownBlock≠some b->w3.heap[b]? =w1.heap[b]? :=λb hb hn=>(hg.block b (jq hb hW.size)<|λe=>hn e.symm).trans<|hW.block b hb;have Cb:∀b,b<w1.heap.size->(Lv va L.length vc).ownBlock≠some b->(Lv (some ⟨q3,0,none⟩) (L.length+1) c3).ownBlock≠some b:=λb hb hn e=>by
  obtain g|g:=Ws
  .exact hn (g▸e)
  .have q:=e.symm.trans g;simp at q;have:=hW.size;omega
 have hws:=hW.size;have MJ:∀i,i<L.length->(λi=>if i=L.length then c else cs i) i=cs i:=λi hi=>if_neg ae;refine⟨λi=>if i=L.length then c else cs i,?_,λi hi=>?_⟩
 .rw[hlen];show w3.ownsRow base et sz _ _<|bL _ sz L.length++(qt sz).map (if L.length=L.length then c else cs L.length);rw[if_pos rfl,kQ (ds:=cs) L.length MJ];exact h3
 .rw[hlen];by_cases aZ:i<L.length
  .rw[qv aZ];show Q w3 _ L[i]<|if i=L.length then c else cs i;rw[if_neg ae];exact hQ _ _ _ _ _ _ (hP i aZ) ae (λb p z=>XN b p.2.1 p.2.2) λb p z=>⟨p.1,ae,Cb b p.2.1 p.2.2⟩
  .have tH:i=L.length:=qAk;subst tH;have e1:(L++[a])[L.length]'hi=a:=ah;rw[e1];show Q w3 _ a<|if L.length=L.length then c else cs L.length;rw[if_pos rfl];have cJ:∀b,lo<=b->(Lv va L.length vc).ownBlock≠some b:=λb h1 e=>by have:=hold b e;omega
   exact hQ _ _ _ _ _ _ hq ae (λb p z=>XN b z<|cJ b p) λb p z=>⟨jt p7 p,ae,Cb b z<|cJ b p⟩
end
def Q1(R:World->(Nat->Prop)->Nd->Value->Prop):EQ Nd:=λw P a c=>R w P a<|c 0
def aa9:cu (Q1 PT):=λ_ _ _ _ _ _ h h1 h2 h3=>PT.move h h1 h2 h3
section
variable {row:Option Nat} {m:MV}
def SX.grown(hg:W.grownBy w3 row)(h:SX W N rb sb m s k)(hr:∀j,row=some j->N<=j):SX w3 N rb sb m s k:=
 h.move hg.size λb hb=>hg.block b (jq hb h.ev.hN) λe=>by have:=hr b e.symm;omega
def dY{b}{mt ft}(h:MS j8 W b L)(hm:Tryz.prog.underlying mt=some (.map 235 ft))(hz:(zeroValue ft).run j6 W=.ok .nilFunc W)x:
 (qm mt (Mv b) (.string x) true).run j6 W=.ok (kO (bd x L) .nilFunc) W:=by
 have:=h.look (q9 Tryz.underlying235) hm hz x trivial (λ_ _=>trivial) true;rw[this]
 cases bd x L<;>rfl
theorem Gf{x:BA}:∀{L:List (BA×Value)},(∀p∈L,p.1≠x)->bd x L=none
 |[],_=>rfl|p::l,h=>by
  rw[bd];rw[if_neg<|h p<|List.mem_cons_self ..];exact Gf λq hq=>h q<|List.mem_cons_of_mem _ hq
end
def sS(ho:gi t)(hs:sort=2\/sort=3)(hb:aF t sort=true):t.kind=1\/t.kind=2\/t.kind=4\/aU t fH=true\/aU t di=true\/(sort=2/\aU t mF=true)\/aU t gG=true:=by
 by_cases h0:aU t gG=true
 .simp[h0]
 have h0':aU t sH=false:=by simpa using h0
 rw[aF]at hb;rw[h0']at hb;rw[bY]at hb;by_cases h1:t.kind=1
 .exact qh h1
 by_cases h2:t.kind=2
 .omega
 by_cases h4:t.kind=4
 .omega
 by_cases h5:aU t fH=true
 .simp[h5]
 by_cases h6:aU t di=true
 .simp[h6]
 by_cases h7:aU t mF=true
 .obtain rfl|rfl:=hs
  .simp[h7]
  .grind
 .exfalso;obtain rfl|rfl:=hs
  .grind
  .grind
def wF(hs:sort=2\/sort=3)(hb:aF t sort=false):t.kind≠1/\t.kind≠2/\t.kind≠4/\aU t fH=false/\aU t di=false/\(sort=2->aU t mF=false)/\aU t gG=false:=by
 rw[aF]at hb;rw[Bool.or_eq_false_iff]at hb;obtain⟨h0,hb⟩:=hb;have key:∀c,c=1\/c=2\/c=3\/c=4->bY t≠c:=Mn;refine⟨λe=>key 1 ah (by rw[bY];simp[e]),λe=>key 2 ah (by rw[bY];simp[e]),λe=>key 3 ah (by rw[bY];simp[e]),?_,?_,?_,h0⟩
 .cases h:aU t fH with
  |false=>rfl|true=>exact absurd (Ga<|qh h)<|key 4 ah
 .cases h:aU t di with
  |false=>rfl|true=>exact absurd (Ga<|qi h)<|key 4 ah
 .rintro rfl
  cases h:aU t mF with
  |false=>rfl|true=>
   have h5:=oE h;have:bY t=15:=by
    rw[bY];rw[if_neg ae,if_neg ae,if_neg ae,if_neg ae,if_neg (by rw[Kj,Dy];rw[SU]at h;simp at h;simp[h.2]),if_pos h]
   rw[this]at hb;simp at hb
def ch{p}(hb:aF (tk T k) sort=true)(ho:aU (tk T k) gG=false):aJ T p q sort k=.ok (dG<|tk T k,k+1):=by
 have W4:=ho;rw[aJ];rw[if_pos hb,if_neg<|by simp[W4]]
theorem agk{a b:BA}(h:a.toList=b.toList):a=b:=by
 rw[qd,qd]at h;exact ByteArray.ext<|Array.ext' h
def gn(h:aU t c=true):aq t=c:=by
 rw[po<|oE h];rw[aU]at h;simp only[qz,beq_iff_eq]at h;exact agk h.2
def qY(h5:t.kind=5)(h:aU t c=false):c≠t.text:=λe=>by
 subst e;rw[aU]at h;simp[h5]at h
def pu(h:t.kind≠5)c:aU t c=false:=by rw[aU];simp[h]
def sT{d}(h:aU t c=true)(hn:c.toList≠d.toList):aU t d=false:=by
 rw[aU]at h⊢;simp only[qz,beq_iff_eq]at h;simp[h.1,h.2,hn]
section
variable {m:MV}
def Wt(hs:s.size<=1000)(IH:Ci s n)(h:SX w N rb sb m s k)(hn:(ja s 0).length<=k+1+n)(hb:aF (tk (ja s 0) k) 2=true){x}(hx:Bx w x #[rp rb]):
 (∃f,bd (aq<|tk (ja s 0) k) (qU rb x)=some (oq f rb)/\(∀args w,(callFunc f args).run j6 w=.ok (.enter f args) w)/\∀W,Bq w W->Cq f #[rp rb] W (ap PP N rb sb m s (aJ (ja s 0) (b_ (ja s 0) n) (jW<|ja s 0) 2 k) W))\/
 (∃f,bd (aq<|tk (ja s 0) k) (qU rb x)=some (mA f x)/\(∀args w,(callFunc f args).run j6 w=.ok (.enter f args) w)/\∀W,Bq w W->Cq f #[Pv x] W (ap PP N rb sb m s (aJ (ja s 0) (b_ (ja s 0) n) (jW<|ja s 0) 2 k) W)):=by
 have ho:=eH s k h.lt;obtain hk|hk|hk|hk|hk|⟨h9,hk⟩|hk:=sS ho aA hb
 .refine qi ⟨151,by rw[iW hk];rfl,λ_ _=>qkr,?_⟩;rw[ch hb<|pu ae _];exact λW hW=>(aa7 (h.af hW) hs hk x<|hx.below hW).2
 .refine qh ⟨152,by rw[ie hk];rfl,λ_ _=>qkr,?_⟩;rw[ch hb<|pu ae _];exact λW hW=>(agj (h.af hW) hs hk).2
 .refine qi ⟨153,by rw[iX hk];rfl,λ_ _=>qkr,?_⟩;rw[ch hb<|pu ae _];exact λW hW=>(aa8 (h.af hW) hs hk x<|hx.below hW).2
 .refine qi ⟨154,qBk,λ_ _=>qkr,?_⟩;rw[ch hb<|sT hk qAp];exact λW hW=>(yq (h.af hW) hs (qh hk) x<|hx.below hW).2.2.1
 .refine qi ⟨155,qBk,λ_ _=>qkr,?_⟩;rw[ch hb<|sT hk qAp];exact λW hW=>(yq (h.af hW) hs (qi hk) x<|hx.below hW).2.2.2
 .refine qh ⟨150,qBk,λ_ _=>qkr,?_⟩;rw[ch hb<|sT hk qAp];exact λW hW=>O7 (h.af hW) hs hk
 .refine qh ⟨156,qBk,λ_ _=>qkr,λW hW=>Ao hs IH (h.af hW) hn hk⟩
def aa_(h:SX w N rb sb m s k)(hb:aF (tk (ja s 0) k) 2=false)x:bd (aq<|tk (ja s 0) k) (qU rb x)=none:=by
 have ho:=eH s k h.lt;have⟨n1,n2,n4,nt,nf,na,no⟩:=wF aA hb;obtain h'|h'|h'|h'|h'|h'|h':=ho.kd
 .exact absurd h' n1
 .exact absurd h' n2
 .rw[ig h'];rfl
 .exact absurd h' n4
 .rw[po h'];have hz:=ho.s5 h';have tK:∀c:BA,5<c.size->c≠(tk (ja s 0) k).text:=λc hc e=>by rw[e]at hc;omega
  refine Gf λp hp=>?_;simp only[qU,qy,qx,or_false]at hp;obtain rfl|rfl|rfl|rfl|rfl|rfl|rfl:=hp
  .exact qY h' (na rfl)
  .exact tK FX aA
  .exact tK J6 aA
  .exact tK OX aA
  .exact qY h' nt
  .exact qY h' nf
  .exact qY h' no
 .exact absurd h' h.ok
 .rw[iY h'];rfl
def aeF w:(zeroValue 314).run j6 w=.ok .nilFunc w:=qkr
end
theorem RowV.move{Q}{sz}{L:List α}{v:Value}(h:RowV Q sz w P L v)(hQ:cu Q)(hs:w.heap.size<=w'.heap.size)(hb:∀b,P b->b<w.heap.size->w'.heap[b]? =w.heap[b]?)(hq:∀b,P b->b<w.heap.size->P' b):RowV Q sz w' P' L v:=by
 obtain⟨va,vc,cs,hv,aE,hr⟩:=h;refine⟨va,vc,cs,hv,?_,λi hi=>hQ _ _ _ _ _ _ (hr i hi) hs hb hq⟩;obtain h0|⟨g,h1,h2,h3,h4⟩:=aE
 .exact qh h0
 .refine qi ⟨g,h1,hq g h2 h3,jq h3 hs,λi hi j hj=>?_⟩;rw[qe (a:=⟨g,i*sz+j,none⟩) (w:=w)<|hb g h2 h3];exact h4 i hi j hj
section
variable {Q:EQ α} {sz:Nat} {m:MV} {r:Except Fl (γ×Nat)} {P:World->Prop} {g:M γ} {L:List α}
def Gg(I:List α->Prop)Q et sz N rb sb m s k w r(g:Nat->List α->Nat->M γ)gk(v:Value)wr:=
 ∃(kr:Nat)(L:List α)(f:Nat)(va:Option Addr)(vc tz:Nat),v=.slice va L.length vc/\I L/\cD N rb sb m s r w rb #[] (g f L tz) (λw'=>db Q et sz w' w.heap.size va vc L) kr wr/\Hid (gk=(ja s 0).length-kr)/\k<=kr/\L.length<=kr/\(ja s 0).length<=kr+f
def cD.row(H:cD N rb sb m s r w0 xb C g P k w)(hQ:cu Q)(R:db Q et sz w base va vc L)(hb:w0.heap.size<=base/\(xb=rb\/xb<base)):cD N rb sb m s r w0 xb C g (λw'=>db Q et sz w' base va vc L) k w:=
 (H.add λw' a b=>R.pL hQ a λc c1 c2=>b c c2 (by have:=H.rz;omega) (by have:=H.rz;omega)).imp λ_ h=>h.2
def cD.append{t}{z}{D}{c}{a}{wr:World}(H:cD N rb sb m s r w0 xb C g P k w)(hT:(ja s 0).length<=1001)(hQ:cu Q)(inf:(Tryz.prog.info? et).map (λi=>(i.zero,i.size,i.bytes))=some (some z,sz,bytes))(ut:Tryz.prog.underlying t=some (.slice et))(R:db Q et sz w base va vc L)(hr:base<=wr.heap.size)(hb:∀b,(j9 va L.length vc).ownBlock=some b->b<wr.heap.size)(V:Q w (λb=>wr.heap.size<=b) a c)(hl:L.length<k)(h:∀q c' w3,cD N rb sb m s r w0 xb C g (λw'=>db Q et sz w' base (some ⟨q,0,none⟩) c'<|L++[a]) k w3->wpList j6 ops K rest (ac.put o.dst<|.slice (some ⟨q,0,none⟩) (L++[a]).length c') w3)(he:w0.heap.size<=base/\(xb=rb\/xb<base)/\base<=w.heap.size:=by exact⟨br _,.inl rfl,H.ke.size⟩)(hD:D=(qt sz).map c:=by rfl)(h1:∀u∈D,u.oneCell'=true:=by intro u hu;simp at hu;obtain rfl|rfl|rfl|rfl|rfl|rfl:=hu<;>rfl)(hz:z.cells.size=sz/\0<sz/\bytes<=1000:=by decide)(JO:o.guard=none:=by rfl)(ho:o.op=.call {callee:=.builtin .append,args:=#[sO,xO],argTypes:=#[t,t]}:=by rfl)(hs:ac.eval sO=.slice va L.length vc:=by rfl)(hx:ac.eval xO=.slice (some ⟨w.heap.size,0,none⟩) 1 1:=by rfl):
 wpList j6 ops K (o::rest) ac (w.alloc<|.cells D.toArray et):=by
 have⟨i0,m6,ku,gS,gC⟩:=info_parts inf;obtain⟨cs,HO,HP⟩:=R;have kl:=H.sx.lt;have hbw:Bq w (w.alloc<|Cv D.toArray et):=bw _;have BG:=cN HO;refine wpList_append_own_at _ JO sO xO t ho base et i0 _ sz bytes ut m6 ku gS gC hz.1 hz.2.1 (Lv va L.length vc) L.length _ hs (gT HO hbw) ⟨w.heap.size,0,none⟩ 1 1 D hx (by rw[hD];simp) (nS _ _ _ _ ah) h1 NR (jt (ju _ hz.2.2) ae) bi ?_;intro v3 w3 O3 g3 n3 l3;obtain⟨q,c',rfl⟩:=rR O3 ae;have e:(L++[a]).length=L.length+1:=ah;have B:=H.af hbw;have rz:=H.rz;have G:cD N rb sb m s r w0 xb C g (λ_=>True) k w3:=⟨SX.grown g3 B.sx λj e=>by have:=BG j e;omega,Ke.grown g3 B.ke λj e=>by have:=BG j e;omega,H.eq,λ_ _ _=>trivial,H.rz,jq B.xz g3.size,B.bx.imp id λ⟨b1,b2,b3⟩=>⟨b1,b2,b3.grown g3 λj e=>by have:=BG j e;omega⟩⟩;have:=h q c' w3<|G.row hQ (db.push (w1:=w) (lo:=wr.heap.size) (c:=c) hQ HP V hr hb hbw (hD▸O3) g3 l3) ⟨he.1,he.2.1⟩;rw[e]at this;exact this
end
def Q9:(Tryz.prog.info? 115).map (λi=>(i.zero,i.size,i.bytes))=some (some .nilIface,1,16):=qkr
def CI:Tryz.prog.underlying 183=some (.slice 115):=qkr
def Iq:(Tryz.prog.info? 165).map (λi=>(i.zero,i.size,i.bytes))=some (some .nilIface,1,16):=qkr
def yF:Tryz.prog.underlying 180=some (.slice 165):=qkr
def sU w:(zeroValue 310).run j6 w=.ok .nilFunc w:=qkr
def Kn{x:Nd}(h:aF (tk T k) sort=false):dw T sm sort f x k=.ok (x,k):=by
 cases f with
 |zero=>rfl|succ f=>unfold dw;rw[h];rfl
def Wu{x:Nd}(h:aF (tk T k) sort=true):dw T sm sort (f+1) x k=aX sm (λy k'=>dw T sm sort f (x.add y<|aR T k') k') k:=by
 show(if aF (tk T k) sort=true then _ else _)=_;rw[if_pos h]
def qZ{T:List jc}{sm:M Nd}{sort c:Nat}{nm:BA}{n fr at_:Nat}:∀f L k a k2,dw T sm sort f (.mk c nm n L fr (aR T k) at_) k=.ok (a,k2)->∃L',a=.mk c nm n L' fr (aR T k2) at_
 |0,L,k,a,k2,h=>by cases h;exact⟨L,rfl⟩|f+1,L,k,a,k2,h=>by
  unfold dw at h;split at h
  .have⟨y,k1,_,h2⟩:=au h;exact qZ f (L++[y]) k1 a k2 h2
  .cases h;exact⟨L,rfl⟩
def Gh(f:M α)k:f k=aX f (λa k=>.ok (a,k)) k:=by rw[aX];cases f k<;>rfl
def aeG R nm w P(a:Nd)v:=∃L fr tz at_,a=.mk 2 nm 0 L fr tz at_/\RowV (Q1 R) 1 w P L v
def Tab N rb sb m s R(sm:M Nd)sort b w k:=∃L,MS j8 w b L/\
 (aF (tk (ja s 0) k) sort=true/\((∃F,bd (aq<|tk (ja s 0) k) L=some (oq F rb)/\(∀args w,(callFunc F args).run j6 w=.ok (.enter F args) w)/\∀W,Bq w W->Cq F #[rp rb] W (ap R N rb sb m s (sm k) W))\/
  (∃F x,bd (aq<|tk (ja s 0) k) L=some (mA F x)/\(∀args w,(callFunc F args).run j6 w=.ok (.enter F args) w)/\∀W,Bq w W->Cq F #[Pv x] W (ap R N rb sb m s (sm k) W)))\/
  aF (tk (ja s 0) k) sort=false/\bd (aq<|tk (ja s 0) k) L=none)
section
variable {m:MV} {R:World->(Nat->Prop)->Nd->Value->Prop} {b:Nat} {p:M Nd}
def Ko{mt:Nat}(hF:mt=243\/mt=242\/mt=241)(hM:MS j8 w b L)x:(qm mt (Mv b) (.string x) true).run j6 w=.ok (kO (bd x L) .nilFunc) w:=by
 obtain rfl|rfl|rfl:=hF
 .exact dY hM Tryz.underlying243 (aie w) x
 .exact dY hM Tryz.underlying242 (aeF w) x
 .exact dY hM Tryz.underlying241 (sU w) x
def SS{p:Prop}(h:p:=by
 obtain⟨rfl,hb'⟩:=hp.bad hA
 exact⟨rfl,hp⟩):p:=h
def agl{FO mt:Nat}(hF:FO=238/\mt=243\/FO=222/\mt=242\/FO=203/\mt=241)(hI:∀{w P a v},R w P a v->∃t x,v=.iface t (.agg x))(h:SX w N rb sb m s k)(Y:Tab N rb sb m s R (aJ (ja s 0) p q sort) sort b w k):
 Cq FO #[rp rb,Mv b] w (ap R N rb sb m s (aJ (ja s 0) p q sort k) w):=by
 obtain⟨L,hM,Y⟩:=Y;have hl:=Ko (mt:=mt) (by obtain h|h|h:=hF<;>simp[h.2]) hM (aq<|tk (ja s 0) k);have⟨c,f,z⟩:=h.bx;obtain⟨hb,⟨F,hg,IR,HC⟩|⟨F,x,hg,IR,HC⟩⟩|⟨hb,hg⟩:=Y;all_goals simp only[hg,kO]at hl
 all_goals clear hg hM
 all_goals obtain⟨rfl,rfl⟩|⟨rfl,rfl⟩|⟨rfl,rfl⟩:=hF
 all_goals(
  first
  |go_enter func238,ntmps238
  |go_enter func222,ntmps222
  |go_enter func203,ntmps203
  first
  |(go_wp2_with(go_at_call 120;refine(wj h.rd).mono ?_;rintro e w1⟨rfl,hb'⟩)
    refine⟨rfl,qr hb',?_⟩;rw[show aJ (ja s 0) p q sort k=.error (fD<|tk (ja s 0) k) by rw[aJ];rw[hb];rfl,fD,if_neg h.ok]
    rfl)
  |(go_wp2_with fail
    refine(HC _<|qj _ _).mono ?_;intro e w1 hp
    cases hA:fin (ja s 0) (aJ (ja s 0) p q sort k)with
    |error f'=>
     exact SS
    |ok r=>
    obtain⟨a,k2⟩:=r;obtain⟨v,rfl,_,_,hR⟩:=hp.ok hA;obtain⟨tv,xv,rfl⟩:=hI hR
    go_wp2
    go_ret
    exact hp))
def aba{FM mt et:Nat}(hT:(ja s 0).length<=1001)(hF:FM=217/\mt=243/\et=165\/FM=223/\mt=242/\et=115)(hI:∀{w P a v},R w P a v->∃t x,v=.iface t (.agg x))(mv:Mov R)(lts:mx sm)(D:∀w k',SX w N rb sb m s k'->k<=k'->Tab N rb sb m s R sm sort b w k')(h:SX w N rb sb m s k)nm(fr tz at_:Nat):
 Cq FM #[rp rb,Mv b] w (ap (aeG R nm) N rb sb m s (dw (ja s 0) sm sort (ja s 0).length (.mk 2 nm 0 [] fr tz at_) k) w):=by
 have mvs:cu (Q1 R):=λ_ _ _ _ _ _ h a b c=>mv _ _ _ _ _ _ h a b c;obtain⟨r,hr⟩:∃r,r=dw (ja s 0) sm sort (ja s 0).length (.mk 2 nm 0 [] fr tz at_) k:=⟨_,rfl⟩;rw[<-hr];have H:=cD.at h hr
 replace D:=ai D
 have tl:=ai (λ(w:World)(L:List (BA×Value))(h:MS Sv w b L)=>Ko (mt:=mt) (by obtain h|h:=hF<;>simp[h.2.1]) h);clear h hr;obtain⟨rfl,rfl,he⟩|⟨rfl,rfl,he⟩:=hF
 all_goals(
  replace he:=ai he
  first
  |go_enter func217,ntmps217
  |go_enter func223,ntmps223
  go_wp2
  go_loopg[5] ((ja s 0).length-k) (λgk v wr=>Gg (λ_=>True) (Q1 R) et 1 N rb sb m s k w r (λf L tz=>dw (ja s 0) sm sort f<|.mk 2 nm 0 L fr tz at_) gk v wr)
  case atStart=>exact⟨k,[],(ja s 0).length,none,0,tz,rfl,trivial,H.row mvs (db.nil _ _ _ _ _) ⟨br _,.inl rfl⟩,ai rfl,br _,ah,ae⟩
  case round=>
   clear H;obtain rfl:=uh he;obtain⟨kr,L,f,va,vc,t9',rfl,-,H,bE,hle,UU,hfu⟩:=hrel;have⟨X,hM,Y⟩:=uh D _ _ H.sx hle;have hl:=uh tl _ _ hM<|aq<|tk (ja s 0) kr;have hkr:=H.sx.lt;have zw:=H.ke.size;have hrw:=H.p.block;have⟨c,ff,z⟩:=H.sx.bx;obtain⟨hb,Y⟩|⟨hb,hg⟩:=Y
   .obtain⟨f,rfl⟩:∃f',f=f'+1:=⟨f-1,ae⟩;obtain⟨F,hg,IR,HC⟩|⟨F,x,hg,IR,HC⟩:=Y
    all_goals(
     simp only[hg,kO]at hl;clear hg;go_wp2_with fail;refine(H.re<|Wu hb).call (HC _<|qj _ _) ?_ (st:=λa q h=>iZ _ _ _ _ q h) (mv:=mv);intro a k2 v w1 H q V;obtain⟨tv,xv,rfl⟩:=hI V;have l2:=lts _ _ _ q;clear HC IR c ff z hl hM q;go_wp2_with(at_builtin;go_must(refine H.append (D:=[Fv tv<|Av xv]) (z:=Zv) (bytes:=16) hT mvs (by first|exact Iq|exact Q9) (by first|exact yF|exact CI) H.p.1 zw (λb e=>(hrw b e).2) (c:=λ_=>Fv tv<|Av xv) V ae ?_;intro q3 c3 w3 H));go_roundg((ja s 0).length-k2)
     case measure=>rw[uh bE];omega
     case rel=>exact⟨k2,L++[a],f,_,c3,_,ah,trivial,H.re rfl,ai rfl,ae,bi,ae⟩)
   .simp only[hg,kO]at hl
    go_wp2
    go_ret
    exact H.done (λR=>⟨L,_,_,_,rfl,R.v mvs⟩)<|Kn hb)
end
section
variable {m:MV} {R:World->(Nat->Prop)->Nd->Value->Prop} {b:Nat} {p:M Nd}
def Ks(mv:Mov R):Mov (aeG R nm):=λ_ _ _ _ _ _⟨L,a,b,c,d,e⟩x y z=>⟨L,a,b,c,d,e.move (λ_ _ _ _ _ _ h a b c=>mv _ _ _ _ _ _ h a b c) x y z⟩
def aeG.sl{v}(h:aeG R nm w P a v):∃va L vc,v=.slice va L vc:=by obtain⟨_,_,_,_,_,_,_,_,rfl,-⟩:=h;exact⟨_,_,_,rfl⟩
def abb{FH tt}(hs:s.size<=1000)(hT:(ja s 0).length<=1001)(hF:FH=200/\tt=185/\m.d=Mv b\/FH=221/\tt=299/\b=sb)(hI:∀{w P a v},R w P a v->∃t x,v=.iface t (.agg x))(mv:Mov R)(lts:mx (aJ (ja s 0) p q sort))(D:∀w k',SX w N rb sb m s k'->k<=k'->Tab N rb sb m s R (aJ (ja s 0) p q sort) sort b w k')(h:SX w N rb sb m s k)(mk:∀{w P nm L v}{f t a y:Nat},m0 nm->y=a+nm.size->RowV (Q1 R) 1 w P L v->R w P (.mk 2 nm 0 L f t a) (.iface tt<|.agg #[Nv f,Nv t,Nv a,Nv y,.string nm,v])):
 Cq FH #[rp rb] w (ap R N rb sb m s (iM (ja s 0) (aJ (ja s 0) p q sort) sort k) w):=by
 have ho:=eH s k h.lt;have hin:=(oC s k h.lt).sp;have hku:=FV ho h.ok;rw[show J6.toList=[117,112,32,110,97,109,101]from toList_mk _]at hku;have⟨c,f,z⟩:=h.bx
 replace D:=ai D
 replace hin:=ai hin
 by_cases h2:(tk (ja s 0) k).kind=2
 .rw[h2]at hku;have⟨k1,e1,e2⟩:=SK s k h.lt ae;have HE:iM (ja s 0) (aJ (ja s 0) p q sort) sort k=aX (dd (ja s 0) 2) (λ_=>dw (ja s 0) (aJ (ja s 0) p q sort) sort (ja s 0).length<|.mk 2 (tk (ja s 0) k).text 0 [] (tk (ja s 0) k).aD (aR (ja s 0)<|k+1) (tk (ja s 0) k).aD) k:=by
   unfold iM;rw[if_pos<|by simp[h2]];unfold aX;rw[abc sort k h2,sK h2,e2];unfold dG bY mO;simp[h2]
  obtain⟨rfl,rfl,vE⟩|⟨rfl,rfl,rfl⟩:=hF
  all_goals(
   refine cD.An h HE λH=>?_;clear HE e1 e2;first
   |go_enter func200,ntmps200
   |go_enter func221,ntmps221
   go_wp2_with fail;refine H.call (uK h hs 2 J6<|qi ⟨rfl,rfl⟩) ?_ (st:=λ_=>iZ _ _ _ _);intro t k1 v w1 H q V
   cases V
   rw[sK h2]at q
   cases q
   have H:=H.box (D:=#[Nv (tk (ja s 0) k).aD,Nv (tk (ja s 0) k).t9,Sv (tk (ja s 0) k).text]) (t:=71);clear c f z;have⟨c,f,z⟩:=H.sx.bx;go_wp2_with fail;clear c f z;refine(H.re<|Gh (dw (ja s 0) (aJ (ja s 0) p q sort) sort (ja s 0).length<|.mk 2 (tk (ja s 0) k).text 0 [] (tk (ja s 0) k).aD (aR (ja s 0)<|k+1) (tk (ja s 0) k).aD)<|k+1).call (aba hT (by first|exact .inl ⟨rfl,rfl,rfl⟩|exact .inr ⟨rfl,rfl,rfl⟩) hI mv lts (λw k' S l=>uh D w k' S ae) H.sx _ _ _ _) ?_ (mv:=Ks mv);intro a k2 v w3 H q V;have⟨L',hL'⟩:=qZ _ _ _ _ _ q;subst hL';obtain⟨va,L,vc,rfl⟩:=V.sl;clear V q;have⟨⟨_,c3,f3,z3⟩,_⟩:=H.p
   go_wp2
   go_region_with(go_at_call 192;refine H.drew.since ?_;intro w4 H;have⟨⟨_,c4,f4,z4⟩,_⟩:=H.p)
   all_goals(
    go_wp2
    go_ret;refine H.done ?_;rintro⟨_,L1,fr,tz,at_,e,V⟩;injection e with _ _ _ e3 e4 e5 e6;subst e3 e4 e5 e6
    exact mk (ho.v2 h2) hin V))
 .rw[show((tk (ja s 0) k).kind==2)=false by simp[h2]]at hku;have HE:iM (ja s 0) (aJ (ja s 0) p q sort) sort k=(aJ (ja s 0) p q sort) k:=by unfold iM;rw[if_neg<|by simp[h2]]
  rw[HE];obtain⟨rfl,rfl,vE⟩|⟨rfl,rfl,rfl⟩:=hF
  all_goals(
   first
   |go_enter func200,ntmps200
   |go_enter func221,ntmps221
   go_wp2_with fail;refine(agl (by first|exact .inl ⟨rfl,rfl⟩|exact .inr<|.inl ⟨rfl,rfl⟩) hI h<|uh D _ _ h<|br _).mono ?_;intro e w1 hp
   cases hA:fin (ja s 0) ((aJ (ja s 0) p q sort) k)with
   |error f'=>
    exact SS
   |ok r=>
   obtain⟨a,k2⟩:=r;obtain⟨v,rfl,_,_,hR⟩:=hp.ok hA;obtain⟨tv,xv,rfl⟩:=hI hR
   go_wp2
   go_ret
   exact hp)
end
abbrev DA s n:=aJ (ja s 0) (iz (ja s 0) n) (iz (ja s 0) n) 1
def RowV.pt{L}{v}{t a}(hu:m0 nm)(hy:y=a+nm.size)(h:RowV (Q1 PT) 1 w P L v):PT w P (.mk 2 nm 0 L f t a) (.iface 299<|.agg #[Nv f,Nv t,Nv a,Nv y,.string nm,v]):=by
 obtain⟨va,vc,cs,rfl,aE,hr⟩:=h;exact .up nm 0 L f t a _ _ _ _ va vc (λi=>cs i 0) hu (aE.imp id λ⟨g,h1,h2,h3,h4⟩=>⟨g,h1,h2,h3,λi hi=>by simpa using h4 i hi 0 aA⟩) hr rfl (by rw[hy])
def abd s n:=∀(w:World)(N rb sb:Nat)(m:MV)(k:Nat),SX w N rb sb m s k->(ja s 0).length<=k+n->Cq 199 #[rp rb] w (ap PT N rb sb m s (iz (ja s 0) n k) w)
section
variable {m:MV}
def Kt(hs:s.size<=1000)(IH:abd s n)(h:SX w N rb sb m s k)(hn:(ja s 0).length<=k+1+n)(ho:aU (tk (ja s 0) k) gG=true):Cq 159 #[rp rb] w (ap PT N rb sb m s (DA s n k) w):=by
 have X_:=gW;have hf2:=jT;refine cD.An h (uN ho) λH=>?_;go_enter func159,ntmps159;go_wp2_with fail;refine H.take ?_;intro w1 H;go_wp2_with fail;refine(H.re (g':=aX (iz (Pu.bG s 0) n)<|jU (Pu.bG s 0) (iz (Pu.bG s 0) n) (iz (Pu.bG s 0) n) 1 (tk (Pu.bG s 0) k).aD) (by rw[fE];rw[if_neg ah])).call (IH _ _ _ _ _ _ H.sx ae) ?_;intro a k2 v w2 H q V;obtain⟨t2,x2,rfl⟩:=V.iface;have l2:=cZ (T:=(Pu.bG s 0)) n _ _ _ q;go_wp2_with fail
 cases hm:aU (tk (ja s 0) k2) fy
 .exact SV
 .refine(H.re<|oJ hm).Gd hm ?_;intro w3 H;go_wp2_with fail;refine H.call (IH _ _ _ _ _ _ H.sx ae) ?_;intro b k4 v w4 H q V;obtain⟨t4,x4,rfl⟩:=V.iface;go_wp2_with fail;refine H.take ?_;intro w5 H;go_wp2_with fail;refine H.since ?_;intro w6 H
  go_wp2
  go_ret;exact H.done λ⟨⟨_,A⟩,B⟩=>.pr _ _ _ _ _ _ _ _ _ _ _ A B
def ak4(hs:s.size<=1000)(IH:abd s n)(h:SX w N rb sb m s k)(hn:(ja s 0).length<=k+1+n):Tab N rb sb m s PT (DA s n) 1 sb w k:=by
 have ho:=eH s k h.lt;have ht:=sG s k h.lt;refine⟨smL rb,h.ev.sm,?_⟩
 cases hb:aF (tk (ja s 0) k) 1
 .exact .inr ⟨rfl,aaW ho h.ok hb⟩
 .refine .inl ⟨rfl,.inl ⟨_,aex ho h.ok hb,aaV _,λW hW=>?_⟩⟩;have h:=h.af hW;rw[fid];by_cases h3:(tk (ja s 0) k).kind=3
  .rw[if_pos h3,show DA s n k=_ from wo (qh h3)];refine(Wk h.rd hs ht h3 ho).mono λe w' q=>q.x h ae ?_;rw[show dG (tk (ja s 0) k)=.mk 16 (tk (ja s 0) k).text 0 [] (tk (ja s 0) k).aD (tk (ja s 0) k).t9 (tk (ja s 0) k).aD by rw[dG,bY,mO];simp[h3]];exact .var _ _ _ _ _ _ _ (ho.v3 h3) rfl (by rw[agh s k h.lt])
  rw[if_neg h3];by_cases h2:(tk (ja s 0) k).kind=2
  .rw[if_pos h2,show DA s n k=_ from wo (qi h2)];refine(OU h.rd hs ht h2).mono λe w' q=>q.x h ae ?_;rw[show dG (tk (ja s 0) k)=.mk 2 (tk (ja s 0) k).text 0 [] (tk (ja s 0) k).aD (tk (ja s 0) k).t9 (tk (ja s 0) k).aD by rw[dG,bY,mO];simp[h2]];exact .up _ _ [] _ _ _ _ _ _ _ none 0 (λ_=>Zv) (ho.v2 h2) (qh rfl) (λi hi=>by simp at hi) rfl (by rw[agh s k h.lt])
  rw[if_neg h2];rw[uH ho]at hb;exact Kt hs IH h hn (by simpa[h2,h3]using hb)
def Pd(hs:s.size<=1000)(hT:(ja s 0).length<=1001)(IH:abd s n):abd s (n+1):=by
 intro w N rb sb m k h hn;have sl:mx (DA s n):=cC (cZ (T:=(Pu.bG s 0)) n) (cZ n) 1;refine cD.An (mm:=iM (Pu.bG s 0) (DA s n) 1) (g:=qT (Pu.bG s 0) (iz (Pu.bG s 0) n) (tk (Pu.bG s 0) k).aD) h rfl λH=>?_;have⟨c,f,z⟩:=h.bx;go_enter func199,ntmps199;go_wp2_with fail;refine H.call (abb (R:=PT) hs hT (.inr ⟨rfl,rfl,rfl⟩) PT.iface (λ_ _ _ _ _ _ h a b c=>h.move a b c) sl (λw k' S l=>ak4 hs IH S ae) h RowV.pt) ?_ (st:=λa=>wu _ _ _ a);intro a k2 v w1 H q V;obtain⟨tv,xv,rfl⟩:=V.iface;have l2:=uO sl 1 _ _ _ q;clear V q;go_wp2_with fail
 cases hc:aU (tk (ja s 0) k2) Ap
 .refine H.Ge hc ?_;have H:=H.re (g':=λk=>.ok (a,k)) (by rw[qT];rw[hc];rfl)
  go_wp2
  go_ret;exact H.done λh=>h.2
 .refine(H.re (g':=aX pZ λ_=>aX (iz (ja s 0) n) λb k'=>.ok (.mk 17 ph 0 [a,b] (tk (ja s 0) k).aD (aR (ja s 0) k') (tk (ja s 0) k).aD,k')) (by rw[qT];rw[if_pos hc];rfl)).Gd hc ?_;intro w3 H;go_wp2_with fail;refine H.call (IH _ _ _ _ _ _ H.sx ae) ?_;intro b k4 v w4 H q V;obtain⟨t4,x4,rfl⟩:=V.iface;go_wp2_with fail;refine H.since ?_;intro w5 H
  go_wp2
  go_ret;exact H.done λ⟨⟨_,A⟩,B⟩=>.fn _ _ _ _ _ _ _ _ _ _ _ A B
def abe(hs:s.size<=1000)(hT:(ja s 0).length<=1001):∀n,abd s n
 |0=>λw N rb sb m k h hn=>by have:=h.lt;omega|n+1=>Pd hs hT<|abe hs hT n
def aeH(hs:s.size<=1000)(hT:(ja s 0).length<=1001)(h:SX w N rb sb m s k)(hn:(ja s 0).length<=k+n):Cq 199 #[rp rb] w (ap PT N rb sb m s (iz (ja s 0) n k) w):=abe hs hT n _ _ _ _ _ _ h hn
end
abbrev smP s n:=aJ (ja s 0) (b_ (ja s 0) n) (jW<|ja s 0) 2
section
variable {m:MV}
def SX.plain(h:SX w N rb sb m s k){b}(hb:m.d=Mv b):∃x,Bx w x #[rp rb]/\MS j8 w b (qU rb x):=by
 have⟨x,hx,b',e,_,_,hM⟩:=h.ev.mp.pl;rw[hb]at e
 cases e
 exact⟨x,hx.2.2,hM⟩
def am8(hs:s.size<=1000)(IH:Ci s n)(h:SX w N rb sb m s k)(hn:(ja s 0).length<=k+1+n){b}(hb:m.d=Mv b):Tab N rb sb m s PP (smP s n) 2 b w k:=by
 have⟨x,hx,hM⟩:=h.plain hb;refine⟨_,hM,?_⟩
 cases hc:aF (tk (ja s 0) k) 2
 .exact .inr ⟨rfl,aa_ h hc x⟩
 .exact .inl ⟨rfl,(Wt hs IH h hn hc hx).imp id λ⟨f,h⟩=>⟨f,x,h⟩⟩
end
section
variable {m:MV}
def SX.md(h:SX w N rb sb m s k):∃b,m.d=Mv b:=by
 have⟨x,_,b,e,_⟩:=h.ev.mp.pl;exact⟨b,e⟩
def RowV.up{P}{L}{v}(h:RowV (Q1 PP) 1 w P L v)s n f t a y(hu:m0 s)(hy:y=a+s.size):PP w P (.mk 2 s n L f t a) (.iface 185<|.agg #[Nv f,Nv t,Nv a,Nv y,.string s,v]):=by
 obtain⟨va,vc,cs,rfl,aE,hr⟩:=h;refine .up s n L f t a y va vc (λi=>cs i 0) hu hy ?_ hr;obtain h0|⟨g,h1,h2,h3,h4⟩:=aE
 .exact qh h0
 .grind
def Gk(hs:s.size<=1000)(hT:(ja s 0).length<=1001)(IH:Ci s n):Ci s (n+1):=by
 intro w N rb sb m k h hn;have⟨b,hb⟩:=h.md;exact abb (R:=PP) hs hT (.inl ⟨rfl,rfl,hb⟩) PP.iface (λ_ _ _ _ _ _ h a b c=>h.move a b c) (cC (oK (T:=(ja s 0)) n) mS 2) (λw k' S l=>am8 hs IH S ae hb) h λhu hy h=>h.up _ _ _ _ _ _ hu hy
def DB(hs:s.size<=1000)(hT:(ja s 0).length<=1001):∀n,Ci s n
 |0=>λw N rb sb m k h hn=>by have:=h.lt;omega|n+1=>Gk hs hT<|DB hs hT n
end
section
variable {m:MV}
def aeI{n}(hs:s.size<=1000)(hT:(ja s 0).length<=1001)(IH:eW s n)(h:SX w N rb sb m s k)(hn:(ja s 0).length<=k+1+n)(ho:aU (tk (ja s 0) k) gG=true):
 Cq 149 #[rp rb] w (ap PE N rb sb m s (aJ (ja s 0) (bu (ja s 0) n) (iz (ja s 0) n) 3 k) w):=by
 have X_:=gW;have hf2:=jT;refine cD.An h (uN ho) λH=>?_;go_enter func149,ntmps149;go_wp2_with fail;refine H.take ?_;intro w1 H;go_wp2_with fail
 cases hc:aU (tk (ja s 0)<|k+1) dJ
 .refine H.Ge hc ?_;go_wp2_with fail;refine(H.re<|Am hc).expr IH ?_;intro a k2 t2 x2 w2 H l2;go_wp2_with fail
  cases hm:aU (tk (ja s 0) k2) fy
  .refine H.Ge hm ?_;go_wp2_with fail
   cases hl:aU (tk (ja s 0) k2) Gb
   .refine H.Ge hl ?_;go_wp2_with fail;refine(H.re<|wE hm λ_=>hl).take ?_;intro w5 H
    go_wp2
    go_ret;exact H.done λ⟨_,A⟩=>A
   .refine(H.re<|Km hm hl).Gd hl ?_;intro w3 H;go_wp2_with fail;refine H.call (aeH hs hT H.sx ae) ?_;intro b k4 v4 w4 H _ V;obtain⟨t4,x4,rfl⟩:=V.iface;go_wp2_with fail;refine H.take ?_;intro w5 H;go_wp2_with fail;refine H.since ?_;intro w6 H
    go_wp2
    go_ret;exact H.done λ⟨⟨_,A⟩,B⟩=>.of _ _ _ _ _ _ _ _ _ A B
  .refine(H.re<|oJ hm).Gd hm ?_;intro w3 H;go_wp2_with fail;refine H.expr IH ?_;exact S7
 .exact S8
def Ku(hs:s.size<=1000)(hT:(ja s 0).length<=1001)(IH:eW s n)(h:SX w N rb sb m s k)(hn:(ja s 0).length<=k+1+n)(hb:aF (tk (ja s 0) k) 3=true){x:Nat}(hx:Bx w x #[rp rb]):
 (∃f,bd (aq<|tk (ja s 0) k) (sI rb x)=some (oq f rb)/\(∀args w,(callFunc f args).run j6 w=.ok (.enter f args) w)/\∀W,Bq w W->Cq f #[rp rb] W (ap PE N rb sb m s (aJ (ja s 0) (bu (ja s 0) n) (iz (ja s 0) n) 3 k) W))\/
 (∃f,bd (aq<|tk (ja s 0) k) (sI rb x)=some (mA f x)/\(∀args w,(callFunc f args).run j6 w=.ok (.enter f args) w)/\∀W,Bq w W->Cq f #[Pv x] W (ap PE N rb sb m s (aJ (ja s 0) (bu (ja s 0) n) (iz (ja s 0) n) 3 k) W)):=by
 have ho:=eH s k h.lt;obtain hk|hk|hk|hk|hk|⟨h9,hk⟩|hk:=sS ho aA hb
 .refine qi ⟨141,by rw[iW hk];rfl,λ_ _=>qkr,?_⟩;rw[ch hb<|pu ae _];exact λW hW=>(aa7 (h.af hW) hs hk x<|hx.below hW).1
 .refine qh ⟨143,by rw[ie hk];rfl,λ_ _=>qkr,?_⟩;rw[ch hb<|pu ae _];exact λW hW=>(agj (h.af hW) hs hk).1
 .refine qi ⟨144,by rw[iX hk];rfl,λ_ _=>qkr,?_⟩;rw[ch hb<|pu ae _];exact λW hW=>(aa8 (h.af hW) hs hk x<|hx.below hW).1
 .refine qi ⟨146,qBk,λ_ _=>qkr,?_⟩;rw[ch hb<|sT hk qAp];exact λW hW=>(yq (h.af hW) hs (qh hk) x<|hx.below hW).1
 .refine qi ⟨148,qBk,λ_ _=>qkr,?_⟩;rw[ch hb<|sT hk qAp];exact λW hW=>(yq (h.af hW) hs (qi hk) x<|hx.below hW).2.1
 .omega
 .refine qh ⟨149,qBk,λ_ _=>qkr,λW hW=>aeI hs hT IH (h.af hW) hn hk⟩
def S9(h:SX w N rb sb m s k)(hb:aF (tk (ja s 0) k) 3=false)x:bd (aq<|tk (ja s 0) k) (sI rb x)=none:=by
 have ho:=eH s k h.lt;have⟨n1,n2,n4,nt,nf,na,no⟩:=wF aA hb;obtain h'|h'|h'|h'|h'|h'|h':=ho.kd
 .exact absurd h' n1
 .exact absurd h' n2
 .rw[ig h'];rfl
 .exact absurd h' n4
 .rw[po h'];have hz:=ho.s5 h';have tK:∀c:BA,5<c.size->c≠(tk (ja s 0) k).text:=λc hc e=>by rw[e]at hc;omega
  refine Gf λp hp=>?_;simp only[sI,qy,qx,or_false]at hp;obtain rfl|rfl|rfl|rfl|rfl|rfl:=hp
  .exact tK FX aA
  .exact tK J6 aA
  .exact tK OX aA
  .exact qY h' nt
  .exact qY h' nf
  .exact qY h' no
 .exact absurd h' h.ok
 .rw[iY h'];rfl
def am9(hs:s.size<=1000)(hT:(ja s 0).length<=1001)(IH:eW s n)(h:SX w N rb sb m s k)(hn:(ja s 0).length<=k+1+n){b x:Nat}(hM:MS j8 w b (sI rb x))(hx:Bx w x #[rp rb]):Tab N rb sb m s PE (aJ (ja s 0) (bu (ja s 0) n) (iz (ja s 0) n) 3) 3 b w k:=by
 refine⟨_,hM,?_⟩
 cases hc:aF (tk (ja s 0) k) 3
 .exact .inr ⟨rfl,S9 h hc x⟩
 .exact .inl ⟨rfl,(Ku hs hT IH h hn hc hx).imp id λ⟨f,h⟩=>⟨f,x,h⟩⟩
def Wv(hs:s.size<=1000)(hT:(ja s 0).length<=1001)(IH:eW s n)(h:SX w N rb sb m s k)(hn:(ja s 0).length<=k+1+n){b x:Nat}(hM:MS j8 w b (sI rb x))(hx:Bx w x #[rp rb]):
 Cq 203 #[rp rb,Mv b] w (ap PE N rb sb m s (aJ (ja s 0) (bu (ja s 0) n) (iz (ja s 0) n) 3 k) w):=agl (.inr<|.inr ⟨rfl,rfl⟩) PE.iface h<|am9 hs hT IH h hn hM hx
def SX.atom(h:SX w N rb sb m s k){b:Nat}(hb:m.c=Mv b):∃x,Bx w x #[rp rb]/\MS j8 w b (sI rb x):=by
 have⟨x,hx,b',e,_,_,hM⟩:=h.ev.mp.at_;rw[hb]at e
 cases e
 exact⟨x,hx.2.2,hM⟩
def SX.mc(h:SX w N rb sb m s k):∃b,m.c=Mv b:=by
 have⟨x,_,b,e,_⟩:=h.ev.mp.at_;exact⟨b,e⟩
end
abbrev yr s n:=aJ (ja s 0) (bu (ja s 0) n) (iz (ja s 0) n) 3
def S_ N rb sb m s k w r(g:Nat->Nd->M Nd)gk v wr:=
 ∃(kr:Nat)(nd:Nd)(f:Nat),cD N rb sb m s r w rb #[] (g f nd) (λw'=>PE w' (λb=>w.heap.size<=b) nd v) kr wr/\Hid (gk=(ja s 0).length-kr)/\k<kr/\(ja s 0).length<=kr+f
def below_drewN w q:Below n w (w.drewN q):=⟨rfl,rfl,rfl,br _,λ_ _=>rfl⟩
def abf{fr:Nat}{x:Nd}(h:aF (tk T k) 3=true):iN T sm fr (f+1) x k=aX sm (λy k'=>iN T sm fr f (.mk 8 ph 0 [x,y] fr (aR T k') fr) k') k:=by
 show(if aF (tk T k) 3=true then _ else _)=_;rw[if_pos h]
def Ww{fr:Nat}{x:Nd}(h:aF (tk T k) 3=false):iN T sm fr f x k=.ok (x,k):=by
 cases f with
 |zero=>rfl|succ f=>unfold iN;rw[h];rfl
section
variable {m:MV}
def aim(hs:s.size<=1000)(hT:(ja s 0).length<=1001)(IH:eW s n)(h:SX w N rb sb m s k)(hn:(ja s 0).length<=k+1+n):
 Cq 163 #[rp rb] w (ap PE N rb sb m s (cY (ja s 0) (yr s n) k) w):=by
 have⟨b,hmc⟩:=h.mc;have⟨x,hx,hM⟩:=h.atom hmc;obtain⟨r,hr⟩:∃r,r=cY (Pu.bG s 0) (yr s n) k:=⟨_,rfl⟩;rw[<-hr];refine cD.An (g:=iN (Pu.bG s 0) (yr s n) (tk (Pu.bG s 0) k).aD (Pu.bG s 0).length) h hr λH=>?_;clear hr;have⟨c,ff,z⟩:=h.bx;go_enter func163,ntmps163;go_wp2_with fail;refine H.call (Wv hs hT IH h hn hM hx) ?_;intro a k1 v0 w1 H q V;obtain⟨t0,x0,rfl⟩:=V.iface;have l1:=cC (uP (T:=(Pu.bG s 0)) n) (cZ n) 3 _ _ _ q;clear hx hM c ff z V q
 go_wp2
 go_loopg[4] ((ja s 0).length-k1) (λgk v wr=>S_ N rb sb m s k w r (λf nd=>iN (ja s 0) (yr s n) (tk (ja s 0) k).aD f nd) gk v wr)
 case atStart=>exact⟨k1,a,_,H.imp λ_ h=>h.2,ai rfl,l1,ae⟩
 case round=>
  clear H;obtain⟨kr,nd,f,H,bE,hle,hfu⟩:=hrel;have⟨x,hx,hM⟩:=H.sx.atom hmc;have hl:=λq=>dY (hM.same (w':=wr.drewN q) rfl) Tryz.underlying241 (sU _)<|aq<|tk (ja s 0) kr;have BS:=dY hM Tryz.underlying241 (sU _)<|aq<|tk (ja s 0) kr;have hkr:=H.sx.lt;obtain⟨tv,xv,rfl⟩:=H.p.iface;have⟨c,ff,z⟩:=H.sx.bx
  cases hb:aF (tk (ja s 0) kr) 3
  .simp only[S9 H.sx hb x,kO]at hl BS
   go_wp2
   go_quiet(fail)
   go_wp2
   go_ret;exact(H.af<|below_drewN _ nq).done id (Ww hb)
  .obtain⟨f,rfl⟩:∃f',f=f'+1:=⟨f-1,ae⟩;obtain⟨F,hg,IR,HC⟩|⟨F,hg,IR,HC⟩:=Ku hs hT IH H.sx ae hb hx
   all_goals(
    simp only[hg,kO]at hl BS;clear hg
    go_wp2
    go_quiet(fail);go_wp2_with fail;refine((H.af<|below_drewN _ nq).re<|abf hb).call (HC _<|below_drewN _ nq) ?_;intro a k2 v1 w1 H q V;obtain⟨t1,x1,rfl⟩:=V.iface;have l2:=cC (uP (T:=(ja s 0)) n) (cZ n) 3 _ _ _ q;clear HC IR c ff z hl BS hM hx V q;go_wp2_with fail;refine H.since ?_;intro w2 H
    go_wp2
    go_roundg((ja s 0).length-k2)
    case measure=>rw[uh bE];omega
    case rel=>exact⟨k2,_,f,(H.re rfl).imp λ_ h=>PE.call _ _ _ _ _ _ _ _ _ h.1 h.2,ai rfl,ae,ae⟩)
end
def opM(T:List jc)(sub:M Nd)(op:BA)(fr:Nat)(x:Nd):M Nd:=λk=>aX sub (λy k'=>.ok (.mk 7 op 0 [x,y] fr (aR T k') fr,k'))<|k+1
def ain{sub}{op}{fr:Nat}{x:Nd}:opM T sub op fr x k=aX pZ (λ_=>aX sub<|λy k'=>.ok (.mk 7 op 0 [x,y] fr (aR T k') fr,k')) k:=rfl
def abg{sub}{fr:Nat}{x:Nd}(h:aU (tk T k) il=true):lX T sub fr (f+1) x k=aX (opM T sub il fr x) (lX T sub fr f) k:=by
 show(if aU (tk T k) il=true then _ else _)=_;rw[if_pos h];unfold opM aX;dsimp only
 cases sub (k+1)<;>rfl
def Wx{sub}{fr:Nat}{x:Nd}(h:aU (tk T k) il=false):lX T sub fr f x k=.ok (x,k):=by
 cases f with
 |zero=>rfl|succ f=>unfold lX;rw[h];rfl
def Ta{sub}{fr:Nat}{x:Nd}(h:aU (tk T k) jI=true\/aU (tk T k) fs=true):uM T sub fr (f+1) x k=aX (opM T sub (tk T k).text fr x) (uM T sub fr f) k:=by
 show(if aU (tk T k) jI=true\/aU (tk T k) fs=true then _ else _)=_;rw[if_pos h];unfold opM aX;dsimp only
 cases sub (k+1)<;>rfl
def abh{sub}{fr:Nat}{x:Nd}(h:aU (tk T k) jI=false)(h':aU (tk T k) fs=false):uM T sub fr f x k=.ok (x,k):=by
 cases f with
 |zero=>rfl|succ f=>unfold uM;rw[h,h'];rfl
def yt(h:aU t c=true):t.text=c:=by grind[aU,agk]
def PEo(P:Nat->Prop)w(Q:Nat->Prop)a v:=PE w (λb=>P b\/Q b) a v
def aio a b c d w:(qn 237 (.agg #[a,b,c,d]) 2).run j6 w=.ok d w:=qkr
section
variable {m:MV}
def Pe s n F(sub:M Nd):=∀(w:World)(N rb sb:Nat)(m:MV)(k:Nat),SX w N rb sb m s k->(ja s 0).length<=k+1+n->Cq F #[rp rb] w (ap PE N rb sb m s (sub k) w)
def ak5{sub}(hs:s.size<=1000)(HF:Pe s n F sub)(IR:∀args w,(callFunc F args).run j6 w=.ok (.enter F args) w)(lF:aO (ja s 0) sub)(h:SX w N rb sb m s k)(hn:(ja s 0).length<=k+1+n)(tI:(tk (ja s 0) k).text=jI\/(tk (ja s 0) k).text=fs\/(tk (ja s 0) k).text=il\/(tk (ja s 0) k).text=ik)(h7:(tk (ja s 0) k).kind≠7)fr{x}(hx:gO w N rb x #[rp rb])(hy:gO w N rb y #[oq F rb])(hP:∀b,P b->b≠rb){v}(hv:PE w P nd v):
 Cq 201 #[Nv fr,v,Pv x,Pv y] w (ap (PEo P) N rb sb m s (opM (ja s 0) sub (tk (ja s 0) k).text fr nd k) w):=by
 have hf2:=aio;obtain⟨tv,xv,rfl⟩:=hv.iface;refine cD.An h ain λH=>?_;have H:=((H.add λw' a q=>hx.2.2.same a<|q x hx.2.2.z hx.2.1 hx.2.1).add λw' a q=>hy.2.2.same a<|q y hy.2.2.z hy.2.1 hy.2.1).add λw' a q=>hv.move a (λb p z=>q b z (hP b p)<|hP b p) λ_ p _=>p;clear hx hy hv;have⟨⟨⟨_,c0,f0,z0⟩,c1,f1,z1⟩,_⟩:=H.p;go_enter func201,ntmps201;go_wp2_with fail;refine H.call (aa5 h hs h7) ?_;intro _ _ _ w1 H q V
 cases V
 cases q
 have⟨⟨⟨⟨_,c0,f0,z0⟩,c1,f1,z1⟩,_⟩,_⟩:=H.p;go_wp2_with fail;refine H.call (HF _ _ _ _ _ _ H.sx ae) ?_;intro a k2 v2 w2 H q V;obtain⟨t2,x2,rfl⟩:=V.iface;clear V q;have⟨⟨⟨⟨⟨_,c0,f0,z0⟩,_⟩,_⟩,_⟩,_⟩:=H.p;go_wp2_with fail;refine H.since ?_;intro w3 H
 go_wp2
 go_ret;exact H.done λ⟨⟨⟨_,A⟩,_⟩,B⟩=>.op _ _ _ _ _ _ _ _ _ tI (A.wide λb p=>qh p)<|B.wide λb p=>qi p
def cD.op{sub}{op}{fr}{nd}{r}{w0}{C}{P}{g}{f}{args}{post}(H:cD N rb sb m s r w0 rb C (aX (opM (ja s 0) sub op fr nd) g) P k w)(Aq:mx sub)(hC:Cq f args w (ap (PEo<|λb=>w0.heap.size<=b) N rb sb m s (opM (ja s 0) sub op fr nd k) w))(ok:∀a k' t x w',cD N rb sb m s r w0 rb C (g a) (λw'=>PE w' (λb=>w0.heap.size<=b) a<|.iface t<|.agg x) k' w'->k<k'->post (.returned<|.iface t<|.agg x) w')(st:∀a,aO (ja s 0)<|g a:=by exact Yv)(bad:∀f' w',ap PE N rb sb m s r w0 (bK f') w'->post (bK f') w':=by exact λ_ _ h=>⟨rfl,h⟩):Cq f args w post:=
 hC.mono λe w' hp=>by
  cases hA:fin (ja s 0) (opM (ja s 0) sub op fr nd k)with
  |error f=>obtain⟨rfl,h⟩:=H.lost hp hA st;exact bad _ _ h
  |ok p=>
   obtain⟨a,j⟩:=p;obtain⟨v,rfl,hb,S,V⟩:=hp.ok hA;obtain⟨t,x,rfl⟩:=PE.iface V;refine ok _ _ t x w' (((H.mv hb S<|H.eq.trans<|mM hA).add λw2 a1 b1=>PE.move V a1 (λb p z=>?_) λb p _=>p.elim id λp=>jt H.ke.size p).imp λ_ h=>h.2) ?_
   .have h1:w0.heap.size<=b:=p.elim id λp=>jt H.ke.size p;have:=H.rz.1;exact b1 b z ae ae
   .have⟨_,j,h1,h2⟩:=au (m:=sub) (k:=k+1) (uI hA).1
    cases h2
    have:=Aq _ _ _ h1;omega
def sW(ho:gi t)(h6:t.kind≠6)(hL:∀p∈L,p.1.size<=5/\aU t p.1=false):bd (aq t) L=none:=by grind[aU,bd,aq,Gf,sJ]
def Pf w:(zeroValue 317).run j6 w=.ok .nilFunc w:=qkr
def Ar{b:Nat}{sub}{g:Nat->Nd->M Nd}(hs:s.size<=1000)(HF:Pe s n F sub)(hcF:∀args w,(callFunc F args).run j6 w=.ok (.enter F args) w)(lF:aO (ja s 0) sub)(Aq:mx sub)(hg:∀f a,aO (ja s 0)<|g f a)(h:SX w N rb sb m s k)(hn:(ja s 0).length<=k+1+n)(hr:r=aX sub (g (ja s 0).length) k)(D:∀w k',SX w N rb sb m s k'->∃L,MS j8 w b L/\((∃x y,gO w N rb x #[rp rb]/\gO w N rb y #[oq F rb]/\bd (aq<|tk (ja s 0) k') L=some (Wl x y)/\(∃c,aU (tk (ja s 0) k') c=true/\(c=jI\/c=fs\/c=il\/c=ik))/\∀f a,g (f+1) a k'=aX (opM (ja s 0) sub (tk (ja s 0) k').text (tk (ja s 0) k).aD a) (g f) k')\/bd (aq<|tk (ja s 0) k') L=none/\∀f a,g f a k'=.ok (a,k'))):
 Cq 202 #[rp rb,oq F rb,Mv b] w (ap PE N rb sb m s r w):=by
 have hcO:∀args w,(callFunc 201 args).run j6 w=.ok (.enter 201 args) w:=λ_ _=>qkr
 replace D:=ai D
 refine cD.An h hr λH=>?_;clear hr;have⟨c,ff,z⟩:=h.bx;go_enter func202,ntmps202;go_wp2_with fail;refine H.call (HF _ _ _ _ _ _ h hn) ?_ (st:=hg _);intro a k1 v0 w1 H q V;obtain⟨t0,x0,rfl⟩:=V.iface;have l1:=Aq _ _ _ q;clear c ff z V q
 go_wp2
 go_loopg[8] ((ja s 0).length-k1) (λgk v wr=>S_ N rb sb m s k w r g gk v wr)
 case atStart=>exact⟨k1,a,_,H.imp λ_ h=>h.2,ai rfl,l1,ae⟩
 case round=>
  clear H;obtain⟨kr,nd,f,H,bE,hle,hfu⟩:=hrel;have⟨L,hM,Y⟩:=uh D _ _ H.sx;have hl:=dY hM Tryz.underlying244 (Pf _)<|aq<|tk (ja s 0) kr;have hkr:=H.sx.lt;obtain⟨tv,xv,rfl⟩:=H.p.iface;have⟨c,ff,z⟩:=H.sx.bx;obtain⟨x,y,bx,yb,hq,⟨o,ho,hO⟩,E⟩|⟨hq,E⟩:=Y
  .obtain⟨f,rfl⟩:∃f',f=f'+1:=⟨f-1,ae⟩;simp only[hq,kO]at hl;have HC:=ak5 hs HF hcF lF H.sx ae (by rw[yt ho];exact hO) (Kf ho) (tk (ja s 0) k).aD bx yb (P:=λb=>w.heap.size<=b) (λb p=>by have p':w.heap.size<=b:=p;have:=H.rz.1;omega) H.p;have H:=H.re<|E f nd;clear E ho hO;go_wp2_with fail;refine H.op Aq HC ?_ (st:=hg _);intro a k2 t x w1 H l2;clear HC bx yb c ff z hl hM hq
   go_wp2
   go_roundg((ja s 0).length-k2)
   case measure=>rw[uh bE];omega
   case rel=>exact⟨k2,_,f,H,ai rfl,ae,ae⟩
  .simp only[hq,kO]at hl;have H:=H.re (g':=λk=>.ok (nd,k))<|E f nd;clear E
   go_wp2
   go_ret;exact H.done id
def Pg{n}(hs:s.size<=1000)(hT:(ja s 0).length<=1001)(HF:Pe s n 163 (cY (ja s 0)<|yr s n))(lF:aO (ja s 0) (cY (ja s 0)<|yr s n))(Aq:mx (cY (ja s 0)<|yr s n))(h:SX w N rb sb m s k)(hn:(ja s 0).length<=k+1+n){b:Nat}(vE:m.h=Mv b):
 Cq 202 #[rp rb,oq 163 rb,Mv b] w (ap PE N rb sb m s (eY (ja s 0) (cY (ja s 0)<|yr s n) k) w):=
 Ar hs HF (λ_ _=>qkr) lF Aq (g:=lX (ja s 0) (cY (ja s 0)<|yr s n) (tk (ja s 0) k).aD) (λf a=>oH _ _ _ _) h hn rfl λw k' S=>by
  have⟨x0,y0,h0,g0,b',e,_,_,hM⟩:=S.ev.mp.pr;rw[vE]at e
  cases e
  refine⟨_,hM,?_⟩
  cases hb:aU (tk (ja s 0) k') il
  .exact .inr ⟨sW (eH s k' S.lt) S.ok (by simp[hb];decide),λ_ _=>Wx hb⟩
  .exact .inl ⟨x0,y0,h0,g0,by rw[gn hb];rfl,⟨_,hb,ah⟩,λf a=>by rw[yt hb];exact abg hb⟩
def Wy{n}(hs:s.size<=1000)(hT:(ja s 0).length<=1001)(HF:Pe s n 162 (eY (ja s 0)<|cY (ja s 0)<|yr s n))(lF:aO (ja s 0) (eY (ja s 0)<|cY (ja s 0)<|yr s n))(Aq:mx (eY (ja s 0)<|cY (ja s 0)<|yr s n))(h:SX w N rb sb m s k)(hn:(ja s 0).length<=k+1+n){b:Nat}(vE:m.g=Mv b):
 Cq 202 #[rp rb,oq 162 rb,Mv b] w (ap PE N rb sb m s (sP (ja s 0) (eY (ja s 0)<|cY (ja s 0)<|yr s n) k) w):=
 Ar hs HF (λ_ _=>qkr) lF Aq (g:=uM (ja s 0) (eY (ja s 0)<|cY (ja s 0)<|yr s n) (tk (ja s 0) k).aD) (λf a=>qW _ _ _ _) h hn rfl λw k' S=>by
  have⟨x0,y0,x1,y1,h0,g0,h1,g1,b',e,_,_,hM⟩:=S.ev.mp.sm;rw[vE]at e
  cases e
  refine⟨_,hM,?_⟩
  cases hb:aU (tk (ja s 0) k') jI
  .cases hc:aU (tk (ja s 0) k') fs
   .exact .inr ⟨sW (eH s k' S.lt) S.ok (by simp[hb,hc];decide),λ_ _=>abh hb hc⟩
   .exact .inl ⟨x1,y1,h1,g1,by rw[gn hc];rfl,⟨_,hc,ah⟩,λf a=>Ta<|.inr hc⟩
  .exact .inl ⟨x0,y0,h0,g0,by rw[gn hb];rfl,⟨_,hb,ah⟩,λf a=>Ta<|.inl hb⟩
def SX.hm(h:SX w N rb sb m s k):∃b,m.h=Mv b:=by
 have⟨x0,y0,h0,g0,b',e,_,_,hM⟩:=h.ev.mp.pr;exact⟨b',e⟩
def SX.gm(h:SX w N rb sb m s k):∃b,m.g=Mv b:=by
 have⟨x0,y0,x1,y1,h0,g0,h1,g1,b',e,_,_,hM⟩:=h.ev.mp.sm;exact⟨b',e⟩
end
section
variable {m:MV}
def Ph:mx (yr s n):=cC (uP n) (cZ n) 3
def As:aO (ja s 0) (yr s n):=mP _ _ _
def aeJ(hs:s.size<=1000)(hT:(ja s 0).length<=1001)(IH:eW s n):Pe s n 163 (cY (ja s 0)<|yr s n):=λw N rb sb m k h hn=>aim hs hT IH h hn
def abj{F1 F2 b}(h:SX w N rb sb m s k)(hF:F1=162/\F2=163/\m.h=Mv b\/F1=161/\F2=162/\m.g=Mv b)(HC:Cq 202 #[rp rb,oq F2 rb,Mv b] w (ap PE N rb sb m s r w)):Cq F1 #[rp rb] w (ap PE N rb sb m s r w):=by
 have⟨c,ff,z⟩:=h.bx;obtain⟨rfl,rfl,vE⟩|⟨rfl,rfl,vE⟩:=hF
 all_goals(
  first
  |go_enter func162,ntmps162
  |go_enter func161,ntmps161
  go_wp2_with fail;refine HC.mono ?_;intro e w1 hp
  cases hA:fin (ja s 0) r with
  |error f'=>
   exact SS
  |ok r=>
  obtain⟨a,k2⟩:=r;obtain⟨v,rfl,_,_,hR⟩:=hp.ok hA;obtain⟨tv,xv,rfl⟩:=hR.iface
  go_wp2
  go_ret
  exact hp)
def Pj(hs:s.size<=1000)(hT:(ja s 0).length<=1001)(IH:eW s n):Pe s n 162 (eY (ja s 0)<|cY (ja s 0)<|yr s n):=by
 intro w N rb sb m k h hn;have⟨b,vE⟩:=h.hm;exact abj h (.inl ⟨rfl,rfl,vE⟩)<|Pg hs hT (aeJ hs hT IH) (mQ As) (sX Ph) h hn vE
def aip(hs:s.size<=1000)(hT:(ja s 0).length<=1001)(IH:eW s n):Pe s n 161 (sP (ja s 0)<|eY (ja s 0)<|cY (ja s 0)<|yr s n):=by
 intro w N rb sb m k h hn;have⟨b,vE⟩:=h.gm;exact abj h (.inr ⟨rfl,rfl,vE⟩)<|Wy hs hT (Pj hs hT IH) (qX<|mQ As) (At<|sX Ph) h hn vE
def Gl(hs:s.size<=1000)(hT:(ja s 0).length<=1001)(IH:eW s n)(h:SX w N rb sb m s k)(hn:(ja s 0).length<=k+1+n):Cq 218 #[rp rb] w (ap PE N rb sb m s (sQ (ja s 0) (sP (ja s 0)<|eY (ja s 0)<|cY (ja s 0)<|yr s n) k) w):=by
 have hcO:∀args w,(callFunc 201 args).run Tryz.prog w=.ok (.enter 201 args) w:=λ_ _=>qkr;have hcF:∀args w,(callFunc 161 args).run Tryz.prog w=.ok (.enter 161 args) w:=λ_ _=>qkr;have HF:=aip (n:=n) hs hT IH;have lF:aO (Pu.bG s 0) (sP (Pu.bG s 0)<|eY (Pu.bG s 0)<|cY (Pu.bG s 0)<|yr s n):=Dz<|qX<|mQ As;have Aq:mx (sP (Pu.bG s 0)<|eY (Pu.bG s 0)<|cY (Pu.bG s 0)<|yr s n):=Tc<|At<|sX Ph;obtain⟨-,-,-,-,b,vE,-⟩:=h.ev.mp.cm;refine cD.An h (aeD _ _) λH=>?_;have⟨c,ff,z⟩:=h.bx;go_enter func218,ntmps218;go_wp2_with fail;refine H.call (HF _ _ _ _ _ _ h hn) ?_ (st:=λa=>wC _ _ _);intro a k1 v0 w1 H q V;have l1:=Aq _ _ _ q;obtain⟨x0,y0,bx0,by0,b',e,-,-,hM⟩:=H.sx.ev.mp.cm;rw[vE]at e
 cases e
 have hl:=λq=>dY (hM.same (w':=w1.drewN q) rfl) Tryz.underlying244 (Pf _)<|aq<|tk (ja s 0) k1;have BS:=dY hM Tryz.underlying244 (Pf _)<|aq<|tk (ja s 0) k1;have hkr:=H.sx.lt;obtain⟨tv,xv,rfl⟩:=V.iface;clear V q;have⟨c,ff,z⟩:=H.sx.bx
 cases hb:aU (tk (ja s 0) k1) ik
 .have H:=H.re (g':=λk=>.ok (a,k)) (by rw[Kl];rw[hb];rfl);simp only[sW (eH s k1 hkr) H.sx.ok (L:=[(ik,Wl x0 y0)]) (by simp[hb];decide),kO]at hl BS
  go_wp2
  go_quiet(fail)
  go_wp2
  go_ret;exact(H.af<|below_drewN _ nq).done λh=>h.2
 .have hg:bd (aq<|tk (ja s 0) k1) [(ik,Wl x0 y0)]=some (Wl x0 y0):=by rw[gn hb];rfl
  simp only[hg,kO]at hl BS;have H:=H.re (g':=aX (opM (ja s 0) (sP (ja s 0)<|eY (ja s 0)<|cY (ja s 0)<|yr s n) (tk (ja s 0) k1).text (tk (ja s 0) k).aD a) λa k=>.ok (a,k)) (by rw[<-Gh,yt hb];rw[Kl];rw[if_pos hb];rfl);have HC:=λq=>ak5 hs HF hcF lF (H.af<|below_drewN _ q).sx ae (by rw[yt hb];simp) (Kf hb) (tk (ja s 0) k).aD (bx0.move (br _) λ_ _ _=>rfl) (by0.move (br _) λ_ _ _=>rfl) (P:=λb=>w.heap.size<=b) (λb p=>by have p':w.heap.size<=b:=p;have:=H.rz.1;omega) (H.af<|below_drewN _ q).p.2
  go_wp2
  go_quiet(fail);go_wp2_with fail;refine(H.af<|below_drewN _ nq).op Aq (HC nq) ?_;intro a k2 t x w1 H _
  go_wp2
  go_ret;exact H.done id
end
section
variable {m:MV}
def q_(hs:s.size<=1000)(IH:eW s n)(h:SX w N rb sb m s k)(hn:(ja s 0).length<=k+1+n):
 Cq 137 #[rp rb] w (ap PE N rb sb m s (uv (ja s 0) (bu (ja s 0) n) k) w):=by
 have X_:=gW;have hf2:=jT;refine cD.An h rfl λH=>?_;go_enter func137,ntmps137;go_wp2_with fail;refine H.take ?_;intro w1 H;go_wp2_with fail;refine H.name ?_;intro t w2 H Ht;go_wp2_with fail;refine H.box.take ?_;intro w3 H;go_wp2_with fail;refine H.expr IH ?_;intro a k4 t4 x4 w4 H l4;have⟨⟨_,c,f,z⟩,_⟩:=H.p
 go_wp2
 go_region_with(go_at_call 192;refine H.drew.since ?_;intro w5 H;have⟨⟨_,c,f,z⟩,_⟩:=H.p)
 all_goals(
  go_wp2
  go_ret
  exact H.done λ⟨_,V⟩=>.fn _ _ _ _ _ _ _ _ Ht.1 Ht.2 V)
def abk(hs:s.size<=1000)(IH:eW s n)(h:SX w N rb sb m s k)(hn:(ja s 0).length<=k+1+n):
 Cq 139 #[rp rb] w (ap PE N rb sb m s (yu (ja s 0) (bu (ja s 0) n) k) w):=by
 have X_:=gW;have hf2:=jT;refine cD.An h rfl λH=>?_;go_enter func139,ntmps139;go_wp2_with fail;refine H.take ?_;intro w1 H;go_wp2_with fail;refine H.expr IH ?_;intro a k2 t2 x2 w2 H l2;go_wp2_with fail;refine H.take ?_;intro w3 H;go_wp2_with fail;refine H.expr IH ?_;intro b k4 t4 x4 w4 H l4;go_wp2_with fail;refine H.take ?_;intro w5 H;go_wp2_with fail;refine H.expr IH ?_;intro c k6 t6 x6 w6 H l6;go_wp2_with fail;refine H.since ?_;intro w7 H
 go_wp2
 go_ret;exact H.done λ⟨⟨⟨_,A⟩,B⟩,C⟩=>.ite _ _ _ _ _ _ _ _ _ _ _ A B C
end
def bindM T e:=λk=>
 if aU (tk T k) abl=true then aX (dd T 1) (λt=>aX (bm T kEq) λ_=>aX (uv T e) λe k'=>.ok ((11,t,e),k')) (k+1)
 else aX (dd T 1) (λt=>aX (bm T kEq) λ_=>aX e λe k'=>.ok ((10,t,e),k')) k
def Wz(h:aU (tk T k) abl=true):bindM T e k=aX pZ (λ_=>aX (dd T 1) λt=>aX (bm T kEq) λ_=>aX (uv T e) λe k'=>.ok ((11,t,e),k')) k:=by rw[bindM];rw[if_pos h];rfl
def Kv(h:aU (tk T k) abl=false):bindM T e k=aX (dd T 1) (λt=>aX (bm T kEq) λ_=>aX e λe k'=>.ok ((10,t,e),k')) k:=by rw[bindM];rw[h];rfl
def Pa e:aO T (bindM T e):=λk h=>by
 rw[Kv<|dX h _];exact bQ (qV T 1 aA k h) λ_ q g=>by
  rw[aX];rw[show bm T kEq q=.error (fD<|tk T q) by rw[bm];rw[dX g];rfl];rfl
def Au w P(b:Nat×jc×Nd)(v:Value):=
 ∃ve,v=.agg #[.bool<|b.1==11,Nv b.2.1.aD,Nv b.2.1.t9,.string b.2.1.text,ve]/\PE w P b.2.2 ve/\(b.1=10\/b.1=11)/\Ch b.2.1.text/\b.2.1.t9=b.2.1.aD+b.2.1.text.size
def Bx.am_{b:Nat}(h:Bx w b C)(hC:C.size=5)v0 v1 v2 v3 v4:Bx (((((w.setCell ⟨b,0,none⟩ v0).setCell ⟨b,1,none⟩ v1).setCell ⟨b,2,none⟩ v2).setCell ⟨b,3,none⟩ v3).setCell ⟨b,4,none⟩ v4) b #[v0,v1,v2,v3,v4]:=by
 obtain⟨a0,a1,a2,a3,a4,rfl⟩:∃a0 a1 a2 a3 a4,C=#[a0,a1,a2,a3,a4]:=by
  obtain⟨l⟩:=C
  match l,hC with
  |[a,b,c,d,e],_=>grind
 exact((((h.aP 0 v0 #[v0,a1,a2,a3,a4] rfl ah).aP 1 v1 #[v0,v1,a2,a3,a4] rfl ah).aP 2 v2 #[v0,v1,v2,a3,a4] rfl ah).aP 3 v3 #[v0,v1,v2,v3,a4] rfl ah).aP 4 v4 #[v0,v1,v2,v3,v4] rfl ah
section
variable {m:MV}
theorem Au.move{w w'}{P Q}{b}{v}(h:Au w P b v)(hs:w.heap.size<=w'.heap.size)(hb:∀b,P b->b<w.heap.size->w'.heap[b]? =w.heap[b]?)(hq:∀b,P b->b<w.heap.size->Q b):Au w' Q b v:=by
 obtain⟨ve,h1,h2,h3⟩:=h;exact⟨ve,h1,h2.move hs hb hq,h3⟩
def Kw{c}{tv}{xv}{g}{P:World->Prop}{r}{bb}(o:w.heap.size≠rb)(hc:(c==11)=bb)(Ht:Hid (Ch t.text/\t.t9=t.aD+t.text.size))(H:cD N rb sb m s r w w.heap.size D g (λw'=>P w'/\PE w' (λb=>w.heap.size<=b) a (.iface tv<|.agg xv)) k' w')(hD:D.size=5)(hg:g k'=.ok ((c,t,a),k'))(h1:c=10\/c=11):∃W,W=(((((w'.setCell ⟨w.heap.size,0,none⟩<|.bool bb).setCell ⟨w.heap.size,1,none⟩<|Nv t.aD).setCell ⟨w.heap.size,2,none⟩<|Nv t.t9).setCell ⟨w.heap.size,3,none⟩<|.string t.text).setCell ⟨w.heap.size,4,none⟩<|.iface tv<|.agg xv)/\
 Bx W w.heap.size #[.bool bb,Nv t.aD,Nv t.t9,.string t.text,.iface tv<|.agg xv]/\ap Au N rb sb m s r w (.returned<|.agg #[.bool bb,Nv t.aD,Nv t.t9,.string t.text,.iface tv<|.agg xv]) W:=by
 have B:=(H.bo o).am_ hD (.bool bb) (Nv t.aD) (Nv t.t9) (Sv t.text)<|Fv tv<|Av xv;subst hc;exact⟨_,rfl,B,(H.put o B<|cO<|cO<|cO<|cO<|cO ⟨rfl,rfl,rfl,rfl,λ_ _=>rfl⟩).done (λV=>⟨_,rfl,V.2,h1,Ht.1,Ht.2⟩) hg⟩
def DC(hs:s.size<=1000)(IH:eW s n)(h:SX w N rb sb m s k)(hn:(ja s 0).length<=k+n):
 Calls j6 193 #[rp rb] w (ap Au N rb sb m s (bindM (ja s 0) (bu (ja s 0) n) k) w):=by
 have X_:=gW;have hf2:=jT;have hcE:∀args w,(callFunc 194 args).run j6 w=.ok (.enter 194 args) w:=λ_ _=>qkr;have hcF:∀args w,(callFunc 137 args).run j6 w=.ok (.enter 137 args) w:=λ_ _=>qkr;have o:w.heap.size≠rb:=by have:=h.z;omega
 cases hc:aU (tk (ja s 0) k) abl
 .refine cD.An h (Kv hc) λH=>?_;go_enter func193,ntmps193;go_wp2_with fail;refine H.own.Ge hc ?_;go_wp2_with fail;refine H.own.name ?_;intro t w2 H Ht;go_wp2_with fail;refine H.box.take ?_;intro w3 H;go_wp2_with fail;have⟨_,c1,f1,z1⟩:=H.p;have⟨c2,f2,z2⟩:=H.bo o
  cases hA:fin (ja s 0) (bu (ja s 0) n<|k+1+1)with
  |error f'=>
   go_region_dies
   all_goals(refine(IH _ _ _ _ _ _ H.drew.sx ae).mono ?_;intro e w5 hp;obtain⟨rfl,hb⟩:=H.drew.lost (R':=Au) hp hA;exact⟨rfl,hb⟩)
  |ok rr=>
  obtain⟨a,k4⟩:=rr;go_region_with(go_at_call 194;refine(IH _ _ _ _ _ _ H.drew.sx ae).mono ?_;intro e w5 hp;obtain⟨v,rfl,H,V⟩:=H.drew.bd hp hA;obtain⟨tv,xv,rfl⟩:=V.iface;have⟨⟨_,c1,f1,z1⟩,_⟩:=H.p;have⟨c2,f2,z2⟩:=H.bo o;clear hp V)
  all_goals(
   go_wp2_with fail;obtain⟨_,rfl,⟨cF,fF,zF⟩,h⟩:=Kw (c:=10) (bb:=false) o rfl Ht H rfl rfl (.inl rfl)
   exact bodyPost_ret (by simp[results,Tryz.results193,go_sem,cF]) rfl h)
 .refine cD.An h (Wz hc) λH=>?_;go_enter func193,ntmps193;go_wp2_with fail;refine H.own.Gd hc ?_;intro w1 H;go_wp2_with fail;refine H.name ?_;intro t w2 H Ht;go_wp2_with fail;refine H.box.take ?_;intro w3 H;go_wp2_with fail;have⟨_,c1,f1,z1⟩:=H.p;have⟨c2,f2,z2⟩:=H.bo o
  cases hA:fin (ja s 0) (uv (ja s 0) (bu (ja s 0) n)<|k+1+1+1)with
  |error f'=>
   go_region_dies
   all_goals(refine(q_ hs IH H.drew.sx ae).mono ?_;intro e w5 hp;obtain⟨rfl,hb⟩:=H.drew.lost (R':=Au) hp hA;exact⟨rfl,hb⟩)
  |ok rr=>
  obtain⟨a,k4⟩:=rr;go_region_with(go_at_call 137;refine(q_ hs IH H.drew.sx ae).mono ?_;intro e w5 hp;obtain⟨v,rfl,H,V⟩:=H.drew.bd hp hA;obtain⟨tv,xv,rfl⟩:=V.iface;have⟨⟨_,c1,f1,z1⟩,_⟩:=H.p;have⟨c2,f2,z2⟩:=H.bo o;clear hp V)
  all_goals(
   go_wp2_with fail;obtain⟨_,rfl,⟨cF,fF,zF⟩,h⟩:=Kw (c:=11) (bb:=true) o rfl Ht H rfl rfl (.inr rfl)
   exact bodyPost_ret (by simp[results,Tryz.results193,go_sem,cF]) rfl h)
end
def lY m(f:α->M β)(g:β->M γ):aX (aX m f) g=aX m λa=>aX (f a) g:=by grind[aX]
def Pk(T:List jc)(t_ expr:M Nd):M (Nd×Nd):=aX t_ λp=>aX (bm T Ap) λ_=>aX expr λe k=>.ok ((p,e),k)
def ak6 w P(a:Nd×Nd)(v:Value):=∃(u1 u2:Int)(vp ve:Value),v=.agg #[Iv u1,Iv u2,vp,ve]/\PP w P a.1 vp/\PE w P a.2 ve
section
def Bx.ak7{b}(h:Bx w b C)(hC:C.size=4)v0 v1 v2 v3:Bx ((((w.setCell ⟨b,0,none⟩ v0).setCell ⟨b,1,none⟩ v1).setCell ⟨b,2,none⟩ v2).setCell ⟨b,3,none⟩ v3) b #[v0,v1,v2,v3]:=by
 obtain⟨a0,a1,a2,a3,rfl⟩:∃a0 a1 a2 a3,C=#[a0,a1,a2,a3]:=by
  obtain⟨l⟩:=C
  match l,hC with
  |[a,b,c,d],_=>grind
 exact(((h.aP 0 v0 #[v0,a1,a2,a3] rfl ah).aP 1 v1 #[v0,v1,a2,a3] rfl ah).aP 2 v2 #[v0,v1,v2,a3] rfl ah).aP 3 v3 #[v0,v1,v2,v3] rfl ah
variable {m:MV}
def abm(hm:mx e):mx (bindM T e):=λk a k' h=>by
 rw[bindM]at h;split at h
 .have⟨_,k2,h3,h4⟩:=au h;have⟨_,k3,h5,h6⟩:=au h4;have⟨_,k4,h7,h8⟩:=au h6
  cases h8
  have:=eC _ _ _ _ h3;have:=bq _ _ _ _ h5;have:=Gm hm _ _ _ h7;omega
 .have⟨_,k2,h3,h4⟩:=au h;have⟨_,k3,h5,h6⟩:=au h4;have⟨_,k4,h7,h8⟩:=au h6
  cases h8
  have:=eC _ _ _ _ h3;have:=bq _ _ _ _ h5;have:=hm _ _ _ h7;omega
def aeK(hs:s.size<=1000)(IH:eW s n)(h:SX w N rb sb m s k)(hn:(ja s 0).length<=k+1+n):
 Cq 138 #[rp rb] w (ap PE N rb sb m s (aeL (ja s 0) (bu (ja s 0) n) k) w):=by
 have X_:=gW;have hf2:=jT;refine cD.An h rfl λH=>?_;go_enter func138,ntmps138;go_wp2_with fail;refine(H.re<|congrFun (lY _ _ _) _).take ?_;intro w1 H;go_wp2_with fail;refine H.call (DC hs IH H.sx ae) ?_;intro b k2 v2 w2 H q V;obtain⟨ve,rfl,V,-⟩:=V;obtain⟨te,xe,rfl⟩:=V.iface;clear V;have l2:k+1<k2:=abm (jV n) _ _ _ q;go_wp2_with fail;refine H.box.take ?_;intro w3 H;go_wp2_with fail;refine H.expr IH ?_;intro c k4 t4 x4 w4 H l4;have⟨⟨_,c1,f1,z1⟩,_⟩:=H.p
 go_wp2
 go_region_with(go_at_call 192;refine H.drew.since ?_;intro w5 H;have⟨⟨_,c1,f1,z1⟩,_⟩:=H.p)
 all_goals(
  go_wp2
  go_ret;refine H.done ?_;rintro⟨⟨⟨_,ve,e,A,B,C,D⟩,_⟩,V⟩
  cases e
  exact .lt _ _ _ _ _ _ _ _ _ _ _ B C D A V)
def agm(hs:s.size<=1000)(IHP:Ci s n)(IH:eW s n)(h:SX w N rb sb m s k)(hn:(ja s 0).length<=k+n):
 Cq 196 #[rp rb] w (ap ak6 N rb sb m s (Pk (ja s 0) (b_ (ja s 0) n) (bu (ja s 0) n) k) w):=by
 have X_:=gW;have hf2:=jT;have o:w.heap.size≠rb:=by have:=h.z;omega
 have⟨c0,f0,z0⟩:=h.bx;refine cD.An h rfl λH=>?_;go_enter func196,ntmps196;go_wp2_with fail;refine H.own.t_ IHP ?_;intro a k1 t1 x1 w1 H l1;go_wp2_with fail;refine H.take ?_;intro w2 H;go_wp2_with fail;refine H.expr IH ?_;intro b k3 t3 x3 w3 H l3;go_wp2_with fail;refine H.since ?_;intro w4 H;have⟨c,f,z⟩:=H.bo o;go_wp2_with fail;have B:=(H.bo o).ak7 rfl (Nv (tk (Pu.bG s 0) k).aD) (.int .i64 ((aR (Pu.bG s 0) k3:Nat):Int)) (Fv t1<|Av x1) (Fv t3<|Av x3);obtain⟨cF,fF,zF⟩:=B;exact bodyPost_ret (v:=Av #[Nv (tk (Pu.bG s 0) k).aD,.int .i64 ((aR (Pu.bG s 0) k3:Nat):Int),Fv t1<|Av x1,Fv t3<|Av x3]) (by simp[results,Tryz.results196,go_sem,cF]) rfl
  ((H.put o ⟨cF,fF,zF⟩<|cO<|cO<|cO<|cO ⟨rfl,rfl,rfl,rfl,λ_ _=>rfl⟩).done λ⟨⟨_,A⟩,B⟩=>⟨_,_,_,_,rfl,A,B⟩)
end
def aeM:(Tryz.prog.info? 117).map (λi=>(i.zero,i.size,i.bytes))=some (some<|.agg #[Iv 0,Iv 0,.nilIface,.nilIface],4,48):=qkr
def WA:Tryz.prog.underlying 80=some (.slice 117):=qkr
def jX T t_ expr f l:=λk=>if aU (tk T k) VY=true then m8 T t_ expr f l (k+1)else .ok (l,k)
def Gn T t_ expr f l k:m8 T t_ expr (f+1) l k=aX (Pk T t_ expr) (λa=>jX T t_ expr f<|l++[a.1,a.2]) k:=by
 rw[Pk];rw[lY];show aX t_ _ k=_;congr 1;funext p;rw[lY];congr 1;funext _;rw[lY];rfl
def DE{t_ expr:M Nd}(hp:aO T t_)(he:aO T expr):aO T (Pk T t_ expr):=fP hp λ_=>fP (qR _ _) λ_=>fP he λ_=>Kg _
def gp T t_ expr f l:aO T (jX T t_ expr f l):=by grind[aO,jX,dX,cX]
def Td{t_ expr:M Nd}(hp:Gp t_)(he:mx expr):mx (Pk T t_ expr):=λk a k' h=>by
 rw[Pk]at h;have⟨_,k1,h1,h2⟩:=au h;have⟨_,k2,h3,h4⟩:=au h2;have⟨_,k3,h5,h6⟩:=au h4
 cases h6
 have:=hp _ _ _ h1;have:=bq _ _ _ _ h3;have:=he _ _ _ h5;omega
def abn A p:bh (A++[p])=bh A++[p.1,p.2]:=by
 induction A with
 |nil=>rfl|cons q l ih=>show q.1::q.2::bh (l++[p])=q.1::q.2::(bh l++_);rw[ih]
def aeN:EQ (Nd×Nd):=λw P a c=>(∃u1 u2:Int,c 0=Iv u1/\c 1=Iv u2)/\PP w P a.1 (c 2)/\PE w P a.2 (c 3)
def lZ:cu aeN:=λ_ _ _ _ _ _ h h1 h2 h3=>⟨h.1,h.2.1.move h1 h2 h3,h.2.2.move h1 h2 h3⟩
def ak8 x w P l v:=∃A,A≠[]/\l=x::bh A/\RowV aeN 4 w P A v
section
variable {m:MV}
def Te:Mov ak6:=λ_ _ _ _ _ _⟨a,b,c,d,e,f,g⟩p q r=>⟨a,b,c,d,e,f.move p q r,g.move p q r⟩
def Kx(hs:s.size<=1000)(hT:(ja s 0).length<=1001)(IHP:Ci s n)(IH:eW s n)(h:SX w N rb sb m s k)(hn:(ja s 0).length<=k+n)x:
 Cq 195 #[rp rb,oq 196 rb] w (ap (ak8 x) N rb sb m s (m8 (ja s 0) (b_ (ja s 0) n) (bu (ja s 0) n) (ja s 0).length [x] k) w):=by
 have hcA:∀args w,(callFunc 196 args).run Tryz.prog w=.ok (.enter 196 args) w:=λ_ _=>qkr;have hk:=h.lt;obtain⟨r,hr⟩:∃r,r=m8 (Pu.bG s 0) (b_ (Pu.bG s 0) n) (bu (Pu.bG s 0) n) (Pu.bG s 0).length [x] k:=⟨_,rfl⟩;rw[<-hr];obtain⟨L,hL⟩:∃L,(Pu.bG s 0).length=L+1:=⟨(Pu.bG s 0).length-1,ae⟩;refine cD.An h (by rw[hr,hL];exact Gn _ _ _ _ _ _) λH=>?_;have HL:=ai hL;clear hr hL;go_enter func195,ntmps195;go_wp2_with fail;refine H.call (agm hs IHP IH h hn) ?_ (st:=λa=>gp _ _ _ _ _) (mv:=Te);intro a k1 v1 w1 H q V;have l1:=Td (oK (T:=(Pu.bG s 0)) n) (jV n) _ _ _ q;obtain⟨u1,u2,vp,ve,rfl,P1,E1⟩:=V;obtain⟨tp,xp,rfl⟩:=P1.iface;obtain⟨te,xe,rfl⟩:=E1.iface;have H:=(H.af<|bw _).row lZ (db.one (sz:=4) (et:=117) (lo:=w.heap.size) (c:=λj=>([Iv u1,Iv u2,Fv tp<|Av xp,Fv te<|Av xe]:List Value).getD j Zv) lZ ⟨⟨u1,u2,rfl,rfl⟩,P1,E1⟩ (br _) H.ke.size aA #[Iv u1,Iv u2,Fv tp<|Av xp,Fv te<|Av xe] rfl rfl) ⟨br _,.inl rfl⟩;clear P1 E1 q
 go_wp2
 go_loopg[5] ((ja s 0).length-k1) (λgk v wr=>Gg (·≠[]) aeN 117 4 N rb sb m s (k+1) w r (λf A _=>jX (ja s 0) (b_ (ja s 0) n) (bu (ja s 0) n) f (x::bh A)) gk v wr)
 case atStart=>exact⟨k1,[a],L,_,1,0,rfl,ah,H,ai rfl,l1,bi,by have:=uh HL;omega⟩
 case round=>
  clear H HL;obtain⟨kr,A,f,va,vc,_,rfl,hA,H,bE,hle,hAl,hfu⟩:=hrel;have zw:=H.ke.size;have hrw:=H.p.block;have hkr:=H.sx.lt
  cases hb:aU (tk (ja s 0) kr) VY
  .have H:=H.re (g':=λk=>.ok (x::bh A,k)) (by dsimp only[jX];rw[hb];rfl);go_wp2_with fail;refine H.Ge hb ?_
   go_wp2
   go_ret;exact H.done λR=>⟨A,hA,rfl,R.v lZ⟩
  .obtain⟨f,rfl⟩:∃f',f=f'+1:=⟨f-1,ae⟩;have H:=H.re (g':=aX pZ λ_=>aX (Pk (ja s 0) (b_ (ja s 0) n)<|bu (ja s 0) n) λa=>jX (ja s 0) (b_ (ja s 0) n) (bu (ja s 0) n) f (x::bh A++[a.1,a.2])) (by dsimp only[jX];rw[if_pos hb,Gn];rfl);go_wp2_with fail;refine H.Gd hb ?_ (st:=λ_=>fP (DE (pq _)<|mR _) λa=>gp _ _ _ _ _);intro w2 H;go_wp2_with fail;have z2:=H.ke.size;have hrw:=H.p.block;refine H.call (agm hs IHP IH H.sx ae) ?_ (st:=λa=>gp _ _ _ _ _) (mv:=Te);intro a k2 v1 w1 H q V;have l2:=Td (oK (T:=(ja s 0)) n) (jV n) _ _ _ q;obtain⟨u1,u2,vp,ve,rfl,P1,E1⟩:=V;obtain⟨tp,xp,rfl⟩:=P1.iface;obtain⟨te,xe,rfl⟩:=E1.iface;go_wp2_with(at_builtin;go_must(refine H.append (D:=[Iv u1,Iv u2,Fv tp<|Av xp,Fv te<|Av xe]) hT lZ aeM WA H.p.1 z2 (λb e=>(hrw b e).2) (c:=λj=>([Iv u1,Iv u2,Fv tp<|Av xp,Fv te<|Av xe]:List Value).getD j Zv) ⟨⟨u1,u2,rfl,rfl⟩,P1,E1⟩ ae ?_;intro q3 c3 w3 H));go_roundg((ja s 0).length-k2)
   case measure=>rw[uh bE];omega
   case rel=>exact⟨k2,A++[a],f,_,c3,0,ah,ah,H.re (by dsimp only;rw[abn];rfl),ai rfl,ae,bi,ae⟩
end
section
variable {m:MV}
def RowV.mt{lo}{w w0:World}{A}{va}{vc}(h:RowV aeN 4 w (λb=>lo<=b) A (.slice va A.length vc))(h0:A≠[])(gJ:w0.heap.size<=lo){x}{vx}(hx:PE w (λb=>w0.heap.size<=b) x vx)f t a:
 PE w (λb=>w0.heap.size<=b) (.mk 13 ph 0 (x::bh A) f t a) (.iface 82<|.agg #[Nv f,Nv t,vx,.slice va A.length vc]):=by
 obtain⟨nk,np,cs,hv,aE,hr⟩:=h
 cases hv
 obtain h1|⟨g,rfl,h2,h3,h4⟩:=aE
 .exact absurd h1 h0
 have wd:∀b,lo<=b->w0.heap.size<=b:=λb p=>jt gJ p;refine .mt _ _ x A f t a vx g vc (λi=>cs i 2) (λi=>cs i 3) h0 (wd g h2) h3 (λi hi=>?_) hx (λi hi=>(hr i hi).2.1.wide wd)<|λi hi=>(hr i hi).2.2.wide wd;have⟨u1,u2,e1,e2⟩:=(hr i hi).1;exact⟨⟨u1,u2,by rw[<-e1];exact h4 i hi 0 aA,by rw[<-e2];exact h4 i hi 1 aA⟩,h4 i hi 2 aA,h4 i hi 3 aA⟩
def Pb{n}(hT:0<T.length)x:aO T (m8 T (b_ T n) (bu T n) T.length [x]):=by
 obtain⟨L,hL⟩:∃L,T.length=L+1:=⟨T.length-1,ae⟩;rw[hL];intro k h;rw[Gn];exact bQ (DE (pq _) (mR _) k h) λ_=>gp _ _ _ _ _
def aeO(hs:s.size<=1000)(hT:(ja s 0).length<=1001)(IHP:Ci s n)(IH:eW s n)(h:SX w N rb sb m s k)(hn:(ja s 0).length<=k+1+n):
 Cq 140 #[rp rb] w (ap PE N rb sb m s (uq (ja s 0) (b_ (ja s 0) n) (bu (ja s 0) n) k) w):=by
 have X_:=gW;have hf2:=jT;have hT0:0<(ja s 0).length:=by have:=h.lt;omega
 refine cD.An h rfl λH=>?_;go_enter func140,ntmps140;go_wp2_with fail;refine H.take ?_;intro w1 H;go_wp2_with fail;refine H.expr IH ?_;intro x k2 t2 x2 w2 H l2;go_wp2_with fail;refine H.take ?_;intro w3 H;go_wp2_with fail;refine H.call (Kx hs hT IHP IH H.sx ae x) ?_ (mv:=λ_ _ _ _ _ _⟨A,a,b,c⟩p q r=>⟨A,a,b,c.move lZ p q r⟩);intro l k4 v4 w4 H q V;obtain⟨va,L,vc,rfl⟩:∃va L vc,v4=Lv va L vc:=by obtain⟨_,-,-,_,_,_,rfl,-⟩:=V;exact⟨_,_,_,rfl⟩
 clear q V;go_wp2_with fail;refine H.take ?_;intro w5 H;go_wp2_with fail;refine H.since ?_;intro w6 H
 go_wp2
 go_ret;refine H.done ?_;rintro⟨⟨_,V⟩,A,a,rfl,_,_,cs,e,R⟩
 cases e
 exact RowV.mt ⟨_,_,cs,rfl,R⟩ a (br _) V _ _ _
def sY(h:SX w N rb sb m s k)(hg:bd (aq<|tk (ja s 0) k) (SL rb)=some (oq F rb)\/bd (aq<|tk (ja s 0) k) (SL rb)=none/\F=218)(IR:∀args w,(callFunc F args).run j6 w=.ok (.enter F args) w)(HC:∀W,SX W N rb sb m s k->Cq F #[rp rb] W (ap PE N rb sb m s r W)):Cq 194 #[rp rb] w (ap PE N rb sb m s r w):=by
 have⟨b,vE,_,_,hM⟩:=h.ev.mp.wd;have hl:=λq=>dY (hM.same (w':=w.drewN q) rfl) Tryz.underlying241 (sU _)<|aq<|tk (ja s 0) k;have BS:=dY hM Tryz.underlying241 (sU _)<|aq<|tk (ja s 0) k;have⟨c,ff,z⟩:=h.bx;obtain hg|⟨hg,rfl⟩:=hg
 all_goals(
  simp only[hg,kO]at hl BS;clear hg;go_enter func194,ntmps194
  go_wp2
  go_quiet(fail);go_wp2_with fail;refine(HC _<|h.af<|below_drewN _ nq).mono ?_;intro e w1 hp
  cases hA:fin (ja s 0) r with
  |error f'=>
   obtain⟨rfl,hb'⟩:=hp.bad hA;exact⟨rfl,ap.fail ((qr<|below_drewN _ nq).trans hb') hA⟩
  |ok p=>
  obtain⟨a,k2⟩:=p;obtain⟨v,rfl,hb',HS,HR⟩:=hp.ok hA;obtain⟨tv,xv,rfl⟩:=HR.iface;have HE:=ai (uI hA).1;have HK:=(qr<|below_drewN w nq).trans hb';clear hp hA hb'
  go_wp2
  go_ret
  exact ap.done HE HK HS HR)
def WD(hs:s.size<=1000)(hT:(ja s 0).length<=1001)(IH:eW s n):eW s (n+1):=by
 intro w N rb sb m k h hn;show Calls _ _ _ _<|ap PE N rb sb m s (if aU (tk (ja s 0) k) OY=true then uv (ja s 0) (bu (ja s 0) n) k else if aU (tk (ja s 0) k) kIf=true then yu (ja s 0) (bu (ja s 0) n) k else if aU (tk (ja s 0) k) uJ=true then uq (ja s 0) (b_ (ja s 0) n) (bu (ja s 0) n) k else if aU (tk (ja s 0) k) r9=true then aeL (ja s 0) (bu (ja s 0) n) k else(sQ (ja s 0)<|sP (ja s 0)<|eY (ja s 0)<|cY (ja s 0)<|yr s n) k) w
 cases n0:aU (tk (ja s 0) k) OY
 .cases n1:aU (tk (ja s 0) k) kIf
  .cases n2:aU (tk (ja s 0) k) uJ
   .cases n3:aU (tk (ja s 0) k) r9
    .exact sY h (.inr ⟨sW (eH s k h.lt) h.ok (by simp[n0,n1,n2,n3];decide),rfl⟩) (λ_ _=>qkr) λW S=>Gl hs hT IH S ae
    .exact sY h (.inl (by rw[gn n3];rfl)) (λ_ _=>qkr) λW S=>aeK hs IH S ae
   .exact sY h (.inl (by rw[gn n2];rfl)) (λ_ _=>qkr) λW S=>aeO hs hT (DB hs hT n) IH S ae
  .exact sY h (.inl (by rw[gn n1];rfl)) (λ_ _=>qkr) λW S=>abk hs IH S ae
 .exact sY h (.inl (by rw[gn n0];rfl)) (λ_ _=>qkr) λW S=>q_ hs IH S ae
def abo(hs:s.size<=1000)(hT:(ja s 0).length<=1001):∀n,eW s n
 |0=>λw N rb sb m k h hn=>by have:=h.lt;omega|n+1=>WD hs hT<|abo hs hT n
end
def pw T mk f l k:eD T mk (f+1) l k=aX mk (λx=>mT T mk (eD T mk f)<|l++[x]) k:=rfl
theorem i_ T mk go l:aO T (mT T mk go l):=by grind[aO,mT,dX,cX]
theorem wG T sm:aO T (dC T sm):=by grind[aO,dC,fP,qV,iZ]
theorem uQ(hm:∀k a k',sm k=.ok (a,k')->k<k'):mx (dC T sm):=λk a k' h=>by
 rw[dC]at h;have⟨_,k1,h1,h2⟩:=au h;have:=eC _ _ _ _ h1;have:=Aw hm 1 _ _ _ _ _ h2;omega
def QMaker:EQ Nd:=λw P nd c=>∃(s:BA)(n:Nat)(L:List Nd)(f t a y:Nat)(v:Value),nd=.mk 2 s n L f t a/\c 0=Nv f/\c 1=Nv t/\c 2=Nv a/\c 3=Nv y/\c 4=.string s/\c 5=v/\m0 s/\y=a+s.size/\RowV (Q1 PT) 1 w P L v
def bP:cu QMaker:=λ_ _ _ _ _ _ h h1 h2 h3=>by
 obtain⟨s,n,L,f,t,a,y,v,e0,e1,e2,e3,e4,e5,e6,e7,e8,e9⟩:=h;exact⟨s,n,L,f,t,a,y,v,e0,e1,e2,e3,e4,e5,e6,e7,e8,e9.move aa9 h1 h2 h3⟩
def Gq w P nd(v:Value):=∃c:Nat->Value,v=.agg #[c 0,c 1,c 2,c 3,c 4,c 5]/\QMaker w P nd c
section
variable {m:MV}
def Kz{k}(h:dd (ja s 0) 2 k=.ok (t,k'))(hk:k<(ja s 0).length):m0 t.text/\t.t9=t.aD+t.text.size:=by
 rw[dd]at h;split at h
 .rename_i hq
  cases h
  exact⟨(eH s k hk).v2<|by simpa using hq,(oC s k hk).sp⟩
 .cases h
def Bx.ak9{w}{b}(h:Bx w b C)(hC:C.size=6)v0 v1 v2 v3 v4 v5:Bx ((((((w.setCell ⟨b,0,none⟩ v0).setCell ⟨b,1,none⟩ v1).setCell ⟨b,2,none⟩ v2).setCell ⟨b,3,none⟩ v3).setCell ⟨b,4,none⟩ v4).setCell ⟨b,5,none⟩ v5) b #[v0,v1,v2,v3,v4,v5]:=by
 obtain⟨a0,a1,a2,a3,a4,a5,rfl⟩:∃a0 a1 a2 a3 a4 a5,C=#[a0,a1,a2,a3,a4,a5]:=by
  obtain⟨l⟩:=C
  match l,hC with
  |[a,b,c,d,e,f],_=>grind
 exact(((((h.aP 0 v0 #[v0,a1,a2,a3,a4,a5] rfl ah).aP 1 v1 #[v0,v1,a2,a3,a4,a5] rfl ah).aP 2 v2 #[v0,v1,v2,a3,a4,a5] rfl ah).aP 3 v3 #[v0,v1,v2,v3,a4,a5] rfl ah).aP 4 v4 #[v0,v1,v2,v3,v4,a5] rfl ah).aP 5 v5 #[v0,v1,v2,v3,v4,v5] rfl ah
def RowV.tT{Q}{sz}{L:List α}{v:Value}(h:RowV Q sz w P L v)(hQ:cu Q){b:Nat}(hb:∀c,P c->c≠b)(j:Nat)(u:Value):RowV Q sz (w.setCell ⟨b,j,none⟩ u) P L v:=h.move hQ yG (λc p _=>ql _ _ _ _<|hb c p)<|λ_ p _=>p
def Tf(hs:s.size<=1000)(hT:(ja s 0).length<=1001)(h:SX w N rb sb m s k)(hn:(ja s 0).length<=k+1+n):Cq 191 #[rp rb] w (ap Gq N rb sb m s (dC (ja s 0) (DA s n) k) w):=by
 have o:w.heap.size≠rb:=by have:=h.z;omega
 have ana:=h.lt;refine cD.An h rfl λH=>?_;go_enter func191,ntmps191;go_wp2_with fail;refine H.own.call (uK H.own.sx hs 2 J6<|Or.inr ⟨rfl,rfl⟩) ?_ (st:=λ_ k h=>iZ _ _ _ _ k h);intro t k1 v w1 H q V
 cases V
 have Ht:=ai<|Kz q ana
 cases eC _ _ _ _ q
 clear q;have H:=H.box (D:=#[Nv t.aD,Nv t.t9,Sv t.text]) (t:=71);have⟨c1,f1,y1⟩:=H.sx.bx;go_wp2_with fail;clear c1 f1 y1;refine(H.re<|Gh (dw (ja s 0) (DA s n) 1 (ja s 0).length<|.mk 2 t.text 0 [] t.aD (aR (ja s 0)<|k+1) t.aD)<|k+1).call (aba (R:=PT) hT (.inl ⟨rfl,rfl,rfl⟩) PT.iface (λ_ _ _ _ _ _ h a b c=>h.move a b c) (cC (cZ (T:=(ja s 0)) n) (cZ n) 1) (λw k' S l=>ak4 hs (abe hs hT n) S ae) H.sx t.text t.aD (aR (ja s 0)<|k+1) t.aD) ?_ (mv:=Ks λ_ _ _ _ _ _ h a b c=>h.move a b c);intro a k2 v w3 H q V;have⟨L',hL'⟩:=qZ _ _ _ _ _ q;subst hL';obtain⟨va,L,vc,rfl⟩:=V.sl;clear V q;have⟨⟨_,d3,g3,x3⟩,_⟩:=H.p;have⟨c3,f3,y3⟩:=H.bo o
 go_wp2
 go_region_with(go_at_call 192;refine H.drew.since ?_;intro w4 H;have⟨⟨_,d4,g4,x4⟩,_⟩:=H.p;have⟨c4,f4,y4⟩:=H.bo o)
 all_goals(
  go_wp2_with fail;have⟨cF,fF,zF⟩:=(H.bo o).ak9 rfl (Nv t.aD) (.int .i64 ((aR (ja s 0) k2:Nat):Int)) (Nv t.aD) (Nv t.t9) (Sv t.text) (Lv va L vc);refine bodyPost_ret (v:=Av #[Nv t.aD,.int .i64 ((aR (ja s 0) k2:Nat):Int),Nv t.aD,Nv t.t9,Sv t.text,Lv va L vc]) (by simp[results,Tryz.results191,go_sem,cF]) rfl ((H.put o ⟨cF,fF,zF⟩<|cO<|cO<|cO<|cO<|cO<|cO ⟨rfl,rfl,rfl,rfl,λ_ _=>rfl⟩).done ?_);rintro⟨_,L1,fr,tz,at_,e,R⟩;injection e with _ _ _ e3 e4 e5 e6;subst e3 e4 e5 e6
  exact⟨λj=>([Nv t.aD,.int .i64 ((aR (ja s 0) k2:Nat):Int),Nv t.aD,Nv t.t9,Sv t.text,Lv va L vc]:List Value).getD j Zv,rfl,_,_,_,_,_,_,_,_,rfl,rfl,rfl,rfl,rfl,rfl,rfl,Ht.1,Ht.2,R⟩)
end
def WH:(Tryz.prog.info? 182).map (λi=>(i.zero,i.size,i.bytes))=some (some<|.agg #[Iv 0,Iv 0,Iv 0,Iv 0,.string ⟨#[]⟩,.slice none 0 0],6,72):=qkr
def KG:Tryz.prog.underlying 93=some (.slice 182):=qkr
def Gq.open{v}(h:Gq w P nd v):∃(s:BA)(n:Nat)(L:List Nd)(f t a y:Nat)(va:Option Addr)(vc:Nat),nd=.mk 2 s n L f t a/\v=.agg #[Nv f,Nv t,Nv a,Nv y,.string s,.slice va L.length vc]/\m0 s/\y=a+s.size/\RowV (Q1 PT) 1 w P L (.slice va L.length vc):=by
 obtain⟨c,rfl,s,n,L,f,t,a,y,v,e0,e1,e2,e3,e4,e5,e6,e7,e8,e9⟩:=h;have e9':=e9;obtain⟨va,vc,cs,rfl,_,_⟩:=e9;exact⟨s,n,L,f,t,a,y,va,vc,e0,by rw[e1,e2,e3,e4,e5,e6],e7,e8,e9'⟩
def DG:Mov Gq:=λ_ _ _ _ _ _⟨c,h1,h2⟩p q r=>⟨c,h1,bP _ _ _ _ _ _ h2 p q r⟩
def aeP w P l v:=l≠[]/\RowV QMaker 6 w P l v
section
variable {m:MV}
def Cj(hs:s.size<=1000)(hT:(ja s 0).length<=1001)(h:SX w N rb sb m s k)(hn:(ja s 0).length<=k+1+n):
 Cq 190 #[rp rb,oq 191 rb] w (ap aeP N rb sb m s (eD (ja s 0) (dC (ja s 0)<|DA s n) (ja s 0).length [] k) w):=by
 have hcA:∀args w,(callFunc 191 args).run Tryz.prog w=.ok (.enter 191 args) w:=λ_ _=>qkr;have hk:=h.lt;obtain⟨r,hr⟩:∃r,r=eD (Pu.bG s 0) (dC (Pu.bG s 0)<|DA s n) (Pu.bG s 0).length [] k:=⟨_,rfl⟩;rw[<-hr];obtain⟨L,hL⟩:∃L,(Pu.bG s 0).length=L+1:=⟨(Pu.bG s 0).length-1,ae⟩;refine cD.An h (by rw[hr,hL];exact pw _ _ _ _ _) λH=>?_;have HL:=ai hL;clear hr hL;go_enter func190,ntmps190;go_wp2_with fail;refine H.call (Tf (n:=n) hs hT h hn) ?_ (st:=λa=>i_ _ _ _ _) (mv:=DG);intro a k1 v1 w1 H q V;have l1:=uQ (T:=(Pu.bG s 0)) (cC (cZ n) (cZ n) 1) _ _ _ q;obtain⟨s',n',L',f',t',a',y',nk,np,rfl,rfl,hu,hy,hV⟩:=V.open;have H:=(H.af<|bw _).row bP (db.one (sz:=6) (et:=182) (lo:=w.heap.size) (c:=λj=>([Nv f',Nv t',Nv a',Nv y',Sv s',Lv nk L'.length np]:List Value).getD j Zv) bP ⟨s',n',L',f',t',a',y',_,rfl,rfl,rfl,rfl,rfl,rfl,rfl,hu,hy,hV⟩ (br _) H.ke.size aA #[Nv f',Nv t',Nv a',Nv y',Sv s',Lv nk L'.length np] rfl rfl) ⟨br _,.inl rfl⟩;clear hu hy hV V q
 go_wp2
 go_loopg[5] ((ja s 0).length-k1) (λgk v wr=>Gg (·≠[]) QMaker 182 6 N rb sb m s (k+1) w r (λf A _=>mT (ja s 0) (dC (ja s 0)<|DA s n) (eD (ja s 0) (dC (ja s 0)<|DA s n) f) A) gk v wr)
 case atStart=>exact⟨k1,[Nd.mk 2 s' n' L' f' t' a'],L,_,1,0,rfl,ah,H,ai rfl,l1,bi,by have:=uh HL;omega⟩
 case round=>
  clear H HL;obtain⟨kr,A,f,va,vc,_,rfl,hA,H,bE,hle,hAl,hfu⟩:=hrel;have zw:=H.ke.size;have hrw:=H.p.block;have hkr:=H.sx.lt
  cases hb:aU (tk (ja s 0) kr) VY
  .have H:=H.re (g':=λk=>.ok (A,k)) (by dsimp only[mT];rw[hb];rfl);go_wp2_with fail;refine H.Ge hb ?_
   go_wp2
   go_ret;exact H.done λR=>⟨hA,R.v bP⟩
  .obtain⟨f,rfl⟩:∃f',f=f'+1:=⟨f-1,ae⟩;have H:=H.re (g':=aX pZ λ_=>aX (dC (ja s 0)<|DA s n) λa=>mT (ja s 0) (dC (ja s 0)<|DA s n) (eD (ja s 0) (dC (ja s 0)<|DA s n) f)<|A++[a]) (by dsimp only[mT];rw[if_pos hb,pw];rfl);go_wp2_with fail;refine H.Gd hb ?_ (st:=λ_=>fP (wG _ _) λa=>i_ _ _ _ _);intro w2 H;go_wp2_with fail;have z2:=H.ke.size;have hrw:=H.p.block;refine H.call (Tf (n:=n) hs hT H.sx ae) ?_ (st:=λa=>i_ _ _ _ _) (mv:=DG);intro a k2 v1 w1 H q V;have l2:=uQ (T:=(ja s 0)) (cC (cZ n) (cZ n) 1) _ _ _ q;obtain⟨s',n',L',f',t',a',y',nk,np,rfl,rfl,hu,hy,hV⟩:=V.open
   replace hy:=ai hy
   go_wp2_with(at_builtin;go_must(refine H.append (a:=.mk 2 s' n' L' f' t' a') (D:=[Nv f',Nv t',Nv a',Nv y',Sv s',Lv nk L'.length np]) hT bP WH KG H.p.1 z2 (λb e=>(hrw b e).2) (c:=λj=>([Nv f',Nv t',Nv a',Nv y',Sv s',Lv nk L'.length np]:List Value).getD j Zv) ⟨s',n',L',f',t',a',y',_,rfl,rfl,rfl,rfl,rfl,rfl,rfl,hu,hy,hV⟩ ae ?_;intro q3 c3 w3 H));go_roundg((ja s 0).length-k2)
   case measure=>rw[uh bE];omega
   case rel=>exact⟨k2,A++[Nd.mk 2 s' n' L' f' t' a'],f,_,c3,0,ah,ah,H,ai rfl,ae,bi,ae⟩
end
def Pc(T:List jc):∀f l,aO T<|oM T f l
 |0,l=>λk h=>cX _ h|f+1,l=>λk h=>by unfold oM;rw[if_neg ae];exact cX _ h
def Ax(T:List jc):∀f l k a k',oM T f l k=.ok (a,k')->k<=k'
 |0,l,k,a,k',h=>by cases h;omega|f+1,l,k,a,k',h=>by
  unfold oM at h;split at h
  .have:=Ax T f _ _ _ _ h;omega
  .cases h;omega
def Gc(hT:0<T.length):aO T (eD T (dC T sm) T.length []):=by
 obtain⟨L,hL⟩:∃L,T.length=L+1:=⟨T.length-1,ae⟩;rw[hL];intro k h;rw[pw];exact bQ (wG _ _ k h) λ_=>i_ _ _ _ _
def wH{T:List jc}{mk:M Nd}(hm:mx mk):∀f l k a k',eD T mk f l k=.ok (a,k')->k<=k'
 |0,l,k,a,k',h=>by cases h;omega|f+1,l,k,a,k',h=>by
  rw[pw]at h;have⟨_,k1,h1,h2⟩:=au h;have:=hm _ _ _ h1;rw[mT]at h2;split at h2
  .have:=wH hm f _ _ _ _ h2;omega
  .cases h2;omega
def QName:EQ jc:=λ_ _ t c=>c 0=Nv t.aD/\c 1=Nv t.t9/\c 2=.string (t.text.extract 1 t.text.size)/\(∃r,t.text.toList=39::r)/\t.t9=t.aD+t.text.size
def c_:cu QName:=by grind[cu,QName]
def abp:(Tryz.prog.info? 71).map (λi=>(i.zero,i.size,i.bytes))=some (some<|.agg #[Iv 0,Iv 0,.string ⟨#[]⟩],3,32):=qkr
def Pl:Tryz.prog.underlying 92=some (.slice 71):=qkr
def PD(w:World)(P:Nat->Prop):Dc->Value->Prop
 |.ty t vs ms,v=>∃(f u:Int)(vv vm:Value),v=.iface 95 (.agg #[Iv f,Iv u,Nv t.aD,Nv t.t9,.string t.text,vv,vm])/\m0 t.text/\t.t9=t.aD+t.text.size/\RowV QName 3 w P vs vv/\ms≠[]/\RowV QMaker 6 w P ms vm|.lt r t b,v=>∃(f u:Int)(vb:Value),v=.iface 77 (.agg #[Iv f,Iv u,.bool r,Nv t.aD,Nv t.t9,.string t.text,vb])/\Ch t.text/\t.t9=t.aD+t.text.size/\PE w P b vb
theorem PD.move{w w'}{P Q}{d}{v}(h:PD w P d v)(hs:w.heap.size<=w'.heap.size)(hb:∀b,P b->b<w.heap.size->w'.heap[b]? =w.heap[b]?)(hq:∀b,P b->b<w.heap.size->Q b):PD w' Q d v:=by
 cases d with
 |ty t vs ms=>
  obtain⟨f,u,vv,vm,h1,h2,h3,h4,h5,h6⟩:=h;exact⟨f,u,vv,vm,h1,h2,h3,h4.move c_ hs hb hq,h5,h6.move bP hs hb hq⟩
 |lt r t b=>
  obtain⟨f,u,vb,h1,h2,h3,h4⟩:=h;exact⟨f,u,vb,h1,h2,h3,h4.move hs hb hq⟩
def PD.iface{d}{v}(h:PD w P d v):∃t x,v=.iface t (.agg x):=by
 cases d with
 |ty t vs ms=>obtain⟨f,u,vv,vm,h1,_⟩:=h;exact⟨_,_,h1⟩
 |lt r t b=>obtain⟨f,u,vb,h1,_⟩:=h;exact⟨_,_,h1⟩
def aeQ N rb sb m s k2 nb NC w r(G:List jc->M Dc)(gk:Nat)(v:Value)(wr:World):=
 ∃(kr:Nat)(V:List jc)(f:Nat)(va:Option Addr)(vc:Nat),v=.slice va V.length vc/\cD N rb sb m s r w nb NC (aX (oM (ja s 0) f V) G) (λw'=>db QName 71 3 w' (nb+1) va vc V) kr wr/\Hid (gk=(ja s 0).length-kr)/\k2<=kr/\V.length<=kr/\(ja s 0).length<=kr+f
section
variable {m:MV}
def abq(h:gi t)(hk:t.kind≠6):((aq t).toList==[97,32,118,97,114,105,97,98,108,101])=(t.kind==3):=by
 obtain h'|h'|h'|h'|h'|h'|h':=h.kd
 .rw[iW h'];simp[h',qd]
 .rw[ie h'];simp[h',qd]
 .rw[ig h'];simp[h',qd]
 .rw[iX h'];simp[h',qd]
 .have:=lW h hk (kd:=uG) aA h';rw[show uG.toList=[97,32,118,97,114,105,97,98,108,101]from toList_mk _]at this;rw[this];simp[h']
 .exact absurd h' hk
 .rw[iY h'];simp[h',qd]
def Ay(h:SX w N rb sb m s k)(hs:s.size<=1000)(h3:(tk (ja s 0) k).kind=3):Cq 189 #[rp rb] w (ap (Is<|.agg #[Nv (tk (ja s 0) k).aD,Nv (tk (ja s 0) k).t9,.string<|(tk (ja s 0) k).text.extract 1 (tk (ja s 0) k).text.size]) N rb sb m s (.ok ((),k+1)) w):=
 (jR h.rd hs (sG s k h.lt) h3<|eH s k h.lt).mono λ_ _ q=>q.x h ae rfl
def WI(hs:s.size<=1000)(IH:eW s n)(h:SX w N rb sb m s k)(hn:(ja s 0).length<=k+1+n):
 Cq 136 #[rp rb] w (ap PD N rb sb m s (Dl (ja s 0) (bu (ja s 0) n) k) w):=by
 have X_:=gW;have hf2:=jT;refine cD.An h rfl λH=>?_;go_enter func136,ntmps136;go_wp2_with fail;refine(H.re<|congrFun (lY _ _ _) _).take ?_;intro w1 H;go_wp2_with fail;refine H.call (DC hs IH H.sx ae) ?_;intro b k2 v2 w2 H q V;obtain⟨ve,rfl,V,-⟩:=V;obtain⟨te,xe,rfl⟩:=V.iface;clear V;go_wp2_with fail;refine H.box.take ?_;intro w3 H;have⟨_,c1,f1,z1⟩:=H.p
 go_wp2
 go_region_with(go_at_call 192;refine H.drew.since ?_;intro w5 H;have⟨_,c1,f1,z1⟩:=H.p)
 all_goals(
  go_wp2
  go_ret;refine H.done ?_;rintro⟨⟨_,ve,e,A,_,C,D⟩,_⟩
  cases e
  exact⟨_,_,_,rfl,C,D,A⟩)
def Pm(hs:s.size<=1000)(hT:(ja s 0).length<=1001)(h:SX w N rb sb m s k)(hn:(ja s 0).length<=k+1+n):
 Cq 135 #[rp rb] w (ap PD N rb sb m s (KH (ja s 0) (dC (ja s 0)<|DA s n) k) w):=by
 have X_:=gW;have hf2:=jT;have hT0:0<(ja s 0).length:=by have:=h.lt;omega
 have hz:=h.z;obtain⟨r,hr⟩:∃r,r=KH (Pu.bG s 0) (dC (Pu.bG s 0)<|DA s n) k:=⟨_,rfl⟩;rw[<-hr];refine cD.An h hr λH=>?_;clear hr;go_enter func135,ntmps135;go_wp2_with fail;refine H.take ?_;intro w1 H;go_wp2_with fail;have lt1:=H.sx.lt;refine H.call (uK H.sx hs 2 J6<|Or.inr ⟨rfl,rfl⟩) ?_;intro t k2 v w2 H q V
 cases V
 have Ht:=ai<|Kz q lt1;have ek:=eC _ _ _ _ q;have z2:=H.ke.size;clear q;go_wp2_with fail;have H:=H.own (D:=#[Nv t.aD,Nv t.t9,Sv t.text]) (t:=71);have XV:=H.sx.lt;go_loopg[5] ((ja s 0).length-k2) (λgk v wr=>aeQ N rb sb m s k2 w2.heap.size #[Nv t.aD,Nv t.t9,Sv t.text] w r (λvs=>aX (bm (ja s 0) kEq) λ_=>aX (eD (ja s 0) (dC (ja s 0)<|DA s n) (ja s 0).length []) λms=>aX (bm (ja s 0) Dm) λ_ k=>.ok (Dc.ty t vs ms,k)) gk v wr)
 case atStart=>exact⟨k2,[],(ja s 0).length,none,0,rfl,H.row c_ (db.nil _ _ _ _ _) ⟨ae,.inr ae⟩,ai rfl,br _,ah,ae⟩
 case round=>
  clear H;obtain⟨kr,V,f,va,vc,rfl,H,bE,hle,hVl,hfu⟩:=hrel;have hkr:=H.sx.lt;have ho:=eH s kr hkr;have hkv:=abq ho H.sx.ok;have⟨c,ff,z⟩:=H.sx.bx;by_cases h3:(tk (ja s 0) kr).kind=3
  .rw[h3]at hkv;obtain⟨f,rfl⟩:∃f',f=f'+1:=⟨f-1,ae⟩;have H:=H.re (g':=aX pZ λ_=>aX (oM (ja s 0) f<|V++[(tk (ja s 0) kr)])<|λvs=>aX (bm (ja s 0) kEq) λ_=>aX (eD (ja s 0) (dC (ja s 0)<|DA s n) (ja s 0).length []) λms=>aX (bm (ja s 0) Dm) λ_ k=>.ok (Dc.ty t vs ms,k)) (by rw[aX];rw[show oM (ja s 0) (f+1) V kr=oM (ja s 0) f (V++[(tk (ja s 0) kr)]) (kr+1)from if_pos h3];rfl);have zr:=H.xz;have hrw:=H.p.block;have Hin:=ai<|And.intro (ho.v3 h3) (oC s kr hkr).sp;go_wp2_with fail;refine H.call (Ay H.sx hs h3) ?_;intro _ _ _ w1' H q V'
   cases V'
   cases q
   clear c ff z hkv;go_wp2_with(at_builtin;go_must(refine H.append (D:=[Nv (tk (ja s 0) kr).aD,Nv (tk (ja s 0) kr).t9,Sv<|(tk (ja s 0) kr).text.extract 1 (tk (ja s 0) kr).text.size]) hT c_ abp Pl H.p.1 (wr:=wr) zr (λb e=>(hrw b e).2) (a:=(tk (ja s 0) kr)) (c:=λj=>([Nv (tk (ja s 0) kr).aD,Nv (tk (ja s 0) kr).t9,Sv<|(tk (ja s 0) kr).text.extract 1 (tk (ja s 0) kr).text.size]:List Value).getD j Zv) ⟨rfl,rfl,rfl,Hin.1,Hin.2⟩ ae ?_ ⟨ae,.inr ae,H.xz⟩;intro q3 c3 w3 H));go_roundg((ja s 0).length-(kr+1))
   case measure=>rw[uh bE];omega
   case rel=>exact⟨kr+1,V++[(tk (ja s 0) kr)],f,_,c3,ah,H,ai rfl,ae,bi,ae⟩
  .rw[show((tk (ja s 0) kr).kind==3)=false by simp[h3]]at hkv;have H:=H.re (g':=(λvs=>aX (bm (ja s 0) kEq) λ_=>aX (eD (ja s 0) (dC (ja s 0)<|DA s n) (ja s 0).length []) λms=>aX (bm (ja s 0) Dm) λ_ k=>.ok (Dc.ty t vs ms,k)) V) (by rw[aX];rw[show oM (ja s 0) f V kr=.ok (V,kr) by cases f with|zero=>rfl|succ f=>exact if_neg h3]);have H:=(H.add (Q:=λw'=>RowV QName 3 w' (λb=>w.heap.size<=b) V<|Lv va V.length vc) λw' a b=>(H.p.v c_).move c_ a (λc p z=>b c z (by have p':w2.heap.size+1<=c:=p;omega) (by have p':w2.heap.size+1<=c:=p;omega)) λc p _=>by have p':w2.heap.size+1<=c:=p;show w.heap.size<=c;omega).imp λ_ h=>h.2;go_wp2_with fail;clear c ff z;refine H.take ?_;intro w3 H;go_wp2_with fail;refine H.call (Cj (n:=n) hs hT H.sx ae) ?_ (mv:=λ_ _ _ _ _ _ h a b c=>⟨h.1,h.2.move bP a b c⟩);intro ms k4 v4 w4 H q Y;obtain⟨va4,L4,vc4,rfl⟩:∃va L vc,v4=Lv va L vc:=by obtain⟨_,_,_,_,rfl,-⟩:=Y;exact⟨_,_,_,rfl⟩
   clear q Y;go_wp2_with fail;refine H.take ?_;intro w5 H;have⟨c1,f1,y1⟩:=H.bo ae
   go_wp2
   go_region_with(go_at_call 192;refine H.drew.since ?_;intro w6 H;have⟨c6,f6,y6⟩:=H.bo ae)
   all_goals(
    go_wp2
    go_ret;refine H.done ?_;rintro⟨X,Y⟩
    exact⟨_,_,_,_,rfl,Ht.1,Ht.2,X,Y⟩)
end
def r_(h:aU (tk T k) lO=true\/aU (tk T k) r9=true):dD T d (f+1) l k=aX d (λx=>dD T d f<|l++[x]) k:=by grind[aU,tk,dD,aX]
def Dp(h:aU (tk T k) lO=false)(h':aU (tk T k) r9=false):dD T d f l k=.ok (l,k):=by
 cases f with
 |zero=>rfl|succ f=>unfold dD;rw[h,h'];rfl
def wI(T:List jc)(d:M Dc):∀f l,aO T<|dD T d f l
 |0,l=>λk h=>cX _ h|f+1,l=>λk h=>by unfold dD;rw[dX h,dX h,if_neg ah];exact cX _ h
theorem abr{mk}(hm:mx mk):mx (KH T mk):=λk a k' h=>by
 rw[KH]at h;have⟨_,k1,h1,h2⟩:=au h;have⟨_,k2,h3,h4⟩:=au h2;have⟨_,k3,h5,h6⟩:=au h4;have⟨_,k4,h7,h8⟩:=au h6;have⟨_,k5,h9,h10⟩:=au h8;have⟨_,k6,h11,h12⟩:=au h10
 cases h12
 have:=bq _ _ _ _ h1;have:=eC _ _ _ _ h3;have:=Ax _ _ _ _ _ _ h5;have:=bq _ _ _ _ h7;have:=wH hm _ _ _ _ _ h9;have:=bq _ _ _ _ h11;omega
theorem abt(hm:mx e):mx (Dl T e):=λk a k' h=>by
 rw[Dl]at h;have⟨_,k1,h1,h2⟩:=au h;have⟨_,k2,h3,h4⟩:=au h2
 cases h4
 have:=DH hm _ _ _ h1;have:=bq _ _ _ _ h3;omega
def abu T n:mx (eG T n):=by grind[mx,eG,abr,uQ,cC,cZ,abt,jV]
def QD:EQ Dc:=λw P d c=>PD w P d<|c 0
def bA:cu QD:=by grind[cu,QD,PD.move]
def abv:(Tryz.prog.info? 67).map (λi=>(i.zero,i.size,i.bytes))=some (some .nilIface,1,16):=qkr
def Pn:Tryz.prog.underlying 46=some (.slice 67):=qkr
def aeR w:(zeroValue 284).run j6 w=.ok .nilFunc w:=qkr
def aiq w P l v:=RowV QD 1 w P l v
section
variable {m:MV}
def SX.decl(h:SX w N rb sb m s k){b:Nat}(hb:m.a=Mv b):MS j8 w b (Kc rb):=by
 have⟨b',e,_,_,hM⟩:=h.ev.mp.d;rw[hb]at e
 cases e
 exact hM
def SX.ma(h:SX w N rb sb m s k):∃b,m.a=Mv b:=by
 have⟨b',e,_,_,hM⟩:=h.ev.mp.d;exact⟨b',e⟩
def Po(hs:s.size<=1000)(hT:(ja s 0).length<=1001)(h:SX w N rb sb m s k)(hn:(ja s 0).length<=k+1+n){b:Nat}(hmd:m.a=Mv b):
 Cq 83 #[rp rb,Mv b] w (ap aiq N rb sb m s (dD (ja s 0) (eG (ja s 0) n) (ja s 0).length [] k) w):=by
 obtain⟨r,hr⟩:∃r,r=dD (Pu.bG s 0) (eG (Pu.bG s 0) n) (Pu.bG s 0).length [] k:=⟨_,rfl⟩;rw[<-hr];have H:=cD.at h hr;clear h hr;go_enter func83,ntmps83
 go_wp2
 go_loopg[5] ((ja s 0).length-k) (λgk v wr=>Gg (λ_=>True) QD 67 1 N rb sb m s k w r (λf L _=>dD (ja s 0) (eG (ja s 0) n) f L) gk v wr)
 case atStart=>exact⟨k,[],(ja s 0).length,none,0,0,rfl,trivial,H.row bA (db.nil _ _ _ _ _) ⟨br _,.inl rfl⟩,ai rfl,br _,ah,ae⟩
 case round=>
  clear H;obtain⟨kr,L,f,va,vc,_,rfl,-,H,bE,hle,UU,hfu⟩:=hrel;have hM:=H.sx.decl hmd;have hl:=dY hM Tryz.underlying240 (aeR wr)<|aq<|tk (ja s 0) kr;have hkr:=H.sx.lt;have zw:=H.ke.size;have hrw:=H.p.block;have⟨c,ff,z⟩:=H.sx.bx;have Y:(aU (tk (ja s 0) kr) lO=false/\aU (tk (ja s 0) kr) r9=false)\/∃F,(∀args w,(callFunc F args).run j6 w=.ok (.enter F args) w)/\bd (aq<|tk (ja s 0) kr) (Kc rb)=some (oq F rb)/\Cq F #[rp rb] wr (ap PD N rb sb m s ((eG (ja s 0) n) kr) wr)/\(aU (tk (ja s 0) kr) lO=true\/aU (tk (ja s 0) kr) r9=true):=by
   cases n0:aU (tk (ja s 0) kr) lO
   .cases n1:aU (tk (ja s 0) kr) r9
    .exact .inl ⟨rfl,rfl⟩
    .exact .inr ⟨136,λ_ _=>qkr,by rw[gn n1];rfl,by rw[show(eG (ja s 0) n) kr=_ from if_neg (by simp[n0])];exact WI hs (abo hs hT n) H.sx ae,.inr rfl⟩
   .exact .inr ⟨135,λ_ _=>qkr,by rw[gn n0];rfl,by rw[show(eG (ja s 0) n) kr=_ from if_pos n0];exact Pm hs hT H.sx ae,.inl rfl⟩
  obtain⟨n0,n1⟩|⟨F,IR,hg,HC,hb⟩:=Y
  .have H:=H.re (g':=λk=>.ok (L,k))<|Dp n0 n1;simp only[sW (L:=Kc rb) (eH s kr hkr) H.sx.ok (by simp[n0,n1];decide),kO]at hl
   go_wp2
   go_ret;exact H.done λR=>R.v bA
  .obtain⟨f,rfl⟩:∃f',f=f'+1:=⟨f-1,ae⟩;have H:=H.re<|r_ hb;simp only[hg,kO]at hl;clear hg hb;go_wp2_with fail;refine H.call HC ?_ (st:=λa=>wI _ _ _ _);intro a k2 v w1 H q V;obtain⟨tv,xv,rfl⟩:=V.iface;have l2:=abu _ _ _ _ _ q;clear HC c ff z hl hM q;go_wp2_with(at_builtin;go_must(refine H.append (D:=[Fv tv<|Av xv]) hT bA abv Pn H.p.1 zw (λb e=>(hrw b e).2) (c:=λ_=>Fv tv<|Av xv) V ae ?_;intro q3 c3 w3 H));go_roundg((ja s 0).length-k2)
   case measure=>rw[uh bE];omega
   case rel=>exact⟨k2,L++[a],f,_,c3,0,ah,trivial,H,ai rfl,ae,bi,ae⟩
def ak_ w P l(v:Value):=∃u,v=.agg #[u]/\RowV QD 1 w P l u
def WJ(hs:s.size<=1000)(hT:(ja s 0).length<=1001)(h:SX w N rb sb m s k)(hn:(ja s 0).length<=k+1+n):
 Cq 44 #[rp rb] w (ap ak_ N rb sb m s (dD (ja s 0) (eG (ja s 0) n) (ja s 0).length [] k) w):=by
 obtain⟨b,hma⟩:=h.ma;have hz:=h.z;have hNw:=h.ev.hN;have⟨b0,B0⟩:=Hu w #[.slice none 0 0] 48;have HC:=Po (n:=n) hs hT (h.af b0) hn hma;obtain⟨c,f,z⟩:=(h.af b0).bx;go_enter func44,ntmps44;go_wp2_with fail;refine HC.mono ?_;intro e w1 hp
 cases hA:fin (ja s 0) (dD (ja s 0) (eG (ja s 0) n) (ja s 0).length [] k)with
 |error f=>
  exact RI
 |ok rr=>
 obtain⟨l,k1⟩:=rr;obtain⟨v,rfl,hb,S1,hR⟩:=hp.ok hA;have RV:=(RowV.move hR bA (br _) (λ_ _ _=>rfl)<|λb p _=>by simpa using p);obtain⟨va,vc,cs,rfl,_,_⟩:=hR;have B1:=ai (B0.J9 hb<|by omega);have K1:=(qr b0).trans hb;have HE:=ai (uI hA).1;obtain⟨c,f,z⟩:=uh B1;go_wp2_with fail;obtain⟨cF,fF,zF⟩:=B1.aP 0 (.slice va l.length vc) #[.slice va l.length vc] rfl (by simp);exact bodyPost_ret (v:=.agg #[.slice va l.length vc]) (by simp[results,Tryz.results44,go_sem,cF]) rfl (ap.done HE (K1.oo (br _) 0 _) (S1.set (b:=w.heap.size) hNw 0 _) ⟨_,rfl,(RV.tT bA (b:=w.heap.size) (λc p=>by have p':w.heap.size+1<=c:=p;omega) 0 _).move bA (br _) (λ_ _ _=>rfl) (λb p _=>by have p':w.heap.size+1<=b:=p;show w.heap.size<=b;omega)⟩)
end
abbrev zF:Array Value:=#[Iv 0,Iv 0,Iv 0]
end
def NmL(s:BA):=∃x r,s.toList=x::r/\jl x.toNat=true/\(∀y∈r,Pu.aV y.toNat=true)/\Pu.fN ⟨(x::r).toArray⟩=false
def NmV(s:BA):=∃x r,s.toList=39::x::r/\jl x.toNat=true/\(∀y∈r,Pu.aV y.toNat=true)/\Pu.fN ⟨(x::r).toArray⟩=false
inductive Ty3:Nd->Prop where
 |var(s:BA)(n f t a:Nat):NmV s->s.size<=400->n=0->Ty3 (.mk 16 s n [] f t a)
 |up(s:BA)(n:Nat)(L:List Nd)(f t a:Nat):EG s->s.size<=400->n=0->(∀x∈L,Ty3 x)->Ty3 (.mk 2 s n L f t a)
 |pr(x y:Nd)(f t a:Nat):Ty3 x->Ty3 y->Ty3 (.mk 6 ph 0 [x,y] f t a)
 |fn(x y:Nd)(f t a:Nat):Ty3 x->Ty3 y->Ty3 (.mk 17 ph 0 [x,y] f t a)
inductive Pa3:Nd->Prop where
 |any(s:BA)(f t a:Nat):s.size<=400->Pa3 (.mk 15 s 0 [] f t a)
 |low(s:BA)(f t a:Nat):NmL s->s.size<=400->Pa3 (.mk 1 s 0 [] f t a)
 |num(s:BA)(n f t a:Nat):n<1000000000->s.size<=400->Pa3 (.mk 3 s n [] f t a)
 |word(s:BA)(f t a:Nat):s.toList=fH.toList\/s.toList=di.toList->s.size<=400->Pa3 (.mk 4 s 0 [] f t a)
 |unit(f t a:Nat):Pa3 (.mk 5 ph 0 [] f t a)
 |pr(x y:Nd)(f t a:Nat):Pa3 x->Pa3 y->Pa3 (.mk 6 ph 0 [x,y] f t a)
 |up(s:BA)(n:Nat)(L:List Nd)(f t a:Nat):EG s->s.size<=400->n=0->(∀x∈L,Pa3 x)->Pa3 (.mk 2 s n L f t a)
inductive pO:Nd->Prop where
 |low(s:BA)(f t a:Nat):NmL s->s.size<=400->pO (.mk 1 s 0 [] f t a)
 |up(s:BA)(f t a:Nat):EG s->s.size<=400->pO (.mk 2 s 0 [] f t a)
 |num(s:BA)(n f t a:Nat):n<1000000000->s.size<=400->pO (.mk 3 s n [] f t a)
 |word(s:BA)(f t a:Nat):s.toList=fH.toList\/s.toList=di.toList->s.size<=400->pO (.mk 4 s 0 [] f t a)
 |unit(f t a:Nat):pO (.mk 5 ph 0 [] f t a)
 |pr(x y:Nd)(f t a:Nat):pO x->pO y->pO (.mk 6 ph 0 [x,y] f t a)
 |of(x y:Nd)(f t a:Nat):pO x->Ty3 y->pO (.mk 14 ph 0 [x,y] f t a)
 |op(s:BA)(x y:Nd)(f t a:Nat):s=jI\/s=fs\/s=il\/s=ik->pO x->pO y->pO (.mk 7 s 0 [x,y] f t a)
 |call(x y:Nd)(f t a:Nat):pO x->pO y->pO (.mk 8 ph 0 [x,y] f t a)
 |fn(s:BA)(x:Nd)(f t a:Nat):NmL s->s.size<=400->pO x->pO (.mk 9 s 0 [x] f t a)
 |lt(s:BA)(x z:Nd)(f t a:Nat):NmL s->s.size<=400->pO x->pO z->pO (.mk 10 s 0 [x,z] f t a)
 |ltr(s s':BA)(x z:Nd)(f t a f' t' a':Nat):NmL s->s.size<=400->NmL s'->s'.size<=400->pO x->pO z->pO (.mk 11 s 0 [.mk 9 s' 0 [x] f' t' a',z] f t a)
 |ite(x y z:Nd)(f t a:Nat):pO x->pO y->pO z->pO (.mk 12 ph 0 [x,y,z] f t a)
 |mt(x:Nd)(A:List (Nd×Nd))(f t a:Nat):A≠[]->pO x->(∀p∈A,Pa3 p.1)->(∀p∈A,pO p.2)->pO (.mk 13 ph 0 (x::bh A) f t a)
def Fn3(nd:Nd):=∃s x f t a,nd=.mk 9 s 0 [x] f t a/\NmL s/\s.size<=400/\pO x
section
variable {e:Nat}
def Up3(P:Nd->Prop)(nd:Nd):=∃s L f t a,nd=.mk 2 s 0 L f t a/\EG s/\s.size<=400/\∀x∈L,P x
end
section
open Un
def oP(s:BA):∀f i,∃l,Pu.oN s f i=l++[Pu.fB s]/\l.length<=f
 |0,i=>⟨[],rfl,ah⟩|f+1,i=>by
  rw[Pu.oN];split
  .split
   .have⟨l,h1,h2⟩:=oP s f<|i+1;exact⟨l,h1,ae⟩
   .have⟨l,h1,h2⟩:=oP s f (jj s i).t9;exact⟨jj s i::l,by rw[h1];rfl,bi⟩
  .exact⟨[],rfl,ah⟩
def D3:Dc->Prop
 |.ty t vs ms=>EG t.text/\t.text.size<=400/\(∀v∈vs,NmV v.text/\v.text.size<=400)/\ms≠[]/\∀m∈ms,Up3 Ty3 m|.lt r t b=>NmL t.text/\t.text.size<=400/\pO b/\(r=true->Fn3 b)
end
section
open Go.ChangeMaps
def FM w b(F:BA->Option Nat):=∃L,MS j8 w b L/\∀x,bd x L=(F x).map λ(n:Nat)=>Nv n
section
variable {b c:Nat} {F:BA->Option Nat}
def FM.lt(h:FM w b F):b<w.heap.size:=qAr
def FM.same(h:FM w b F)(hb:w'.heap[b]? =w.heap[b]?):FM w' b F:=qAs
def FM.below(h:FM w b F)(hb:Bq w w'):FM w' b F:=h.same<|hb.block b h.lt
def Az w:(zeroValue 3).run j6 w=.ok (Iv 0) w:=qkr
def lkV(c:Bool):Option Nat->Value
 |some n=>if c then .tuple #[Nv n,.bool true]else Nv n|none=>if c then .tuple #[Iv 0,.bool false]else Iv 0
def FM.look(h:FM w b F)x c:(qm 143 (Mv b) (.string x) c).run j6 w=.ok (lkV c<|F x) w:=by
 obtain⟨L,h1,h2⟩:=h;rw[h1.look (q9 j7) Tryz.underlying143 (Az w) x trivial (λ_ _=>trivial) c,h2 x]
 cases F x<;>rfl
def FM.put(h:∀x,bd x L=(F x).map λ(n:Nat)=>Nv n)s n:∀x,bd x (bn s (Nv n) L)=(wX F s n x).map λ(n:Nat)=>Nv n:=by grind[bd,bn,wX,aN]
def WL w x c:(qm 143 (.map none) (.string x) c).run j6 w=.ok (lkV c none) w:=by
 rw[qm];simp only[Sem.run_bind,run_underlying Tryz.underlying143,Result.andThen];have hf:(Instr.findKey 9 (Sv x) []).run j6 w=.ok none w:=(q9 j7).fin x [] [] w trivial ah rfl
 cases c<;>simp[Az,Result.andThen,(q9 j7).chk,lkV,hf]
def MV' w v F:=(v=.map none/\F=λ_=>none)\/∃b,v=Mv b/\FM w b F
def MV'.look{v}(h:MV' w v F)x c:(qm 143 v (.string x) c).run j6 w=.ok (lkV c<|F x) w:=by
 obtain⟨rfl,rfl⟩|⟨b,rfl,h⟩:=h
 .exact WL w x c
 .exact h.look x c
def Gi{p:Prop}(h:p:=by
 rw[hF]at hl;simp only[lkV,if_true]at hl;go_enter func175,ntmps175
 go_wp2
 go_ret
 exact⟨rfl,rfl⟩):p:=h
def afN{v:Value}(h:MV' w v F)s:Cq 175 #[v,.string s] w λe w'=>e=.returned (.bool (F s).isSome)/\w'=w:=by
 have hl:=h.look s true
 cases hF:F s with
 |none=>
  exact Gi
 |some n=>
  exact Gi
def Th{v:Value}(h:MV' w v F)(hF:F s=some n):Cq 207 #[v,.string s,Nv n] w λe w'=>e=.returned (.bool true)/\w'=w:=by
 have hl:=h.look s true;rw[hF]at hl;simp only[lkV,if_true]at hl;go_enter func207,ntmps207
 go_wp2
 go_ret;exact⟨ah,rfl⟩
end
def LM w b(lo:BA->Nat):=∃L,MS j8 w b L/\∀x,bd x L=some (Nv<|lo x)\/(bd x L=none/\lo x=0)
structure CK w cb tb mb lb ty mk lo:Prop where
 bx:Bx w cb #[Mv tb,Mv mb,Mv lb,Iv 0,Iv 0,Iv 0]
 t:FM w tb ty
 m:FM w mb mk
 l:LM w lb lo
 n:cb≠tb/\cb≠mb/\cb≠lb/\tb≠mb/\tb≠lb/\mb≠lb
section
variable {cb tb mb lb:Nat} {ty mk:BA->Option Nat} {lo:BA->Nat}
def LM.lt{b}(h:LM w b lo):b<w.heap.size:=qAr
def LM.same{b}(h:LM w b lo)(hb:w'.heap[b]? =w.heap[b]?):LM w' b lo:=qAs
def LM.look{b}(h:LM w b lo)x:(qm 143 (Mv b) (.string x) false).run j6 w=.ok (Nv<|lo x) w:=by
 obtain⟨L,h1,h2⟩:=h;rw[h1.look (q9 j7) Tryz.underlying143 (Az w) x trivial (λ_ _=>trivial) false];obtain q|⟨q,q2⟩:=h2 x
 .rw[q];rfl
 .rw[q,q2];rfl
def LM.put(h:∀x,bd x L=some (Nv<|lo x)\/(bd x L=none/\lo x=0))s n:∀x,bd x (bn s (Nv n) L)=some (.int .i64 ((if x=s then n else lo x:Nat):Int))\/(bd x (bn s (Nv n) L)=none/\(if x=s then n else lo x)=0):=by grind[bd,bn,aN]
def CK.lts(h:CK w cb tb mb lb ty mk lo):cb<w.heap.size/\tb<w.heap.size/\mb<w.heap.size/\lb<w.heap.size:=⟨h.bx.z,h.t.lt,h.m.lt,h.l.lt⟩
def CK.fr{S:Nat->Prop}(h:CK w cb tb mb lb ty mk lo)(k:Fr S w w')(n:∀b,S b->b≠cb/\b≠tb/\b≠mb/\b≠lb):CK w' cb tb mb lb ty mk lo:=
 ⟨h.bx.fr k λq=>(n _ q).1 rfl,h.t.same<|k.block tb h.t.lt λq=>(n _ q).2.1 rfl,h.m.same<|k.block mb h.m.lt λq=>(n _ q).2.2.1 rfl,h.l.same<|k.block lb h.l.lt λq=>(n _ q).2.2.2 rfl,h.n⟩
def CK.af(h:CK w cb tb mb lb ty mk lo)(k:Bq w w'):CK w' cb tb mb lb ty mk lo:=h.fr (S:=λ_=>False) ⟨k.os,k.tape,k.output,k.size,λb q _=>k.block b q⟩ λ_ q=>q.elim
abbrev cp b:=Pv b
end
end
def dR{α:Type}(B:Nat)(P:Nat->Prop)(Q:EQ α)(et:TypeId)(sz:Nat)(w:World)(v:Value)(L:List α):=
 ∃va vc cs,v=.slice va L.length vc/\w.ownsRow B et sz v L.length (bL cs sz L.length)/\∀i(h:i<L.length),Q w (λb=>P b/\b<w.heap.size/\v.ownBlock≠some b) L[i]<|cs i
def DQ(cs:Nat->Nat->Value)(sz n:Nat):∀m,bL cs sz (n+m)=bL cs sz n++bL (λi=>cs<|n+i) sz m
 |0=>by simp[bL]|m+1=>by rw[<-Nat.add_assoc];simp only[bL];rw[DQ cs sz n m,List.append_assoc]
section
variable {Q:EQ α} {sz:Nat} {v:Value} {L:List α}
def dR.nil(B:Nat)(P:Nat->Prop)(Q:EQ α)(et:TypeId)(sz:Nat)(w:World):dR B P Q et sz w (.slice none 0 0) []:=⟨none,0,λ_ _=>.nilIface,rfl,qf _ _ _ _,λi h=>absurd h ah⟩
def dR.af(hQ:cu Q)(h:dR B P Q et sz w v L)(k:Bq w w'):dR B P Q et sz w' v L:=by
 obtain⟨va,vc,cs,e,ho,hr⟩:=h;exact⟨va,vc,cs,e,gT ho k,λi hi=>hQ _ _ _ _ _ _ (hr i hi) k.size (λb _ z=>k.block b z) λb p _=>⟨p.1,jq p.2.1 k.size,p.2.2⟩⟩
def dR.rv(hQ:cu Q)(h:dR B P Q et sz w v L):RowV Q sz w (λb=>P b\/B<=b) L v:=by
 obtain⟨va,vc,cs,e,⟨h1,h2⟩,hr⟩:=h;refine⟨va,vc,cs,e,?_,λi hi=>hQ _ _ _ _ _ _ (hr i hi) (br _) (λ_ _ _=>rfl) λ_ p _=>.inl p.1⟩;subst e;obtain⟨_,hz⟩|⟨q,cap,jL,hv,hg,hh,_,_,_,ht⟩:=h2
 .exact .inl (qu hz)
 .injection hv with e1 e2 e3;subst e1;refine .inr ⟨q,rfl,.inr hg,(Array.getElem?_eq_some_iff.1 hh).1,λi hi j hj=>?_⟩;exact SY
def dR.Vd(h:dR B P Q et sz w v L):∃a c,v=.slice a L.length c/\L.length<=c/\(a=none->c=0):=by
 obtain⟨va,vc,cs,e,⟨_,h2⟩,hr⟩:=h;subst e;refine⟨va,vc,rfl,?_⟩;obtain⟨q,_⟩|⟨g,cap,jL,hv,_,_,h3,_⟩:=h2
 .injection q with q1 q2 q3;rw[q1,q2,q3];exact⟨br _,λ_=>rfl⟩
 .injection hv with q1 q2 q3;subst q1 q3;exact⟨h3,λq=> eh⟩
def dR.own(h:dR B P Q et sz w v L):∀k,v.ownBlock=some k->B<=k/\k<w.heap.size:=by
 obtain⟨va,vc,cs,e,ho,hr⟩:=h;exact cN ho
def Q7(Q:EQ α)(sz:Nat)(w:World)(P:Nat->Prop)(L:List α)(a:Option Addr)(c:Nat):=
 (a=none->c=0)/\∃cs:Nat->Nat->Value,(L=[]\/∃g o,a=some ⟨g,o,none⟩/\∀i,i<L.length->∀j,j<sz->w.cell? ⟨g,o+(i*sz+j),none⟩=some (cs i j))/\∀i(h:i<L.length),Q w P L[i] (cs i)/\∀j,j<sz->(cs i j).oneCell'=true
def DR{cs:Nat->Nat->Value}{sz:Nat}{u:Value}:∀{n},u∈bL cs sz n->∃i j,i<n/\j<sz/\u=cs i j
 |0,h=>by simp[bL]at h|n+1,h=>by
  simp only[bL,List.mem_append,List.mem_map,List.mem_range]at h;obtain h|⟨j,hj,rfl⟩:=h
  .have⟨i,j,h1,h2,h3⟩:=DR h;exact⟨i,j,ae,h2,h3⟩
  .exact⟨n,j,ae,hj,rfl⟩
def dR.after{v3:Value}{M:List α}{c2:Nat->Nat->Value}(hQ:cu Q)(e:v=.slice va L.length vc)(HO:w.ownsRow B et sz v L.length (bL cs sz L.length))(HP:∀i(h:i<L.length),Q w (λb=>P b/\b<w.heap.size/\v.ownBlock≠some b) L[i]<|cs i)(hq:∀i(h:i<M.length),Q w P2 M[i]<|c2 i)(hP:∀b,P2 b->b<w.heap.size->P b/\v.ownBlock≠some b)(hB:B<=w.heap.size)(O3:w3.ownsRow B et sz v3 (L.length+M.length) (bL cs sz L.length++bL c2 sz M.length))(g3:w.grownBy w3 v.ownBlock)(l3:v3.ownBlock=v.ownBlock\/v3.ownBlock=some w.heap.size):dR B P Q et sz w3 v3 (L++M)/\Below B w w3:=by
 have BG:=cN HO;refine⟨?_,⟨g3.os,g3.tape,g3.output,g3.size,λk hk=>g3.block k ae λe=>by have:=(BG k e.symm).1;omega⟩⟩;have e3:∃nk np,v3=Lv nk (L++M).length np:=by
  obtain⟨_,h2⟩:=O3;rw[dr];obtain⟨q,q'⟩|⟨g,cap,jL,q,_⟩:=h2
  .exact⟨none,0,by rw[q,q']⟩
  .exact⟨_,_,q⟩
 obtain⟨nk,np,e3⟩:=e3;have cJ:∀b,b<w.heap.size->v.ownBlock≠some b->v3.ownBlock≠some b:=λb hb hn q=>by
  obtain g|g:=l3
  .exact hn (g▸q)
  .rw[g]at q;cases q;omega
 refine⟨nk,np,λi=>if i<L.length then cs i else c2 (i-L.length),e3,?_,λi hi=>?_⟩
 .rw[dr,DQ,kQ (ds:=cs) L.length λi hi=>if_pos hi,kQ (ds:=c2) M.length λi hi=>by rw[if_neg ae,Nat.add_sub_cancel_left]];exact O3
 .by_cases q:i<L.length
  .rw[qv q];simp only[q,if_true];exact hQ _ _ _ _ _ _ (HP i q) g3.size (λb p z=>g3.block b z λe=>p.2.2 e.symm) λb p z=>⟨p.1,jq z g3.size,cJ b z p.2.2⟩
  .have tH:i-L.length<M.length:=by rw[dr]at hi;omega
   rw[List.getElem_append_right ae];simp only[q,if_false];exact hQ _ _ _ _ _ _ (hq _ tH) g3.size (λb p z=>g3.block b z λe=>(hP b p z).2 e.symm) λb p z=>⟨(hP b p z).1,jq z g3.size,cJ b z (hP b p z).2⟩
def uW{M:List α}(hz:0<sz)(hu:Q7 Q sz w P2 M (some ad) uc):∃c2:Nat->Nat->Value,(∀j u,(bL c2 sz M.length)[j]? =some u->w.cell? (ad.add j)=some u)/\(∀u∈bL c2 sz M.length,u.oneCell'=true)/\∀i(h:i<M.length),Q w P2 M[i]<|c2 i:=by
 obtain⟨h0,c2,hc,hq⟩:=hu;refine⟨c2,λj u hj=>?_,λu hu=>?_,λi h=>(hq i h).1⟩
 .obtain rfl|⟨g,o,q,hc⟩:=hc
  .simp[bL]at hj
  .cases q
   have⟨aZ,_⟩:=List.getElem?_eq_some_iff.1 hj;rw[gX]at aZ;have d1:j/sz<M.length:=Nat.div_lt_of_lt_mul (by rwa[Nat.mul_comm]at aZ);have d2:j%sz<sz:=Nat.mod_lt _ hz;have d3:j/sz*sz+j%sz=j:=by rw[Nat.mul_comm];exact Nat.div_add_mod j sz
   have:=sC c2 sz M.length _ _ d1 d2;rw[d3,hj]at this
   cases this
   have:=hc _ d1 _ d2;rw[d3]at this;rw[<-this];unfold Addr.add;split
   .subst ‹j=0›;rfl
   .rfl
 .obtain⟨i,j,h1,h2,rfl⟩:=DR hu;exact(hq i h1).2 j h2
def dR.cat{t:Nat}{z:Value}{M:List α}{ua:Option Addr}(H:dR B P Q et sz w v L)(hQ:cu Q)(inf:(Tryz.prog.info? et).map (λi=>(i.zero,i.size,i.bytes))=some (some z,sz,bytes))(ut:Tryz.prog.underlying t=some (.slice et))(hu:Q7 Q sz w P2 M ua uc)(hP:∀b,P2 b->b<w.heap.size->P b/\v.ownBlock≠some b)(hl:L.length+M.length<=1000000)(hB:B<=w.heap.size)(h:∀v' w',dR B P Q et sz w' v' (L++M)->Below B w w'->wpList j6 ops K rest (ac.put o.dst v') w')(hz:z.cells.size=sz/\0<sz/\bytes<=1000:=by decide)(JO:o.guard=none:=by rfl)(ho:o.op=.call {callee:=.builtin .append,args:=#[sO,xO],argTypes:=#[t,t]}:=by rfl)(hs:ac.eval sO=v:=by rfl)(hx:ac.eval xO=.slice ua M.length uc:=by rfl):
 wpList j6 ops K (o::rest) ac w:=by
 have⟨i0,m6,ku,gS,gC⟩:=info_parts inf;have⟨va,vc,cs,e,HO,HP⟩:=id H
 cases ua with
 |none=>
  obtain⟨h0,c2,hc,hq⟩:=hu;obtain rfl:=h0 rfl;obtain rfl:M=[]:=hc.elim id λ⟨g,o,q,_⟩=>eh;refine wpList_append_own_none JO sO xO t ho B et i0 sz ut m6 v L.length _ hs HO hx ?_;exact h v w (by simpa using H) (qj _ _)
 |some ad=>
  have⟨c2,hc',W4,hq⟩:=uW hz.2.1 hu;refine wpList_append_own_at _ JO sO xO t ho B et i0 _ sz bytes ut m6 ku gS gC hz.1 hz.2.1 v L.length _ hs HO ad M.length uc (bL c2 sz M.length) hx (gX _ _ _) hc' W4 NR (jt (ju _ hz.2.2) ae) hB ?_;intro v3 w3 O3 g3 n3 l3;have⟨h1,h2⟩:=dR.after hQ e HO HP hq hP hB O3 g3 l3;exact h v3 w3 h1 h2
def dR.ahU{t:Nat}{z:Value}{M:List α}(H:dR B P Q et sz w v L)(hQ:cu Q)(inf:(Tryz.prog.info? et).map (λi=>(i.zero,i.size,i.bytes))=some (some z,sz,bytes))(ut:Tryz.prog.underlying t=some (.slice et))(hu:Q7 Q sz w P2 M (some ad) uc)(hP:∀b,P2 b->b<w.heap.size->P b/\v.ownBlock≠some b)(hl:L.length+M.length<=1000000)(hB:B<=w.heap.size)(h:∀v' w',dR B P Q et sz w' v' (L++M)->Below B w w'->w.grownBy w' v.ownBlock->(v'.ownBlock=v.ownBlock\/v'.ownBlock=some w.heap.size)->wpList j6 ops K rest (ac.put o.dst v') w')(hz:z.cells.size=sz/\0<sz/\bytes<=1000:=by decide)(JO:o.guard=none:=by rfl)(ho:o.op=.call {callee:=.builtin .append,args:=#[sO,xO],argTypes:=#[t,t]}:=by rfl)(hs:ac.eval sO=v:=by rfl)(hx:ac.eval xO=.slice (some ad) M.length uc:=by rfl):
 wpList j6 ops K (o::rest) ac w:=by
 have⟨i0,m6,ku,gS,gC⟩:=info_parts inf;have⟨va,vc,cs,e,HO,HP⟩:=id H;have⟨c2,hc',W4,hq⟩:=uW hz.2.1 hu;refine wpList_append_own_at _ JO sO xO t ho B et i0 _ sz bytes ut m6 ku gS gC hz.1 hz.2.1 v L.length _ hs HO ad M.length uc (bL c2 sz M.length) hx (gX _ _ _) hc' W4 NR (jt (ju _ hz.2.2) ae) hB ?_;intro v3 w3 O3 g3 n3 l3;have⟨h1,h2⟩:=dR.after hQ e HO HP hq hP hB O3 g3 l3;exact h v3 w3 h1 h2 g3 l3
def dR.wide(hQ:cu Q)(h:dR B P Q et sz w v L)(hp:∀b,P b->b<w.heap.size->P' b):dR B P' Q et sz w v L:=by
 obtain⟨va,vc,cs,e,HO,HP⟩:=h;exact⟨va,vc,cs,e,HO,λi hi=>hQ _ _ _ _ _ _ (HP i hi) (br _) (λ_ _ _=>rfl) λb p z=>⟨hp b p.1 z,p.2⟩⟩
def dR.oth{row:Option Nat}(hQ:cu Q)(h:dR B P Q et sz w v L)(g:w.grownBy w' row)(h1:∀b,row=some b->v.ownBlock≠some b)(h2:∀b,P b->row≠some b):dR B P Q et sz w' v L:=by
 obtain⟨va,vc,cs,e,HO,HP⟩:=h;have BG:=cN HO;refine⟨va,vc,cs,e,lK HO λb hb=>g.block b (BG b hb).2 λq=>h1 b q.symm hb,λi hi=>hQ _ _ _ _ _ _ (HP i hi) g.size (λb p z=>g.block b z λq=>h2 b p.1 q.symm) λb p z=>⟨p.1,jq z g.size,p.2.2⟩⟩
def dR.ty(h:dR B P Q et sz w v L){b:Nat}(e:v.ownBlock=some b):∃c,w.heap[b]? =some (.cells c et (0,0)):=by
 obtain⟨va,vc,cs,e',⟨_,h2⟩,_⟩:=h;obtain⟨q,_⟩|⟨g,cap,jL,q,_,hh,_⟩:=h2
 .rw[q]at e;cases e
 .rw[q]at e;cases e;exact⟨jL,hh⟩
def dR.step{ops:Array Oper}{o:Oper}{ac:Act}{K:Act->World->Prop}{X:Exit->Act->World->Prop}{E:Prop}{sO xO:Operand}{t bytes:Nat}{z:Value}{M:List α}{P2:Nat->Prop}{ad:Addr}{uc:Nat}(H:dR B P Q et sz w v L)(hQ:cu Q)(inf:(Tryz.prog.info? et).map (λi=>(i.zero,i.size,i.bytes))=some (some z,sz,bytes))(ut:Tryz.prog.underlying t=some (.slice et))(hu:Q7 Q sz w P2 M (some ad) uc)(hP:∀b,P2 b->b<w.heap.size->P b/\v.ownBlock≠some b)(hl:L.length+M.length<=1000000)(hB:B<=w.heap.size)(h:∀v' w',dR B P Q et sz w' v' (L++M)->Below B w w'->w.grownBy w' v.ownBlock->K (ac.put o.dst v') w')(hz:z.cells.size=sz/\0<sz/\bytes<=1000:=by decide)(JO:o.guard=none:=by rfl)(ho:o.op=.call {callee:=.builtin .append,args:=#[sO,xO],argTypes:=#[t,t]}:=by rfl)(hs:ac.eval sO=v:=by rfl)(hx:ac.eval xO=.slice (some ad) M.length uc:=by rfl):
 if Region.wanted o (yielded ops ac.tmps)=true then Oper.wp j6 o ac w K X else E:=by
 have⟨i0,m6,ku,gS,gC⟩:=info_parts inf;have⟨va,vc,cs,e,HO,HP⟩:=id H;have⟨c2,hc',W4,hq⟩:=uW hz.2.1 hu;refine fk JO sO xO t ho B et i0 _ sz bytes ut m6 ku gS gC hz.1 hz.2.1 v L.length _ hs HO ad M.length uc (bL c2 sz M.length) hx (gX _ _ _) hc' W4 NR (jt (ju _ hz.2.2) ae) hB ?_;intro v3 w3 O3 g3 l3;have⟨h1,h2⟩:=dR.after hQ e HO HP hq hP hB O3 g3 l3;exact h v3 w3 h1 h2 g3
def dR.gE(hQ:cu Q)(h:dR B P Q et sz w v L){b:Nat}(hb:b<B)(hP:∀c,P c->c≠b)(j:Nat)(u:Value):dR B P Q et sz (w.setCell ⟨b,j,none⟩ u) v L:=by
 obtain⟨va,vc,cs,e,HO,HP⟩:=h;have BG:=cN HO;refine⟨va,vc,cs,e,lK HO λg hg=>ql _ _ _ _ (by have:=(BG g hg).1;show g≠b;omega),λi hi=>hQ _ _ _ _ _ _ (HP i hi) yG (λc p _=>ql _ _ _ _<|hP c p.1) λc p z=>⟨p.1,by simpa[qg]using z,p.2.2⟩⟩
end
namespace Ms
def QS:EQ Sk:=λw P s c=>c 0=.string s.kd/\c 1=Nv s.pl/\∃pa pc,c 2=.slice pa s.ps.length pc/\nL pa s.ps.length pc/\aS w P s.ps pa
def o9:cu QS:=λ_ _ _ _ _ _⟨h1,h2,pa,pc,h3,h4,h5⟩a b c=>⟨h1,h2,pa,pc,h3,h4,aS.mv a b c _ _ h5⟩
def QR:EQ (List Sk):=λw P r c=>∃a k,c 0=.slice a r.length k/\nL a r.length k/\aS w P r a
def aT:cu QR:=λ_ _ _ _ _ _⟨x,y,h3,h4,h5⟩a b c=>⟨x,y,h3,h4,aS.mv a b c _ _ h5⟩
def c3(g o:Nat)(w:World)(i j:Nat):Value:=(w.cell? ⟨g,o+(i*3+j),none⟩).getD .nilIface
def aS.cells{ps:List Sk}{g o:Nat}(q:aS w P ps (some ⟨g,o,none⟩)):∀i(h:i<ps.length),QS w P ps[i] (c3 g o w i)/\(∀j,j<3->w.cell? ⟨g,o+(i*3+j),none⟩=some (c3 g o w i j))/\∀j,j<3->(c3 g o w i j).oneCell'=true:=λi h=>by
 have⟨h1,h2,pa,pc,h3,h4,h5⟩:=(q.at i h).1.cells;have e0:c3 g o w i 0=.string ps[i].kd:=by unfold c3;rw[show o+(i*3+0)=o+i*3 by omega,h1];rfl
 have e1:c3 g o w i 1=Nv (ps[i].pl):=by unfold c3;rw[<-Nat.add_assoc,h2];rfl
 have e2:c3 g o w i 2=.slice pa ps[i].ps.length pc:=by unfold c3;rw[<-Nat.add_assoc,h3];rfl
 refine⟨⟨e0,e1,pa,pc,e2,h4,h5⟩,λj hj=>?_,λj hj=>?_⟩
 .match j,hj with
  |0,_=>rw[e0,<-h1];rfl|1,_=>rw[e1,<-h2,Nat.add_assoc]|2,_=>rw[e2,<-h3,Nat.add_assoc]
 .match j,hj with
  |0,_=>rw[e0];rfl|1,_=>rw[e1];rfl|2,_=>rw[e2];rfl
def aS.slc{a:Option Addr}{c:Nat}(q:aS w P ps a)(h:nL a ps.length c):Q7 QS 3 w P ps a c:=by
 refine⟨h.2,?_⟩
 match ps,q with
 |[],_=>exact⟨λ_ _=>Zv,.inl rfl,λi h=>absurd h ah⟩|p::ps,q=>
  obtain⟨g,o,rfl,_⟩:=q.ptr ah;exact⟨c3 g o w,.inr ⟨g,o,rfl,λi hi j hj=>(q.cells i hi).2.1 j hj⟩,λi hi=>⟨(q.cells i hi).1,(q.cells i hi).2.2⟩⟩
def SkM.ofQ{p:Sk}{o:Nat}{c:Nat->Value}(h:QS w P p c)(hc:∀j,j<3->w.cell? ⟨g,o+j,none⟩=some (c j)):SkM w P p g o:=by
 obtain⟨h1,h2,pa,pc,h3,h4,h5⟩:=h;have c0:=hc 0 ae;have c1:=hc 1 ae;have c2:=hc 2 ae;rw[h1]at c0;rw[h2]at c1;rw[h3]at c2
 cases p with
 |any=>exact⟨c0,c1,pa,pc,c2,h4⟩|hd t n ps=>exact⟨c0,c1,pa,pc,c2,h4,h5⟩
def aS.ofC{g:Nat}(hg:P g)(hz:g<w.heap.size):∀{ps:List Sk}{o:Nat}{cs:Nat->Nat->Value},(∀i,i<ps.length->∀j,j<3->w.cell? ⟨g,o+(i*3+j),none⟩=some (cs i j))->(∀i(h:i<ps.length),QS w P ps[i]<|cs i)->aS w P ps (some ⟨g,o,none⟩)
 |[],_,_,_,_=>trivial|p::ps,o,cs,hc,hq=>by
  refine⟨g,o,rfl,hg,hz,SkM.ofQ (hq 0 ah) (λj hj=>by have:=hc 0 ah j hj;simpa using this),aS.ofC hg hz (cs:=λi=>cs<|i+1) (λi hi j hj=>?_) λi hi=>?_⟩
  .have:=hc (i+1) yT j hj
   rwa[show o+((i+1)*3+j)=o+3+(i*3+j) by omega]at this
  .have:=hq (i+1) yT;simpa using this
def Q8{v:Value}{L:List Sk}(h:dR B P QS et 3 w v L):∃a c,v=.slice a L.length c/\nL a L.length c/\aS w (λb=>P b\/B<=b) L a:=by
 have⟨a,c,e,h1⟩:=h.Vd;have⟨va,vc,cs,e',hr,hq⟩:=h.rv o9;rw[e]at e';injection e' with e1 _ e2;subst e1 e2;refine⟨a,c,e,h1,?_⟩;obtain rfl|⟨g,rfl,hg,hz,hc⟩:=hr
 .trivial
 .exact aS.ofC hg hz (o:=0) (λi hi j hj=>by rw[j5];exact hc i hi j hj) hq
end Ms
def Ex:(Tryz.prog.info? 122).map (λi=>(i.zero,i.size,i.bytes))=some (some<|.agg #[.string ⟨#[]⟩,Iv 0,.slice none 0 0],3,48):=qkr
def La:Tryz.prog.underlying 124=some (.slice 122):=qkr
def aiC(hn:n<=1000)(P:Nat->Prop):Cq 132 #[.slice none 0 0,Nv n] w λe w'=>∃v,e=.returned v/\Bq w w'/\dR w.heap.size P Ms.QS 122 3 w' v []:=by
 by_cases h0:n=0
 .subst h0;go_enter func132,ntmps132
  go_wp2
  go_ret;exact⟨_,rfl,qj _ _,dR.nil _ _ _ _ _ _⟩
 .have⟨i0,m6,ku,gS,gC⟩:=info_parts Ex;have hrz:∀ty,(Builtin.append_ #[124,3] ty #[Lv none 0 0,Nv n]).run j6 w=_:=λty=>Lib.run_append_grow_zeros w 124 3 ty 122 i0 _ .i64 .i64 La qkr m6 ku none 0 0 [] (run_firstCells_none w.drew i0.size 0 0 0) n ae ae ae ae (by rw[gC];omega) (growslice_fits ae (by rw[gC];omega));have hG:=grownCap_ge w (0+n) 0 122;have hG2:=grownCap_le_maxLen w (0+n) 0 122 NR;generalize grownCap w (0+n) 0 122=G at hrz hG hG2;have hG3:G<=9223372036854775807:=hG2;have h1:¬((n:Int)<0):=ae;have h3:wrap64 ((n:Int)-0)=(n:Int):=by unfold wrap64;omega
  have h4:(n:Int)>0:=ae;have h5:(0:Int)<=(n:Int):=ae;go_enter func132,ntmps132;go_wp2_with(at_builtin;refine Lib.wpList_append_run _ rfl _ _ _ _ rfl _ _ rfl rfl _ _ (hrz _) ?_)
  all_goals(
   go_ret;refine⟨_,rfl,(qj _ _).drew.alloc (br _) _,some ⟨w.heap.size,0,none⟩,G,λ_ _=>Zv,rfl,⟨by simp[bL],.inr ⟨w.heap.size,G,_,rfl,br _,(MapKept.heap_alloc w.drew _).1,jy _,hG2,?_,by simp[bL]⟩⟩,λi h=>absurd h ah⟩;simp[size_zeroCells]
   omega)
section
variable {qs:List Ms.Sk} {pa qa:Option Addr} {pc qc h:Nat}
def Lb(hp:Ms.aS w P ps pa)(hq:Ms.aS w P qs qa)(sp:Ms.nL pa ps.length pc)(sq:Ms.nL qa qs.length qc)(c0:w.cell? ⟨h,0,none⟩=some (.slice pa ps.length pc))(c1:w.cell? ⟨h,1,none⟩=some (.slice qa qs.length qc))(hz:h<w.heap.size)(hl:ps.length+qs.length<=1000):
 Cq 101 #[.slice (some ⟨h,0,none⟩) 2 2] w λe w'=>∃a c,e=.returned (.slice a (ps++qs).length c)/\Bq w w'/\Ms.nL a (ps++qs).length c/\Ms.aS w' (λb=>P b\/w.heap.size<=b) (ps++qs) a/\∀ad,a=some ad->w.heap.size<=ad.block:=by
 have BH:(ps.length:Int)<=1000:=ae;have hq1:(qs.length:Int)<=1000:=ae;have HP:=ai hp;have HQ:=ai hq;have SP:=ai sp;have SQ:=ai sq;clear hp hq sp sq;obtain⟨A1,hA⟩:∃A1:Nat->Nat,A1=λj=>if j=0 then 0 else if j=1 then ps.length else ps.length+qs.length:=⟨_,rfl⟩;go_enter func101,ntmps101
 go_wp2
 go_loopg[3,11] 2 (λgk s c wr=>∃j:Nat,Hid (gk=2-j)/\j<=2/\s=Nv (A1 j)/\c=Nv j/\w=wr)
 case atStart=>exact⟨0,ai rfl,jy _,by rw[hA];rfl,rfl,rfl⟩
 case round=>
  obtain⟨j,bE,hj,rfl,rfl,rfl⟩:=hrel;by_cases aI:j<2
  .have hd:(j:Int)<2:=ae;have hx:∃xa xl xc,w.cell? ⟨h,j,none⟩=some (Lv xa xl xc)/\A1 (j+1)=A1 j+xl/\A1 j<=1000/\xl<=1000:=by
    obtain rfl|rfl:j=0\/j=1:=ae
    .exact⟨_,_,_,c0,by simp[hA],by simp[hA],ae⟩
    .exact⟨_,_,_,c1,by simp[hA],by simp[hA];omega,ae⟩
   obtain⟨xa,xl,xc,hc,ha,cU,mq⟩:=hx;have hd2:decide (((A1 j:Int)+(xl:Int))<0)=false:=bi;have HA:=ai ha;clear ha c0 c1 hA;generalize A1 j=a at*
   go_wp2
   go_roundg(2-(j+1))
   case measure=>rw[uh bE];omega
   case rel=>exact⟨j+1,ai rfl,ae,by rw[uh HA];go_num,d_,rfl⟩
  .have hd:decide ((j:Int)<2)=false:=bi;obtain rfl:j=2:=ae;have e2:A1 2=ps.length+qs.length:=by rw[hA];rfl
   rw[e2];have hg:=aiC (w:=w) (n:=ps.length+qs.length) hl P;clear hA e2;go_wp2_with fail;refine hg.mono ?_;rintro e w1⟨v,rfl,k1,R1⟩;have z1:=k1.size;have d0:=(qe (a:=⟨h,0,none⟩)<|k1.block h hz).trans c0;have d1:=(qe (a:=⟨h,1,none⟩)<|k1.block h hz).trans c1;have gS:h<w1.heap.size:=ae;have HB:=λ{ps:List Ms.Sk}{pa:Option Addr}(q:Ms.aS w P ps pa)(w':World)(k:Bq w w')=>Ms.aS.mv (Q:=λb=>P b/\b<w.heap.size) k.size (λg _ z=>k.block g z) (λg p z=>⟨p,z⟩) ps pa q;have vQ:=ai<|HB HP;have HQ1:=ai<|HB HQ;have R2:=ai R1;have K2:=ai k1;clear c0 c1 HP HQ HB hg bE hj aI hd R1 k1
   go_wp2
   go_loopg[6,27] 2 (λgk s c w'=>∃j:Nat,Hid (gk=2-j)/\j<=2/\c=Nv j/\Hid (dR w.heap.size P Ms.QS 122 3 w' s<|if j=0 then[]else if j=1 then ps else ps++qs)/\Hid (Bq w w')/\w'.cell? ⟨h,0,none⟩=some (Lv pa ps.length pc)/\w'.cell? ⟨h,1,none⟩=some (Lv qa qs.length qc))
   case atStart=>exact⟨0,ai rfl,jy _,rfl,R2,K2,d0,d1⟩
   case round=>
    clear d0 d1 R2 K2 z1 gS;obtain⟨j,bE,hj,rfl,R2,K2,d0,d1⟩:=hrel;by_cases aI:j<2
    .have hd:(j:Int)<2:=ae;have hx:∃L M xa xc,wr.cell? ⟨h,j,none⟩=some (Lv xa (List.length M) xc)/\(∀w',Bq w w'->Ms.aS w' (λb=>P b/\b<w.heap.size) M xa)/\Ms.nL xa M.length xc/\dR w.heap.size P Ms.QS 122 3 wr u6 L/\L.length+M.length<=1000/\L++M=(if j+1=0 then[]else if j+1=1 then ps else ps++qs):=by
      obtain rfl|rfl:j=0\/j=1:=ae
      .exact⟨[],ps,pa,pc,d0,uh vQ,uh SP,uh R2,bi,ah⟩
      .exact⟨ps,qs,qa,qc,d1,uh HQ1,uh SQ,uh R2,hl,ah⟩
     obtain⟨L,M,xa,xc,hc,hM,hS,hR,hlM,hE⟩:=hx;have hM':=hM wr<|uh K2;have HE:=ai hE;have hRo:=hR.own;have zw:=(uh K2).size;clear hM hE;go_wp2_with(at_builtin;refine hR.cat Ms.o9 Ex La (hM'.slc hS) (λb p _=>⟨p.1,λe=>by have:=(hRo b e).1;omega⟩) ae zw ?_;intro v3 w3 R3 k3);go_roundg(2-(j+1))
     case measure=>rw[uh bE];omega
     case rel=>exact⟨j+1,ai rfl,ae,d_,ai (by rw[<-uh HE];exact R3),ai<|(uh K2).trans k3,(qe (a:=⟨h,0,none⟩)<|k3.block h hz).trans d0,(qe (a:=⟨h,1,none⟩)<|k3.block h hz).trans d1⟩
    .have hd:decide ((j:Int)<2)=false:=bi;obtain rfl:j=2:=ae;obtain⟨a,c,rfl,h1,h2⟩:=Ms.Q8<|uh R2;have H1:=ai h1;have H2:=ai h2;have H3:=ai (λ(ad:Addr)(q:a=some ad)=>((uh R2).own ad.block (by rw[q];rfl)).1)
     go_wp2
     go_ret;exact⟨a,c,rfl,uh K2,uh H1,uh H2,uh H3⟩
def uX(hp:Ms.aS w P ps pa)(hq:Ms.aS w P qs qa)(sp:Ms.nL pa ps.length pc)(sq:Ms.nL qa qs.length qc)(hl:ps.length+qs.length<=1000)(t:TypeId):
 Cq 101 #[.slice (some ⟨w.heap.size,0,none⟩) 2 2] (w.alloc<|.cells #[.slice pa ps.length pc,.slice qa qs.length qc] t) λe w'=>∃a c,e=.returned (.slice a (ps++qs).length c)/\Bq w w'/\Ms.nL a (ps++qs).length c/\Ms.aS w' (λb=>P b\/w.heap.size<=b) (ps++qs) a/\∀ad,a=some ad->w.heap.size<=ad.block:=by
 have hb:Bq w (w.alloc<|Cv #[Lv pa ps.length pc,Lv qa qs.length qc] t):=bw _;have B:=Bx.new w #[Lv pa ps.length pc,Lv qa qs.length qc] t;refine(Lb (hp.af hb) (hq.af hb) sp sq (B.c 0) (B.c 1) B.z hl).mono ?_;rintro e w'⟨a,c,rfl,k,h1,h2,h3⟩;exact⟨a,c,rfl,hb.trans<|k.mono hb.size,h1,h2.up λg p _=>p.imp id λq=>jt hb.size q,λad q=>jt hb.size<|h3 ad q⟩
end
namespace Ms
def lf(n:Nat):List Sk->List Sk
 |.any::r=>eK n++r|.hd _ _ ps::r=>ps++r|[]=>[]
def Gx:Array Value:=#[.string ⟨#[]⟩,Iv 0,.slice none 0 0]
def ae4(h:j<n*3):(madeCells Gx<|n*3)[j]? =some (if j%3=0 then .string ⟨#[]⟩else if j%3=1 then Iv 0 else .slice none 0 0):=by
 have e:Gx=#[Sv ⟨#[]⟩,Iv 0,Lv none 0 0]:=rfl;have hj:j%3=0\/j%3=1\/j%3=2:=ae;simp only[madeCells,e,Array.getElem?_map];rw[Array.getElem?_eq_getElem xB];obtain q|q|q:=hj<;>simp[q]
def aS.zero(w:World)(t:TypeId)(n:Nat):aS (w.alloc<|.cells (madeCells Gx<|n*3) t) (λb=>w.heap.size<=b) (eK n) (some ⟨w.heap.size,0,none⟩):=by
 have l:(eK n).length=n:=by simp[eK]
 refine aS.ofC (br _) ah (o:=0) (cs:=λ_ j=>if j=0 then Sv ⟨#[]⟩else if j=1 then Iv 0 else Lv none 0 0) (λi hi j hj=>?_) λi hi=>?_
 .rw[l]at hi;have:=(Bx.new w (madeCells Gx<|n*3) t).c<|i*3+j;rw[j5,this,ae4 ae,show(i*3+j)%3=j by omega]
 .have e:(eK n)[i]=.any:=by simp[eK]
  rw[e];exact⟨rfl,rfl,none,0,rfl,⟨br _,λ_=>rfl⟩,trivial⟩
end Ms
def yU(t:Ms.So):(Ms.kS t).toList.isEmpty=false:=by cases t<;>simp[Ms.kS,qd]
def CG:Tryz.prog.underlying 120=some (.slice 122):=qkr
def agq(hn:n<=1000)(w:World):(Instr.makeSlice 120 (Nv n)<|Nv n).run j6 w=.ok (.slice (some ⟨w.heap.size,0,none⟩) n n) (w.alloc<|.cells (madeCells Ms.Gx<|n*3) 122):=by
 have⟨i0,m6,ku,gS,gC⟩:=info_parts Ex;rw[run_make w _ _ i0 _ CG m6 ku .i64 .i64 n n ae (Int.le_refl _) (by rw[gC];omega) ae,gS];rfl
section
variable {r:List Ms.Sk} {ra:Option Addr} {rc:Nat}
def Lc(hr:Ms.aS w P r ra)(sr:Ms.nL ra r.length rc)(h0:r≠[])(hn:n<=2)(hl:(Ms.lf n r).length+r.length<=900):
 Cq 98 #[.slice ra r.length rc,Nv n] w λe w'=>∃a c,e=.returned (.slice a (Ms.lf n r).length c)/\Bq w w'/\Ms.nL a (Ms.lf n r).length c/\Ms.aS w' (λb=>P b\/w.heap.size<=b) (Ms.lf n r) a:=by
 obtain⟨p,r,rfl⟩:=List.exists_cons_of_ne_nil h0;obtain⟨g,o,rfl,hg,hz,hp,UB⟩:=hr;have hrc:(r.length:Int)+1<=(rc:Int):=by have:=sr.1;simp at this;omega
 obtain⟨qa,hqa⟩:∃qa:Addr,qa=if rc=1 then⟨g,o,none⟩else⟨g,o+3,none⟩:=⟨_,rfl⟩;have hR:Ms.aS w P r (some qa):=by
  rw[hqa];split
  .obtain rfl:r=[]:=qu ae;trivial
  .exact UB
 have sR:Ms.nL (some qa) r.length (rc-1):=⟨ae,λq=>eh⟩;clear UB;have h1:(qa=⟨g,o,none⟩/\rc=1)\/(qa=⟨g,o+3,none⟩/\rc≠1):=by rw[hqa];split;exact .inl ⟨rfl,‹_›⟩;exact .inr ⟨rfl,‹_›⟩
 clear hqa
 cases p with
 |any=>
  obtain⟨d0,d1,pa,pc,d2,sp⟩:=hp;simp only[Ms.lf,dr,Ms.eK,List.length_replicate,de]at hl;have hb:Bq w (w.alloc<|Cv (madeCells Ms.Gx<|n*3) 122):=bw _;have HC:=uX (P:=λb=>P b\/w.heap.size<=b) ((Ms.aS.zero w 122 n).up λ_ p _=>.inr p) ((hR.af hb).up λ_ p _=>.inl p) (pc:=n) ⟨by simp[Ms.eK],λq=>eh⟩ sR (by simp[Ms.eK];omega) 124;have Hi:=agq (n:=n) ae w;have e1:(Ms.eK n).length=n:=by simp[Ms.eK]
  rw[e1]at HC;have HC':=ai HC;clear HC;have HB:=ai hb;have E1:=ai e1;clear hR sR hz hg sr h0 hb e1;generalize hM:madeCells Ms.Gx (n*3)=MC at*;clear hM;obtain⟨rfl,rfl⟩|⟨rfl,h1⟩:=h1;all_goals
   go_enter func98,ntmps98;go_wp2_with fail;rw[show w.heap.size+1=(w.alloc<|Cv MC 122).heap.size by simp];refine(uh HC').mono ?_;rintro e w'⟨a,c,rfl,k,g1,g2,-⟩;have G1:=ai g1;have G2:=ai<|g2.up λb p _=>p.elim id λq=>Or.inr (Nat.le_trans (uh HB).size q) (b:=w.heap.size<=b);have K:=ai<|(uh HB).trans<|k.mono (uh HB).size;clear g1 g2 HC' k
   go_wp2
   go_ret;exact⟨a,c,by simp[Ms.lf,Ms.eK],uh K,uh G1,uh G2⟩
 |hd t k ps=>
  obtain⟨d0,d1,pa,pc,d2,sp,hps⟩:=hp;simp only[Ms.lf,dr,de]at hl;have hke:(Ms.kS t).toList.isEmpty=false:=yU t;have HC:=ai<|uX hps hR sp sR ae 124;clear hR sR hps sp sr h0;obtain⟨rfl,rfl⟩|⟨rfl,h1⟩:=h1;all_goals
   go_enter func98,ntmps98;go_wp2_with fail;refine(uh HC).mono ?_;rintro e w'⟨a,c,rfl,k,g1,g2,-⟩;have G1:=ai g1;have G2:=ai g2;clear g1 g2 HC
   go_wp2
   go_ret;exact⟨a,c,by simp[Ms.lf],k,uh G1,uh G2⟩
end
section
variable {f:List Ms.Sk} {fa:Option Addr} {fc:Nat}
def abV(hf:Ms.aS w P f fa)(sf:Ms.nL fa f.length fc)(t:Ms.So)(k:Nat)(hn:n<=f.length)(hl:f.length<=900):
 Cq 99 #[.slice fa f.length fc,.agg #[.string<|Ms.kS t,Nv k],Nv n] w λe w'=>∃a c,e=.returned (.slice a (f.length-n+1) c)/\Bq w w'/\Ms.nL a (f.length-n+1) c/\Ms.aS w' (λb=>P b\/w.heap.size<=b) (.hd t k (f.take n)::f.drop n) a/\∀ad,a=some ad->w.heap.size<=ad.block:=by
 obtain⟨W0,BZ⟩:∃W0,W0=w.alloc (Cv #[Sv<|Ms.kS t,Nv k] 119):=⟨_,rfl⟩;obtain⟨b1,b2,b3⟩:Bx W0 w.heap.size #[Sv<|Ms.kS t,Nv k]:=by rw[BZ];exact Bx.new _ _ _
 have K0:Bq w W0:=by rw[BZ];exact bw _
 have x1:W0.cell? ⟨w.heap.size,0,none⟩=some (Sv<|Ms.kS t):=b1 0;have x2:W0.cell? ⟨w.heap.size,1,none⟩=some (Nv k):=b1 1;have i0:(0:Int)<=(n:Int):=ae;have i1:(n:Int)<=(f.length:Int):=ae;have i2:(f.length:Int)<=(fc:Int):=by have:=sf.1;omega
 have i3:(n:Int)<=(fc:Int):=by have:=sf.1;omega
 obtain⟨da,yP⟩:∃da:Option Addr,da=if fc=n then fa else Option.map (λx=>x.add<|n*3) fa:=⟨_,rfl⟩;have sd:Ms.nL da (f.drop n).length (fc-n):=by
  refine⟨by rw[List.length_drop];omega,λq=>?_⟩;rw[yP]at q;split at q
  .omega
  .have:=sf.2<|Option.map_eq_none_iff.1 q;omega
 have hd:Ms.aS w P (f.drop n) da:=by
  by_cases e:f.drop n=[]
  .rw[e];trivial
  .have e':n<f.length:=Nat.lt_of_not_le λq=>e<|List.drop_eq_nil_of_le q;obtain⟨g,o,rfl,_⟩:=hf.ptr ae;rw[yP,if_neg ae];have:=hf.agr n;simp only[Option.map_some,Addr.add];split
   .rename_i q;rwa[q,Nat.add_zero]at this
   .exact this
 obtain⟨W1,fV⟩:∃W1,W1=((W0.alloc<|Cv #[Sv<|Ms.kS t,Nv k,Lv fa n fc] 122).alloc<|Cv #[Lv (some ⟨W0.heap.size,0,none⟩) 1 1,Lv da (f.drop n).length<|fc-n] 124).drew:=⟨_,rfl⟩;have K1:Bq W0 W1:=by rw[fV];exact((bw _).alloc ah _).drew
 have B1:Bx W1 W0.heap.size #[Sv<|Ms.kS t,Nv k,Lv fa n fc]:=by rw[fV];exact((Bx.new _ _ _).alloc _).below (qj _ _).drew
 have C1:Bx W1 (W0.heap.size+1) #[Lv (some ⟨W0.heap.size,0,none⟩) 1 1,Lv da (f.drop n).length<|fc-n]:=by
  rw[fV];have:=(Bx.new (W0.alloc<|Cv #[Sv<|Ms.kS t,Nv k,Lv fa n fc] 122) #[Lv (some ⟨W0.heap.size,0,none⟩) 1 1,Lv da (f.drop n).length<|fc-n] 124).below (qj _ _).drew;simpa using this
 have KK:=K0.trans<|K1.mono K0.size;have l1:(f.take n).length=n:=bi;have h1:Ms.aS W1 (λb=>P b\/w.heap.size<=b) [.hd t k<|f.take n] (some ⟨W0.heap.size,0,none⟩):=⟨W0.heap.size,0,rfl,.inr K0.size,B1.z,⟨B1.c 0,B1.c 1,fa,fc,by rw[l1];exact B1.c 2,⟨by rw[l1];omega,sf.2⟩,((hf.af KK).take n).up λ_ p _=>.inl p⟩,trivial⟩;have HC:=Lb h1 ((hd.af KK).up λ_ p _=>.inl p) (pc:=1) ⟨br _,λq=>eh⟩ sd (C1.c 0) (C1.c 1) C1.z bi;rw[fV]at HC;have HC':=ai HC;have KK':=ai KK;have zz:=K1.size;have u1:=(World.cell?_of_block (a:=⟨w.heap.size,0,none⟩)<|K1.block w.heap.size b3).trans x1;have u2:=(World.cell?_of_block (a:=⟨w.heap.size,1,none⟩)<|K1.block w.heap.size b3).trans x2;rw[List.length_drop]at HC' fV;have hE:=yP.symm;have Hw:=ai fV;clear HC KK h1 C1 B1 hd sd fV yP K1 K0;go_enter func99,ntmps99
 go_upto_region 1 with fail
 rw[<-BZ];clear BZ b1
 go_region_held3(λw'=>w'.cell? ⟨w.heap.size,0,none⟩=some (Sv<|Ms.kS t)/\w'.cell? ⟨w.heap.size,1,none⟩=some (Nv k)) (first|go_keep|exact⟨y1,y2⟩|(simp[*];done)) (first
  |(go_at_call 101;go_loud(refine(uh HC').mono ?_);rintro e w'⟨a,c,rfl,k1,g1,g2,g3⟩;rw[<-uh Hw]at k1 g2 g3;have K2:=(uh KK').trans<|k1.mono (uh KK').size;have z1:=(uh KK').size;have y0:=λo=>qe (a:=⟨w.heap.size,o,none⟩)<|k1.block w.heap.size<|jq b3 zz;have y1:=(y0 0).trans u1;have y2:=(y0 1).trans u2))
 have G1:=ai g1;have G3:=ai λad q=>jt z1<|g3 ad q;have G2:=ai<|g2.up λb p _=>p.elim id λq=>qi (b:=w.heap.size<=b)<|jt z1 q;clear g1 g2 g3 k1 y0 y1 y2
 go_wp2
 go_ret;exact⟨a,c,by simp[Nat.add_comm],K2,by simpa[Nat.add_comm]using uh G1,uh G2,uh G3⟩
end
namespace Ms
def cI(t:So):Int:=match cnt t with|some n=>(n:Int)|none=> -1
structure Kd(w:World)(kb:Nat)(t:So)(fp:FuncId)(pb:Nat)(fw:FuncId)(cw:Array Value):Prop where
 lk:∀w',Bq w w'->(qm 61 (Mv kb) (.string<|kS t) false).run j6 w'=.ok (.agg #[Iv<|cI t,.func (.func fp) #[] #[Pv pb],.func (.func fw) #[] cw]) w'
 cf:∀(args:Array Value)(w':World),(callFunc fp args).run j6 w'=.ok (.enter fp args) w'
 pt:∀n,NH t n->∀w',Bq w w'->Cq fp #[Nv n,Pv pb] w' λe w''=>e=.returned (Nv (iR t n).length)/\Bq w' w''
def Kd.af{t:So}{fp:FuncId}{pb:Nat}{fw:FuncId}{cw:Array Value}(h:Kd w kb t fp pb fw cw)(k:Bq w w'):Kd w' kb t fp pb fw cw:=
 ⟨λw2 k2=>h.lk w2<|k.trans<|k2.mono k.size,h.cf,λn hn w2 k2=>h.pt n hn w2<|k.trans<|k2.mono k.size⟩
def VaM(w:World)(kb:Nat):=∀t,∃fp pb fw cw,Kd w kb t fp pb fw cw
def VaM.af{w w':World}{kb:Nat}(h:VaM w kb)(k:Bq w w'):VaM w' kb:=λt=>by have⟨a,b,c,d,q⟩:=h t;exact⟨a,b,c,d,q.af k⟩
def abW(t:So)(n:Nat)(M:List (So×Nat)):kK ((t,n)::M)=((((t,n)::M).length:Int)==cI t):=by
 have e:kK ((t,n)::M)=(cnt t==some ((t,n)::M).length):=rfl;rw[e,cI,Bool.eq_iff_iff]
 cases cnt t with
 |none=>simp;omega|some k=>simp;omega
def QH:EQ (So×Nat):=λ_ _ h c=>c 0=.string (kS h.1)/\c 1=Nv h.2
def pB:cu QH:=λ_ _ _ _ _ _ h _ _ _=>h
end Ms
def alo(n:Int)(a b:Value)(w:World):(qn 179 (.agg #[Iv n,a,b]) 0).run j6 w=.ok (Iv n) w:=qkr
def ags(n:Int)(f:FuncId)(x:Array Value)(b:Value)(w:World):(qn 179 (.agg #[Iv n,.func (.func f) #[] x,b]) 1).run j6 w=.ok (.func (.func f) #[] x) w:=qkr
def ajW(n:Int)(f:FuncId)(x:Array Value)(b:Value)(w:World):(qn 179 (.agg #[Iv n,b,.func (.func f) #[] x]) 2).run j6 w=.ok (.func (.func f) #[] x) w:=qkr
def aiD:(Tryz.prog.info? 119).map (λi=>(i.zero,i.size,i.bytes))=some (some<|.agg #[.string ⟨#[]⟩,Iv 0],2,24):=qkr
def abX:Tryz.prog.underlying 211=some (.slice 119):=qkr
def Ms.Ya.ofR{M:List (Ms.So×Nat)}{v:Value}(h:RowV Ms.QH 2 w P M v):∃sa sc,v=.slice sa M.length sc/\Ms.Ya w (λ_=>True) sa M:=by
 obtain⟨va,vc,cs,e,hr,hq⟩:=h;refine⟨va,vc,e,hr.imp id ?_⟩;rintro⟨g,rfl,_,hz,hc⟩;exact⟨g,rfl,trivial,hz,λi hi=>⟨(hc i hi 0 ae).trans<|congrArg some (hq i hi).1,(hc i hi 1 ae).trans<|congrArg some (hq i hi).2⟩⟩
section
variable {mv:Value} {sa:Option Addr} {sc:Nat} {M:List (Ms.So×Nat)}
def abY(hv:Ms.VaM w kb)(h:Ms.Ya w (λ_=>True) sa M)(hl:M.length<=1000):Cq 66 #[.agg #[Mv kb,mv],.slice sa M.length sc] w λe w'=>e=.returned (.bool<|Ms.kK M)/\Bq w w':=by
 obtain⟨W,hW⟩:∃W,W=w.alloc (Cv #[Mv kb,mv] 64):=⟨_,rfl⟩;have K:Bq w W:=by rw[hW];exact bw _
 obtain⟨b1,b2,b3⟩:Bx W w.heap.size #[Mv kb,mv]:=by rw[hW];exact Bx.new _ _ _
 match M,h with
 |[],_=>
  go_enter func66,ntmps66
  go_upto_region 1 with fail
  rw[<-hW];go_quiet(fail)
  go_wp2
  go_ret;exact⟨by simp[Ms.kK],K.drewN _⟩
 |(t,n)::M,h=>
  obtain⟨g,rfl,_,hz,hc⟩:=(h.af K).resolve_left ah;have c0:W.cell? ⟨g,0,none⟩=some (Sv<|Ms.kS t):=(hc 0 ah).1;have⟨fp,pb,fw,cw,q⟩:=hv t;have hk0:=alo;have vC:∀n,_:=λn=>q.lk (W.drewN n)<|K.drewN n;have hd:decide ((0:Int)<(((t,n)::M).length:Int))=true:=by simp<;>omega
  have e:=Ms.abW t n M;clear hc h;generalize hL:((t,n)::M).length=L at*;have hE:=ai e;clear e hL;have hd:(0:Int)<(L:Int):=by simpa using hd
  have hdn:0<L:=ae;go_enter func66,ntmps66
  go_upto_region 1 with fail
  rw[<-hW];clear hW;go_quiet(fail)
  go_wp2
  go_ret;exact⟨by rw[uh hE];simp,K.drewN _⟩
end
namespace Ms
def Gy(h:RowV QR 1 w P R (.slice va R.length vc))(hj:j<R.length):∃g a k,va=some ⟨g,0,none⟩/\w.cell? ⟨g,j,none⟩=some (.slice a (R[j]).length k)/\nL a (R[j]).length k/\aS w P R[j] a:=by
 obtain⟨nk,np,cs,e,hr,hq⟩:=h;injection e with e1 _ e2;subst e1 e2;obtain rfl|⟨g,rfl,_,_,hc⟩:=hr
 .simp at hj
 .have⟨a,k,h1,h2,h3⟩:=hq j hj;refine⟨g,a,k,rfl,?_,h2,h3⟩;have:=hc j hj 0 ae;rw[h1]at this;simpa using this
def abZ(hj:j<R.length):met (R.take<|j+1) []=met [R[j]] (met (R.take j) []):=by
 rw[List.take_succ_eq_append_getElem hj,td]
def ae5(M:List (So×Nat)):Sk->List (So×Nat)
 |.any=>M|.hd t n _=>if(t,n)∈M then M else M++[(t,n)]
def ae6(p:Sk)(r:List Sk)(M:List (So×Nat)):met [p::r] M=ae5 M p:=by cases p<;>simp[met,gH,ae5]
def pi:∀(R:List (List Sk))(m:List (So×Nat)),(met R m).length<=m.length+R.length
 |[],m=>by simp[met]|r::rs,m=>by
  simp only[met];split
  .split
   .have:=pi rs m;simp only[de];omega
   .have:=pi rs<|m++[‹So×Nat›];simp only[dr,de,eF]at this⊢;omega
  .have:=pi rs m;simp only[de];omega
def ab0{h:So×Nat}(c0:w.cell? ⟨g,0,none⟩=some (.string<|kS h.1))(c1:w.cell? ⟨g,1,none⟩=some (Nv h.2)):Q7 QH 2 w (λ_=>False) [h] (some ⟨g,0,none⟩) 1:=by
 refine⟨λq=> eh,λ_ j=>if j=0 then Sv (kS h.1)else Nv h.2,.inr ⟨g,0,rfl,λi hi j hj=>?_⟩,λi hi=>⟨?_,λj hj=>?_⟩⟩
 .obtain rfl:i=0:=yT;obtain rfl|rfl:j=0\/j=1:=ae
  .exact c0
  .exact c1
 .obtain rfl:i=0:=yT;exact⟨rfl,rfl⟩
 .obtain rfl|rfl:j=0\/j=1:=ae
  .rfl
  .rfl
end Ms
def Gz(hR:RowV Ms.QR 1 w P R (.slice va R.length vc))(cJ:∀r∈R,r≠[])(hl:R.length<=1000):Calls j6 65 #[.slice va R.length vc] w λe w'=>∃sa sc,e=.returned (.slice sa (Ms.met R []).length sc)/\Ms.Ya w' (λ_=>True) sa (Ms.met R [])/\Below w.heap.size w w':=by
 have HR:=ai hR;clear hR;go_enter func65,ntmps65
 go_wp2
 go_loopg[3,9] R.length (λgk v c wr=>∃j:Nat,Hid (gk=R.length-j)/\j<=R.length/\c=.int .i64 (j:Int)/\Hid (dR w.heap.size (λ_=>True) Ms.QH 119 2 wr v<|Ms.met (R.take j) [])/\Hid (Below w.heap.size w wr))
 case atStart=>exact⟨0,ai rfl,jy _,rfl,ai<|dR.nil _ _ _ _ _ _,ai<|qj _ _⟩
 case round=>
  obtain⟨j,bE,hj,rfl,H,K⟩:=hrel;by_cases aI:j<R.length
  .have hd:(j:Int)<(R.length:Int):=ae;have i0:(0:Int)<=(j:Int):=ae;have kk:=uh K;obtain⟨g,a,k,rfl,hc,hs,hm⟩:=Ms.Gy ((uh HR).move Ms.aT kk.size (λb _ z=>kk.block b z)<|λb p _=>p) aI;have hE:=ai<|Ms.abZ aI;have hn:=cJ _<|List.getElem_mem aI;have Sf:=Ms.pi (R.take j) [];have Sf:(Ms.met (R.take j) []).length<=1000:=by simp at Sf;omega
   generalize R[j]=r at*;obtain⟨p,r,rfl⟩:=List.exists_cons_of_ne_nil hn;obtain⟨g1,o1,rfl,_,gS,hp,hr⟩:=hm;obtain⟨c0,c1,pa,pc,c2,-⟩:=hp.cells;have kr:(r.length:Int)+1<=(k:Int):=by have:=hs.1;simp at this;omega
   rw[Ms.ae6]at hE;obtain⟨W,hW⟩:∃W,W=wr.alloc (Cv #[Sv p.kd,.int .i64 (p.pl:Int)] 119):=⟨_,rfl⟩;have KW:Below wr.heap.size wr W:=by rw[hW];exact bw _
   obtain⟨b1,b2,b3⟩:Bx W wr.heap.size #[Sv p.kd,.int .i64 (p.pl:Int)]:=by rw[hW];exact Bx.new _ _ _
   have KK:=ai<|kk.trans<|KW.mono kk.size;have HW:=ai<|uh H|>.af Ms.pB KW;obtain⟨M,hM⟩:∃M,M=Ms.met (R.take j) []:=⟨_,rfl⟩;rw[<-hM]at Sf HW hE;clear hM H K kk cJ hr hp c2
   cases p with
   |any=>
    simp only[Ms.Sk.kd,Ms.Sk.pl,Int.natCast_zero]at c0 c1 b1 hW;have KK':=ai (show Below w.heap.size w (wr.alloc<|Cv #[Sv ⟨#[]⟩,.int .i64 0] 119) by rw[<-hW];exact uh KK);have HW':=ai (show dR w.heap.size (λ_=>True) Ms.QH 119 2 (wr.alloc<|Cv #[Sv ⟨#[]⟩,.int .i64 0] 119) u3 M by rw[<-hW];exact uh HW);clear hW b1 b2 b3 KW KK HW
    go_wp2
    go_roundg(R.length-(j+1))
    case measure=>rw[uh bE];omega
    case rel=>exact⟨j+1,ai rfl,ae,d_,ai (by rw[uh hE];exact uh HW'),KK'⟩
   |hd t n ps=>
    have hke:=yU t;simp only[Ms.Sk.kd,Ms.Sk.pl]at c0 c1 b1 hW;obtain⟨sa,sc,rfl,h1⟩:=Ms.Ya.ofR<|(uh HW).rv Ms.pB;have HCC:=ai<|wN (sc:=sc) h1 ae (t,n);have XP:=b1 0;have II:=b1 1;have HWo:=(uh HW).own;clear h1 b1;go_wp2_with fail;rw[<-hW];refine(uh HCC).mono ?_;rintro e w1⟨rfl,k1⟩;have Hw:=ai<|(uh HW).af Ms.pB k1;have K1:=ai<|(uh KK).trans<|k1.mono (uh KK).size;have e0:=(qe (a:=⟨wr.heap.size,0,none⟩)<|k1.block _ b3).trans XP;have e1:=(qe (a:=⟨wr.heap.size,1,none⟩)<|k1.block _ b3).trans II;clear hW KW HCC HW KK k1 b2;by_cases hm:(t,n)∈M
    .have CC:decide ((t,n)∈M)=true:=by simpa using hm
     rw[CC]
     go_wp2
     go_roundg(R.length-(j+1))
     case measure=>rw[uh bE];omega
     case rel=>exact⟨j+1,ai rfl,ae,d_,ai (by rw[uh hE,Ms.ae5,if_pos hm];exact uh Hw),K1⟩
    .have CC:decide ((t,n)∈M)=false:=by simpa using hm
     rw[CC];have zw:=(uh K1).size;go_wp2_with(at_builtin;refine((uh Hw).af Ms.pB<|bw _).cat Ms.pB aiD abX (Ms.ab0 (h:=(t,n)) ((Bx.new w1 #[_,_] _).c 0)<|(Bx.new w1 #[_,_] _).c 1) (λ_ q=>q.elim) bi bi ?_;intro v3 w3 R3 k3);go_roundg(R.length-(j+1))
     case measure=>rw[uh bE];omega
     case rel=>exact⟨j+1,ai rfl,ae,d_,ai (by rw[uh hE,Ms.ae5,if_neg hm];exact R3),ai<|(uh K1).trans<|((qj _ _).alloc ae _).trans k3⟩
  .have hd:decide ((j:Int)<(R.length:Int))=false:=bi;obtain rfl:j=R.length:=ae;rw[List.take_length]at H;obtain⟨sa,sc,rfl,h1⟩:=Ms.Ya.ofR<|(uh H).rv Ms.pB;have H1:=ai h1
   go_wp2
   go_ret;exact⟨sa,sc,rfl,uh H1,uh K⟩
end Go.Proofs.YtopmodaakdnliaaGreatDoor

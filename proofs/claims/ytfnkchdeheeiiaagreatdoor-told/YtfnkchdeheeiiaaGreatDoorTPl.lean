import Derived.Test.YtfnkchdeheeiiaaGreatDoorTPf
import Derived.Test.YtfnkchdeheeiiaaGreatDoorTWj
set_option linter.all false
set_option maxRecDepth 100000
set_option maxHeartbeats 8000000
namespace Go.Proofs.YtfnkchdeheeiiaaGreatDoor
open Pu renaming bH->ja,Tok->jc,aG->jd,dI->jf,lW->jh,at_->ji,gG->jj
open _root_.List.Mem renaming tail->jk,head->jl
open _root_.Nat renaming lt_of_lt_of_le->jm,le_trans->jo,ne_of_gt->jp,le_of_lt->jq,succ_mul->jt,mul_le_mul_right->ju
open Go.Proofs.Tryz renaming prog->jv,underlying236->jx,underlying233->jy,underlying227->jz,underlying234->j3
open Go.Value renaming string->j5,slice->j6
open Or renaming inl->j7,inr->j8
open Go.ByteArray renaming toList_eq->j9
open Ke renaming JF->qd,of->qe
open Bool renaming and_eq_true->qf
open Go.World renaming cell?_of_block->qg
open Go.RowKit.Below renaming refl->qh,heap_setCell->qi
open _root_.List renaming range->qk,not_mem_nil->ql,mem_cons->qm
open Go Go.RowKit Proofs.Tryz
variable {C D args:Array Value} {c s:BA} {e:Ending} {post:Ending->World->Prop} {r:Except Fl (Nd×Nat)} {L:List (BA×Value)} {T:List jc} {q sm:M Nd} {F N base f fr j k k' lo mt n rb sb sort vc xb y:Nat} {P:Nat->Prop} {a nd:Nd} {va:Option Addr} {t:jc} {α β γ:Type} {et:TypeId} {W w w' w0 w3:World} {R:World->(Nat->Prop)->Nd->Value->Prop}
section
open Go.ChangeMaps
def q_{r}{a:α}(h:fin T r=.ok (a,k)):r=.ok (a,k)/\(tk T k).kind≠6:=by
 unfold fin at h;split at h
 .cases h
 .grind
theorem cV(a:α)(h:(tk T k).kind=6):fin T (.ok (a,k))=.error (dc<|tk T k):=by rw[fin];simp[h]
def lf(a:α)(h:(tk T k).kind≠6):fin T (.ok (a,k))=.ok (a,k):=by grind[tk,fin]
def aR{α:Type}(T:List jc)(g:M α):=∀k,(tk T k).kind=6->fin T (g k)=.error (dc<|tk T k)
theorem m7{m}{g:α->M β}{a}(h:fin T (m k)=.ok (a,k')):aN m g k=g a k':=by grind[fin,aN]
def bU{m}{g:α->M β}{f}(h:fin T (m k)=.error f)(hs:∀a,aR T<|g a):fin T (aN m g k)=.error f:=by grind[fin,aR,aN]
theorem ed(h:t.kind=6)s:a_ t s=false:=by grind[a_]
def ZR(h:t.kind=6):aF t 1=false:=by grind[aF,bu,ed]
def rh(T:List jc)c:aR T (bt T c):=λk h=>by rw[bt];rw[ed h];rfl
theorem fK{m}{g:α->M β}(h:aR T m)(hg:∀a,aR T<|g a):aR T (aN m g):=λk hk=>bU (h k hk) hg
def JM(T:List jc)mk:aR T (oo T mk):=fK (rh T _) λ_ k h=>cV _ h
def JN(T:List jc)p q:aR T (aI T p q 1):=λk h=>by
 rw[aI];rw[ZR h];rfl
def wu(T:List jc)p f a:aR T (lA T p f a):=by grind[aR,lA,ed,cV]
def uO(T:List jc):∀n,aR T<|cP T n
 |0=>λk h=>rfl|n+1=>λk h=>by
  rw[cP];refine bU ?_<|λa=>wu T _ _ a;rw[gN];rw[if_neg<|by simp[h]];exact JN T _ _ k h
def PT.iface{v}(h:PT w P a v):∃t x,v=.iface t (.agg x):=by
 cases h<;>exact⟨_,_,rfl⟩
def g_ a b c d w:(Instr.field 229 (.agg #[a,b,c,d]) 0).run jv w=.ok (.agg #[a,b]) w:=qkr
def kB a b w:(Instr.field 131 (.agg #[a,b]) 0).run jv w=.ok a w:=qkr
abbrev EZ:BA:=⟨#[108,111,119,32,110,97,109,101]⟩
abbrev NS:BA:=⟨#[97,32,110,117,109,98,101,114]⟩
abbrev rp rb:=Pv rb
abbrev oI(f rb:Nat):Value:=.func (.func f) #[rp rb] #[]
abbrev mF(f b:Nat):Value:=.func (.func f) #[] #[Pv b]
abbrev UI(b c:Nat):Value:=.func (.func 254) #[] #[Pv b,Pv c]
abbrev Jj rb:=[(qC,oI 178 rb),(ul,oI 179 rb)]
abbrev Re rb:=[(MU,oI 180 rb),(ul,oI 181 rb),(kIf,oI 182 rb),(uo,oI 183 rb)]
abbrev sY rb b:=[(EZ,mF 184 b),(JD,oI 186 rb),(NS,mF 187 b),(gp,mF 189 b),(dE,mF 191 b),(m5,oI 192 rb)]
abbrev ri rb b:=[(zK,oI 193 rb),(EZ,mF 194 b),(JD,oI 195 rb),(NS,mF 196 b),(gp,mF 197 b),(dE,mF 198 b),(m5,oI 199 rb)]
def oO w N rb v L:=∃b,v=Mv b/\b<N/\b≠rb/\MS j5 w b L
def gQ w N rb b C:=b<N/\b≠rb/\Bx w b C
structure Maps w N rb(m:MV):Prop where
 d:oO w N rb m.a (Jj rb)
 wd:oO w N rb m.b (Re rb)
 at_:∃x,gQ w N rb x #[rp rb]/\oO w N rb m.c (sY rb x)
 pl:∃x,gQ w N rb x #[rp rb]/\oO w N rb m.d (ri rb x)
 cm:∃x y,gQ w N rb x #[rp rb]/\gQ w N rb y #[oI 204 rb]/\oO w N rb m.f [(dX,UI x y)]
 sm:∃x y x' y',gQ w N rb x #[rp rb]/\gQ w N rb y #[oI 205 rb]/\gQ w N rb x' #[rp rb]/\gQ w N rb y' #[oI 205 rb]/\oO w N rb m.g [(iu,UI x y),(dW,UI x' y')]
 pr:∃x y,gQ w N rb x #[rp rb]/\gQ w N rb y #[oI 206 rb]/\oO w N rb m.h [(gq,UI x y)]
section
variable {m:MV}
theorem oO.move{v:Value}(h:oO w N rb v L)(hb:∀b,b<N->b≠rb->w'.heap[b]? =w.heap[b]?):oO w' N rb v L:=by
 obtain⟨b,h1,h2,h3,h4⟩:=h;exact⟨b,h1,h2,h3,h4.same<|hb b h2 h3⟩
theorem gQ.move{b}(h:gQ w N rb b C)(hs:w.heap.size<=w'.heap.size)(hb:∀b,b<N->b≠rb->w'.heap[b]? =w.heap[b]?):gQ w' N rb b C:=
 ⟨h.1,h.2.1,h.2.2.same hs<|hb b h.1 h.2.1⟩
theorem Maps.move(h:Maps w N rb m)(hs:w.heap.size<=w'.heap.size)(hb:∀b,b<N->b≠rb->w'.heap[b]? =w.heap[b]?):Maps w' N rb m:=by
 obtain⟨d,wd,⟨x1,a1,a2⟩,⟨x2,b1,b2⟩,⟨x3,y3,c1,c2,c3⟩,⟨x4,y4,x5,y5,d1,d2,d3,d4,d5⟩,⟨x6,y6,e1,e2,e3⟩⟩:=h;exact⟨d.move hb,wd.move hb,⟨x1,a1.move hs hb,a2.move hb⟩,⟨x2,b1.move hs hb,b2.move hb⟩,⟨x3,y3,c1.move hs hb,c2.move hs hb,c3.move hb⟩,⟨x4,y4,x5,y5,d1.move hs hb,d2.move hs hb,d3.move hs hb,d4.move hs hb,d5.move hb⟩,⟨x6,y6,e1.move hs hb,e2.move hs hb,e3.move hb⟩⟩
structure Env w N rb sb m:Prop where
 sm:MS j5 w sb (smL rb)
 la:Laid w
 h2:3<=rb
 hr:rb<N
 hs:sb<N
 ne:sb≠rb
 hN:N<=w.heap.size
 mp:Maps w N rb m
theorem Env.move(h:Env w N rb sb m)(hs:w.heap.size<=w'.heap.size)(hb:∀b,b<N->b≠rb->w'.heap[b]? =w.heap[b]?):Env w' N rb sb m:=by
 have c:∀b o,b<3->w'.cell? ⟨b,o,none⟩=w.cell? ⟨b,o,none⟩:=λb o q=>qg (a:=⟨b,o,none⟩) (hb b (by have:=h.hr;have:=h.h2;omega) (by have:=h.h2;omega));exact⟨h.sm.same<|hb sb h.hs h.ne,⟨λj hj=>(c 2 j ae).trans<|h.la.words j hj,λj hj=>(c 0 j ae).trans<|h.la.signs j hj,jo h.la.hz hs⟩,h.h2,h.hr,h.hs,h.ne,jo h.hN hs,h.mp.move hs hb⟩
def Env.ke(h:Env w N rb sb m)(hk:Ke rb w w'):Env w' N rb sb m:=h.move hk.size λb hb hn=>hk.block b (jm hb h.hN) hn
end
structure SX w N rb sb m s k:Prop where
 bx:Bx w rb (rdC s (tk (ja s 0) k) (aE (ja s 0) k) m sb)
 ev:Env w N rb sb m
 lt:k<(ja s 0).length
 ok:(tk (ja s 0) k).kind≠6
def ap{α:Type}(R:World->(Nat->Prop)->α->Value->Prop)N rb sb m s r w e w':=
 Ke rb w w'/\match fin (ja s 0) r with
  |.error f=>e=bQ f|.ok (a,k)=>∃v,e=.returned v/\SX w' N rb sb m s k/\R w' (λb=>w.heap.size<=b) a v
section
variable {R:World->(Nat->Prop)->α->Value->Prop} {m:MV}
def SX.rd(h:SX w N rb sb m s k):RD w rb sb m s (tk (ja s 0) k) (aE (ja s 0) k):=⟨h.bx,h.ev.sm,h.ev.ne,h.ev.la,h.ev.h2⟩
theorem SX.move(h:SX w N rb sb m s k)(hs:w.heap.size<=w'.heap.size)(hb:∀b,b<N->w'.heap[b]? =w.heap[b]?):SX w' N rb sb m s k:=
 ⟨h.bx.same hs<|hb rb h.ev.hr,h.ev.move hs<|λb q _=>hb b q,h.lt,h.ok⟩
def SX.af(h:SX w N rb sb m s k)(hb:Bq w w'):SX w' N rb sb m s k:=h.move hb.size λb q=>hb.block b<|jm q h.ev.hN
def SX.z(h:SX w N rb sb m s k):rb<w.heap.size:=h.bx.z
def SX.of(h:RD w rb sb m s (tk (ja s 0) k) (aE (ja s 0) k))(hE:Env w N rb sb m)(h1:k<(ja s 0).length)(h2:(tk (ja s 0) k).kind≠6):SX w N rb sb m s k:=⟨h.bx,hE,h1,h2⟩
def ap.ok{r}(h:ap R N rb sb m s r w e w'){a}(hr:fin (ja s 0) r=.ok (a,k)):∃v,e=.returned v/\Ke rb w w'/\SX w' N rb sb m s k/\R w' (λb=>w.heap.size<=b) a v:=by grind[ap,fin]
def ap.bad{r}(h:ap R N rb sb m s r w e w'){f:Fl}(hr:fin (ja s 0) r=.error f):e=bQ f/\Ke rb w w':=by grind[ap,fin]
def ap.fail{r}{f:Fl}(hK:Ke rb w w')(h:fin (ja s 0) r=.error f):ap R N rb sb m s r w (bQ f) w':=⟨hK,by rw[h]⟩
def ap.stop{r}{mm}{g:β->M α}{f:Fl}(hE:r=aN mm g j)(hA:fin (ja s 0) (mm j)=.error f)(iL:∀a,aR (ja s 0)<|g a)(hK:Ke rb w w'):ap R N rb sb m s r w (bQ f) w':=
 ap.fail hK (by rw[hE,bU hA iL])
def ap.done{r}{a}{v:Value}(hE:r=.ok (a,k))(hK:Ke rb w w')(hS:SX w' N rb sb m s k)(hR:R w' (λb=>w.heap.size<=b) a v):ap R N rb sb m s r w (.returned v) w':=by
 refine⟨hK,?_⟩;rw[hE,lf _ hS.ok];exact⟨v,rfl,hS,hR⟩
def ap.go{f}{r}{mm}{g}{R':World->(Nat->Prop)->γ->Value->Prop}(hK:Hid (Ke rb w0 w))(hE:Hid (r=aN mm g j))(hC:Cq f args w (ap R N rb sb m s (mm j) w))(iL:∀a,aR (ja s 0)<|g a)(bad:∀f' w',ap R' N rb sb m s r w0 (bQ f') w'->post (bQ f') w')(ok:∀a k' v w',Hid (SX w' N rb sb m s k')->Hid (Ke rb w0 w')->Hid (r=g a k')->mm j=.ok (a,k')->w.heap.size<=w'.heap.size->Ke rb w w'->R w' (λb=>w.heap.size<=b) a v->post (.returned v) w'):Cq f args w post:=by
 refine hC.mono λe w' hp=>?_
 cases hA:fin (ja s 0) (mm j)with
 |error f'=>obtain⟨rfl,hb⟩:=hp.bad hA;exact bad f' w'<|ap.stop hE hA iL<|hK.trans hb
 |ok p=>obtain⟨a,k'⟩:=p;obtain⟨v,rfl,hb,hS,hR⟩:=hp.ok hA;exact ok a k' v w' hS (hK.trans hb) (hE.trans<|m7 hA) (q_ hA).1 hb.size hb hR
def ch.x{v:Value}(h:ch rb sb m s (tk (ja s 0) k) v w e w')(hX:SX w N rb sb m s k)(h7:(tk (ja s 0) k).kind≠7){a}(hR:R w' (λb=>w.heap.size<=b) a v):ap R N rb sb m s (.ok (a,k+1)) w e w':=by
 have⟨h1,h2,h3⟩:=Rc s k hX.lt h7;rw[ch]at h;rw[h2,<-h3]at h;refine⟨h.1,?_⟩;rw[fin];obtain⟨g1,g2,g3⟩|⟨g1,g2⟩:=h.2
 .simp only[if_neg g1];exact⟨v,g2,SX.of g3 (hX.ev.ke h.1) h1 g1,hR⟩
 .grind
theorem sZ(h:gy t)(hk:t.kind≠6){kd}(hs:kd.size<=5):((aq t).toList==kd.toList)=a_ t kd:=by
 have hl:kd.toList.length<=5:=by rw[j9];simpa using hs
 have no:∀x:List UInt8,5<x.length->(x==kd.toList)=false:=λx hx=>by
  rw[beq_eq_false_iff_ne];intro e;rw[e]at hx;omega
 rw[a_];obtain h'|h'|h'|h'|h'|h'|h':=h.kd
 .rw[iX h',no _ qBe];simp[h']
 .rw[ie h',no _ qBe];simp[h']
 .rw[ig h',no _ qBe];simp[h']
 .rw[iY h',no _ qBe];simp[h']
 .rw[pN h'];simp[h']
 .exact absurd h' hk
 .rw[iZ h',no _ qBe];simp[h']
def Rf{p:Prop}(h:p:=by
 obtain h'|h'|h'|h'|h'|h'|h':=h.kd
 .rw[iX h'];simp[h',j9]
 .rw[ie h'];simp[h',j9]
 .rw[ig h'];simp[h',j9]
 .rw[iY h'];simp[h',j9]
 .rw[mx h hk aK h'];simp[h']
 .exact absurd h' hk
 .rw[iZ h'];simp[h',j9]):p:=h
def ZS(h:gy t)(hk:t.kind≠6):((aq t).toList==EZ.toList)=(t.kind==1):=by
 exact Rf
def ZT(h:gy t)(hk:t.kind≠6):((aq t).toList==NS.toList)=(t.kind==4):=by
 exact Rf
abbrev tkA(t:jc):Value:=.agg #[Nv t.al,Nv t.to,.string<|aq t,.string t.text]
abbrev nmA(t:jc):Value:=.agg #[Nv t.al,Nv t.to,.string t.text]
def Is{α:Type}u(_:World)(_:Nat->Prop)(_:α)(v:Value):=v=u
def NT(_:World)(_:Nat->Prop)(t:jc)v:=v=nmA t
def JO(h:a_ t c=true):t.kind≠7:=by grind[a_]
def ZU(h:SX w N rb sb m s k)(hs:s.size<=1000)c(hc:c.size<=5):Cq 97 #[rp rb,.string c] w (ap (Is<|tkA<|tk (ja s 0) k) N rb sb m s (bt (ja s 0) c k) w):=by
 have ho:=eu s k h.lt;have hk:=sZ ho h.ok hc
 cases hi:a_ (tk (ja s 0) k) c with
 |true=>
  rw[hi]at hk;refine(iA h.rd hs (qG s k h.lt) c hk).mono λe w' hp=>?_;have lJ:ch rb sb m s (tk (ja s 0) k) (dz<|tk (ja s 0) k) w e w':=hp;have:=lJ.x (R:=Is<|tkA<|tk (ja s 0) k) h (JO hi) (a:=()) rfl;rw[bt];rw[if_pos hi];exact this
 |false=>
  rw[hi]at hk;refine(yd h.rd c hk h.ok).mono ?_;rintro e w'⟨rfl,hK⟩;exact ap.fail hK (by rw[bt];rw[hi];rfl)
def ag0(h:SX w N rb sb m s k)(hs:s.size<=1000)c(hc:c.size<=5)(hi:a_ (tk (ja s 0) k) c=true):Cq 104 #[rp rb,.string c] w (ap (Is<|.bool true) N rb sb m s (.ok ((),k+1)) w):=by
 have ho:=eu s k h.lt;have hk:=sZ ho h.ok hc;rw[hi]at hk;refine(ZM h.rd hs (qG s k h.lt) c hk).mono λe w' hp=>?_;have lJ:ch rb sb m s (tk (ja s 0) k) (.bool true) w e w':=hp;exact lJ.x (R:=Is<|.bool true) h (JO hi) rfl
def ag1(h:SX w N rb sb m s k)c(hc:c.size<=5)(hi:a_ (tk (ja s 0) k) c=false):Cq 104 #[rp rb,.string c] w λe w'=>e=.returned (.bool false)/\w=w':=
 (adj h.rd c (by rw[sZ (eu s k h.lt) h.ok hc];exact hi)).mono λe w' q=>⟨q.1,q.2.symm⟩
def uP(h:SX w N rb sb m s k)(hs:s.size<=1000)n c(hc:n=1/\c=EZ\/n=2/\c=JD):Cq 141 #[rp rb,.string c] w (ap NT N rb sb m s (di (ja s 0) n k) w):=by
 have ho:=eu s k h.lt;have hk:((aq<|tk (ja s 0) k).toList==c.toList)=((tk (ja s 0) k).kind==n):=by
  obtain⟨rfl,rfl⟩|⟨rfl,rfl⟩:=hc
  .exact ZS ho h.ok
  .exact EY ho h.ok
 cases hi:((tk (ja s 0) k).kind==n)with
 |true=>
  rw[hi]at hk;have hn:(tk (ja s 0) k).kind=n:=qBl;refine(NP h.rd hs (qG s k h.lt) c hk).mono λe w' hp=>?_;have:=hp.x (R:=NT) h (by obtain⟨rfl,_⟩|⟨rfl,_⟩:=hc<;>omega) (a:=tk (ja s 0) k) rfl;rw[di];rw[if_pos hi];exact this
 |false=>
  rw[hi]at hk;refine(adk h.rd c hk h.ok).mono ?_;rintro e w'⟨rfl,hK⟩;exact ap.fail hK (by rw[di];rw[hi];rfl)
def adm(h:SX w N rb sb m s k)i:Cq 105 #[rp rb,Iv i] w λe w'=>e=.returned (.agg #[Iv i,.int .i64 ((aE (ja s 0) k:Nat):Int)])/\Bq w w':=adi h.rd i
def JP(g:Nat->α):aR T λk=>.ok (g k,k):=λ_ h=>cV _ h
theorem rj(T:List jc)n(hn:n≠6):aR T (di T n):=λk h=>by rw[di];rw[if_neg (by simp[h];omega)];rfl
end
def BN(s:BA):=∃x r,s.toList=x::r/\Pu.fk x.toNat=true
def ac4 s:=0<s.size/\s.size<=9/\∀i,i<s.size->jf (ji s i)=true
structure ae7(t:jc):Prop where
 sp:t.to=t.al+t.text.size
 v1:t.kind=1->BN t.text
 v4:t.kind=4->ac4 t.text
def pH{p}:∀(d i j:Nat),j-i=d->i<=j->j<jd s p i->p (ji s j)=true:=by
 have hp6:∀i,i<jd s p i->i<s.size/\p (ji s i)=true:=λi h=>by
  by_cases hi:i<s.size
  .cases q:p (ji s i)with
   |true=>exact⟨hi,rfl⟩|false=>rw[Pu.ol hi q]at h;omega
  .rw[Pu.jD ae]at h;omega
 intro d
 induction d with
 |zero=>grind|succ d ih=>
  intro i j h1 h2 h3;have bq:i<jd s p i:=ae;have⟨g1,g2⟩:=hp6 i bq;rw[Pu.eD g1 g2]at h3;exact ih (i+1) j ae ae h3
def Zq s i e j(he:e<=s.size)(hj:i+j<e):ji (s.extract i e) j=ji s (i+j):=by
 have h1:j<(s.extract i e).size:=qBo;rw[jh h1,jh ae];rw[ByteArray.getElem_extract]
def Jn s i(hi:i<s.size):ae7 (Pu.cI s i):=by
 have ht:=Pu.lX s i hi;revert ht;rw[Pu.cI];have ex:∀k b:Nat,i<b->b<=s.size->(jj s i k b).to=(jj s i k b).al+(jj s i k b).text.size:=λk b h1 h2=>by
  show b=i+(s.extract i b).size;rw[ByteArray.size_extract];omega
 repeat' split
 all_goals intro ht
 all_goals refine⟨ex _ _ ht.1 ht.2,?_,?_⟩
 all_goals intro q
 all_goals try(exfalso;simp[jj]at q;done)
 .rename_i h1 _;exact⟨_,_,iV hi ht.1,by rw[<-jh hi];exact h1⟩
 .rename_i h4 h5;have hto:jd s jf (i+1)<=s.size:=ht.2;have bq:i<jd s jf (i+1):=ht.1;have dU:(s.extract i<|jd s jf<|i+1).size=jd s jf (i+1)-i:=qBo;refine⟨by show 0<(s.extract i _).size;omega,by show(s.extract i _).size<=9;omega,λj hj=>?_⟩;have hj':j<(s.extract i<|jd s jf<|i+1).size:=hj;show jf (ji (s.extract i _) j)=true;rw[Zq s i _ j hto ae]
  cases j with
  |zero=>exact h4|succ j=>exact pH j (i+1) (i+(j+1)) ae ae ae
def oP s k(hk:k<(ja s 0).length):ae7 (tk (ja s 0) k):=by
 rw[iW s k hk];rw[aC];split
 .rename_i h;exact Jn s _ h
 .exact⟨by simp[Pu.dL];rfl,qBr,qBr⟩
inductive PP(w:World)(P:Nat->Prop):Nd->Value->Prop where
 |any(s:BA)(n f t a:Nat):PP w P (.mk 15 s n [] f t a) (.iface 337<|.agg #[Nv f,Nv t])
 |low(s:BA)(n f t a:Nat)(hs:BN s):PP w P (.mk 1 s n [] f t a) (.iface 356<|.agg #[Nv f,Nv t,.string s])
 |num(s:BA)(n f t a:Nat):PP w P (.mk 3 s n [] f t a) (.iface 326<|.agg #[Nv f,Nv t,Nv n])
 |word(s:BA)(n f t a:Nat)(hs:s.toList=gp.toList\/s.toList=dE.toList):PP w P (.mk 4 s n [] f t a) (.iface 321<|.agg #[Nv f,Nv t,.bool<|s.toList==[116,114,117,101]])
 |unit(s:BA)(n f t a:Nat):PP w P (.mk 5 s n [] f t a) (.iface 324<|.agg #[Nv f,Nv t])
 |pr(s:BA)(n:Nat)(x y:Nd)(f t a:Nat)(vx vy:Value)(hx:PP w P x vx)(hy:PP w P y vy):PP w P (.mk 6 s n [x,y] f t a) (.iface 328<|.agg #[Nv f,Nv t,vx,vy])
 |up(s:BA)(n:Nat)(L:List Nd)(f t a y:Nat)(sa:Option Addr)(sc:Nat)(vs:Nat->Value)(hu:nI s)(hy:y=a+s.size)(aM:L=[]\/∃g,sa=some ⟨g,0,none⟩/\P g/\g<w.heap.size/\∀i,i<L.length->w.cell? ⟨g,i,none⟩=some (vs i))(hr:∀i(h:i<L.length),PP w P L[i]<|vs i):
  PP w P (.mk 2 s n L f t a) (.iface 307<|.agg #[Nv f,Nv t,Nv a,Nv y,.string s,.slice sa L.length sc])
inductive PE(w:World)(P:Nat->Prop):Nd->Value->Prop where
 |low(s:BA)(n f t a:Nat)(hs:BN s):PE w P (.mk 1 s n [] f t a) (.iface 356<|.agg #[Nv f,Nv t,.string s])
 |up(s:BA)(n f t a:Nat)(hs:nI s):PE w P (.mk 2 s n [] f t a) (.iface 390<|.agg #[Nv f,Nv t,.string s])
 |num(s:BA)(n f t a:Nat):PE w P (.mk 3 s n [] f t a) (.iface 326<|.agg #[Nv f,Nv t,Nv n])
 |word(s:BA)(n f t a:Nat)(hs:s.toList=gp.toList\/s.toList=dE.toList):PE w P (.mk 4 s n [] f t a) (.iface 321<|.agg #[Nv f,Nv t,.bool<|s.toList==[116,114,117,101]])
 |unit(s:BA)(n f t a:Nat):PE w P (.mk 5 s n [] f t a) (.iface 324<|.agg #[Nv f,Nv t])
 |pr(s:BA)(n:Nat)(x y:Nd)(f t a:Nat)(vx vy:Value)(hx:PE w P x vx)(hy:PE w P y vy):PE w P (.mk 6 s n [x,y] f t a) (.iface 309<|.agg #[Nv f,Nv t,vx,vy])
 |of(s:BA)(n:Nat)(x y:Nd)(f t a:Nat)(vx vy:Value)(hx:PE w P x vx)(hy:PT w P y vy):PE w P (.mk 14 s n [x,y] f t a) (.iface 311<|.agg #[Nv f,Nv t,vx,vy])
 |op(s:BA)(n:Nat)(x y:Nd)(f t a:Nat)(vx vy:Value)(hs:s=iu\/s=dW\/s=gq\/s=dX)(hx:PE w P x vx)(hy:PE w P y vy):PE w P (.mk 7 s n [x,y] f t a) (.iface 297<|.agg #[Nv f,Nv t,.string s,vx,vy])
 |call(s:BA)(n:Nat)(x y:Nd)(f t a:Nat)(vx vy:Value)(hx:PE w P x vx)(hy:PE w P y vy):PE w P (.mk 8 s n [x,y] f t a) (.iface 319<|.agg #[Nv f,Nv t,vx,vy])
 |fn(s:BA)(n:Nat)(x:Nd)(f t a y:Nat)(vx:Value)(hs:BN s)(hy:y=a+s.size)(hx:PE w P x vx):PE w P (.mk 9 s n [x] f t a) (.iface 313<|.agg #[Nv f,Nv t,Nv a,Nv y,.string s,vx])
 |lt(c:Nat)(s:BA)(n:Nat)(x z:Nd)(f t a y:Nat)(vx vz:Value)(hc:c=10\/c=11)(hs:BN s)(hy:y=a+s.size)(hx:PE w P x vx)(hz:PE w P z vz):PE w P (.mk c s n [x,z] f t a) (.iface 315<|.agg #[Nv f,Nv t,.bool<|c==11,Nv a,Nv y,.string s,vx,vz])
 |ite(s:BA)(n:Nat)(x y z:Nd)(f t a:Nat)(vx vy vz:Value)(hx:PE w P x vx)(hy:PE w P y vy)(hz:PE w P z vz):PE w P (.mk 12 s n [x,y,z] f t a) (.iface 317<|.agg #[Nv f,Nv t,vx,vy,vz])
 |mt(s:BA)(n:Nat)(x:Nd)(A:List (Nd×Nd))(f t a:Nat)(vx:Value)(g sc:Nat)(vp ve:Nat->Value)(h0:A≠[])(hg:P g)(hz:g<w.heap.size)(hc:∀i,i<A.length->(∃u v,w.cell? ⟨g,i*4,none⟩=some (Iv u)/\w.cell? ⟨g,i*4+1,none⟩=some (Iv v))/\w.cell? ⟨g,i*4+2,none⟩=some (vp i)/\w.cell? ⟨g,i*4+3,none⟩=some (ve i))(hx:PE w P x vx)(hp:∀i(h:i<A.length),PP w P A[i].1<|vp i)(he:∀i(h:i<A.length),PE w P A[i].2<|ve i):
  PE w P (.mk 13 s n (x::aU A) f t a) (.iface 201<|.agg #[Nv f,Nv t,vx,.slice (some ⟨g,0,none⟩) A.length sc])
section
variable {Q:Nat->Prop} {v:Value}
theorem PP.move(h:PP w P nd v)(hs:w.heap.size<=w'.heap.size)(hb:∀b,P b->b<w.heap.size->w'.heap[b]? =w.heap[b]?)(hq:∀b,P b->b<w.heap.size->Q b):PP w' Q nd v:=by
 induction h with
 |any s n f t a=>exact .any s n f t a|low s n f t a h=>exact .low s n f t a h|num s n f t a=>exact .num s n f t a|word s n f t a h=>exact .word s n f t a h|unit s n f t a=>exact .unit s n f t a|pr s n x y f t a vx vy _ _ dH gJ=>exact .pr s n x y f t a vx vy dH gJ|up s n L f t a y sa sc vs hu hy aM hr ih=>
  refine .up s n L f t a y sa sc vs hu hy ?_ ih;obtain h0|⟨g,h1,hP,hz,hc⟩:=aM
  .exact j7 h0
  .refine j8 ⟨g,h1,hq g hP hz,jm hz hs,λi hi=>?_⟩;rw[qg (a:=⟨g,i,none⟩) (w:=w)<|hb g hP hz];exact hc i hi
def PP.af(h:PP w P nd v)(hb:Bq w w'):PP w' P nd v:=h.move hb.size (λb _ hz=>hb.block b hz)<|λ_ p _=>p
def PP.wide(h:PP w P nd v)(hq:∀b,P b->Q b):PP w Q nd v:=h.move (br _) (λ_ _ _=>rfl)<|λb p _=>hq b p
def PP.iface(h:PP w P nd v):∃t x,v=.iface t (.agg x):=by cases h<;>exact⟨_,_,rfl⟩
theorem PE.move(h:PE w P nd v)(hs:w.heap.size<=w'.heap.size)(hb:∀b,P b->b<w.heap.size->w'.heap[b]? =w.heap[b]?)(hq:∀b,P b->b<w.heap.size->Q b):PE w' Q nd v:=by
 induction h with
 |low s n f t a h=>exact .low s n f t a h|up s n f t a h=>exact .up s n f t a h|num s n f t a=>exact .num s n f t a|word s n f t a h=>exact .word s n f t a h|unit s n f t a=>exact .unit s n f t a|pr s n x y f t a vx vy _ _ dH gJ=>exact .pr s n x y f t a vx vy dH gJ|of s n x y f t a vx vy _ hy dH=>exact .of s n x y f t a vx vy dH (hy.move hs hb hq)|op s n x y f t a vx vy ho _ _ dH gJ=>exact .op s n x y f t a vx vy ho dH gJ|call s n x y f t a vx vy _ _ dH gJ=>exact .call s n x y f t a vx vy dH gJ|fn s n x f t a y vx h1 h2 _ ih=>exact .fn s n x f t a y vx h1 h2 ih|lt c s n x z f t a y vx vz h1 h2 h3 _ _ dH ZH=>exact .lt c s n x z f t a y vx vz h1 h2 h3 dH ZH|ite s n x y z f t a vx vy vz _ _ _ dH gJ ZH=>exact .ite s n x y z f t a vx vy vz dH gJ ZH|mt s n x A f t a vx g sc vp ve h0 hg hz hc _ hp _ dH ihe=>
  have c:∀j,w'.cell? ⟨g,j,none⟩=w.cell? ⟨g,j,none⟩:=λj=>qg (a:=⟨g,j,none⟩)<|hb g hg hz;refine .mt s n x A f t a vx g sc vp ve h0 (hq g hg hz) (jm hz hs) (λi hi=>?_) dH (λi hi=>(hp i hi).move hs hb hq) ihe;rw[c,c,c,c];exact hc i hi
def PE.af(h:PE w P nd v)(hb:Bq w w'):PE w' P nd v:=h.move hb.size (λb _ hz=>hb.block b hz)<|λ_ p _=>p
def PE.wide(h:PE w P nd v)(hq:∀b,P b->Q b):PE w Q nd v:=h.move (br _) (λ_ _ _=>rfl)<|λb p _=>hq b p
def PE.iface(h:PE w P nd v):∃t x,v=.iface t (.agg x):=by cases h<;>exact⟨_,_,rfl⟩
end
def eR s n:=∀(w:World)(N rb sb:Nat)(m:MV)(k:Nat),SX w N rb sb m s k->(ja s 0).length<=k+n->
 Cq 249 #[rp rb] w (ap PE N rb sb m s (bR (ja s 0) n k) w)
def BO s n:=∀(w:World)(N rb sb:Nat)(m:MV)(k:Nat),SX w N rb sb m s k->(ja s 0).length<=k+n->
 Cq 253 #[rp rb] w (ap PP N rb sb m s (dY (ja s 0) n k) w)
def m8 rb f:Cq 203 #[rp rb,oI f rb] w λe w'=>∃x y,e=.returned (UI x y)/\w.heap.size<=x/\w.heap.size<=y/\Bx w' x #[rp rb]/\Bx w' y #[oI f rb]/\Bq w w':=by
 go_enter func203,ntmps203
 go_wp2
 go_ret;refine⟨w.heap.size,w.heap.size+1,rfl,br _,Nat.le_succ _,(Bx.new w #[rp rb] _).alloc _,?_,(bw _).alloc ag _⟩;have:=Bx.new (w.alloc<|Cv #[rp rb] 153) #[oI f rb] 355;simpa using this
def ZV rb:(Cq 126 #[rp rb] w λe w'=>∃b,e=.returned (Mv b)/\w.heap.size<=b/\MS j5 w' b (Jj rb)/\Bq w w')/\
 Cq 127 #[rp rb] w λe w'=>∃b,e=.returned (Mv b)/\w.heap.size<=b/\MS j5 w' b (Re rb)/\Bq w w':=by
 have H:=Ma.new (w:=w);have HB:=(qh w.heap.size w).alloc (br _)<|.map #[] 0;have iN:= @run_makeMap jv;refine⟨?_,?_⟩;all_goals
  first|go_enter func126,ntmps126|go_enter func127,ntmps127
  go_wp2_with((refine aT _ rfl _ _ _ _ (j7 rfl) (KL.str jz) (by first|exact Tryz.underlying232|exact jy) _ _ rfl H _ _ rfl rfl trivial (λ_ _=>trivial) ?_;clear H;intro w' H' O';have H:=ai H';have HB:=ai<|One.below HB O' qbr;clear H' O'));go_ret;exact⟨_,rfl,br _,H,HB⟩
def ZW rb:(Cq 128 #[rp rb] w λe w'=>∃b x,e=.returned (Mv b)/\w.heap.size<=b/\w.heap.size<=x/\Bx w' x #[rp rb]/\MS j5 w' b (sY rb x)/\Bq w w')/\
 Cq 129 #[rp rb] w λe w'=>∃b x,e=.returned (Mv b)/\w.heap.size<=b/\w.heap.size<=x/\Bx w' x #[rp rb]/\MS j5 w' b (ri rb x)/\Bq w w':=by
 have H:Hid (MS Sv ((w.alloc<|Cv #[rp rb] 153).alloc<|.map #[] 0) (w.heap.size+1) []):=ai (by have:=Ma.new (w:=w.alloc<|Cv #[rp rb] 153);simpa using this);have HB:=ai<|((qh w.heap.size w).alloc (br _)<|Cv #[rp rb] 153).alloc ag<|.map #[] 0;have B0:=ai<|(Bx.new w #[rp rb] 153).alloc<|.map #[] 0;have⟨c0,f0,z0⟩:=uh B0;have iN:= @run_makeMap jv;refine⟨?_,?_⟩;all_goals
  first|go_enter func128,ntmps128|go_enter func129,ntmps129
  go_wp2_with((refine aT _ rfl _ _ _ _ (j7 rfl) (KL.str jz) (by first|exact jy|exact j3) _ _ rfl H _ _ rfl rfl trivial (λ_ _=>trivial) ?_;clear H;intro w' H' O';have H:=ai H';have HB:=ai<|One.below HB O' ag;have B0:=ai<|B0.one O' ag;have⟨c0,f0,z0⟩:=uh B0;clear H' O'));go_ret;exact⟨_,_,rfl,ag,br _,B0,H,HB⟩
def ZX rb:(Cq 131 #[rp rb] w λe w'=>∃b x0 y0,e=.returned (Mv b)/\w.heap.size<=b/\Bx w' x0 #[rp rb]/\Bx w' y0 #[oI 204 rb]/\w.heap.size<=x0/\w.heap.size<=y0/\MS j5 w' b [(dX,UI x0 y0)]/\Bq w w')/\
 Cq 133 #[rp rb] w λe w'=>∃b x0 y0,e=.returned (Mv b)/\w.heap.size<=b/\Bx w' x0 #[rp rb]/\Bx w' y0 #[oI 206 rb]/\w.heap.size<=x0/\w.heap.size<=y0/\MS j5 w' b [(gq,UI x0 y0)]/\Bq w w':=by
 have H:=Ma.new (w:=w);have HB:=(qh w.heap.size w).alloc (br _)<|.map #[] 0;have iN:= @run_makeMap jv;refine⟨?_,?_⟩;all_goals
  first|go_enter func131,ntmps131|go_enter func133,ntmps133
  go_wp2_with fail;first|refine(m8 rb 204).mono ?_|refine(m8 rb 206).mono ?_
  intro e w1 hp;obtain⟨x0,y0,rfl,hlx,ZY,X0,Y0,hb⟩:=hp;have lx0:=jm H.lt hlx;have ly0:=jm H.lt ZY;have H:=H.below hb;have HB:=HB.trans<|hb.mono HB.size;go_wp2_with(refine aT _ rfl _ _ _ _ (j7 rfl) (KL.str jz) jx _ _ rfl H _ _ rfl rfl trivial (λ_ _=>trivial) ?_;clear H;intro w' H' O';have H:=ai H';have HB:=ai<|One.below HB O' qbr;have X0:=ai<|X0.one O'<|jp lx0;have Y0:=ai<|Y0.one O'<|jp ly0;clear H' O');go_ret;exact⟨_,_,_,rfl,br _,X0,Y0,jq lx0,jq ly0,H,HB⟩
def NU rb:Cq 132 #[rp rb] w λe w'=>∃b x0 y0 x1 y1,e=.returned (Mv b)/\w.heap.size<=b/\Bx w' x0 #[rp rb]/\Bx w' y0 #[oI 205 rb]/\w.heap.size<=x0/\w.heap.size<=y0/\Bx w' x1 #[rp rb]/\Bx w' y1 #[oI 205 rb]/\w.heap.size<=x1/\w.heap.size<=y1/\MS j5 w' b [(iu,UI x0 y0),(dW,UI x1 y1)]/\Bq w w':=by
 have H:=Ma.new (w:=w);have HB:=(Below.refl w.heap.size w).alloc (br _)<|.map #[] 0;have iN:= @run_makeMap Tryz.prog;go_enter func132,ntmps132;go_wp2_with fail;refine(m8 rb 205).mono ?_;intro e w1 hp;obtain⟨x0,y0,rfl,hlx,ZY,hx,hy,hb⟩:=hp;have lx0:=Nat.lt_of_lt_of_le H.lt hlx;have ly0:=Nat.lt_of_lt_of_le H.lt ZY;have X0:=ai hx;have Y0:=ai hy;have H:=H.below hb;have HB:=HB.trans<|hb.mono HB.size;go_wp2_with(refine aT _ rfl _ _ _ _ (Or.inl rfl) (KL.str Tryz.underlying227) Tryz.underlying236 _ _ rfl H _ _ rfl rfl trivial (λ_ _=>trivial) ?_;clear H;intro w' H' O';have H:=ai H';have HB:=ai<|One.below HB O' qbr;have X0:=ai<|X0.one O'<|Nat.ne_of_gt lx0;have Y0:=ai<|Y0.one O'<|Nat.ne_of_gt ly0;clear H' O');refine(m8 rb 205).mono ?_;intro e w2 hp;obtain⟨x1,y1,rfl,hlx,ZY,X1,Y1,hb⟩:=hp;have lx1:=Nat.lt_of_lt_of_le H.lt hlx;have ly1:=Nat.lt_of_lt_of_le H.lt ZY;have X0:=X0.below hb;have Y0:=Y0.below hb;have H:=H.below hb;have HB:=HB.trans<|hb.mono HB.size
 go_wp2_with(refine aT _ rfl _ _ _ _ (j7 rfl) (KL.str jz) jx _ _ rfl H _ _ rfl rfl trivial (λ_ _=>trivial) ?_;clear H;intro w' H' O';have H:=ai H';have HB:=ai<|One.below HB O' qbr;have X0:=ai<|X0.one O'<|jp lx0;have Y0:=ai<|Y0.one O'<|jp ly0;have X1:=ai<|X1.one O'<|jp lx1;have Y1:=ai<|Y1.one O'<|jp ly1;clear H' O');go_ret;exact⟨_,_,_,_,_,rfl,br _,X0,Y0,jq lx0,jq ly0,X1,Y1,jq lx1,jq ly1,H,HB⟩
def pY w rb(ms:List (Nat×List (BA×Value)))(bs:List (Nat×Array Value)):=
 (∀p∈ms,p.1≠rb/\MS j5 w p.1 p.2)/\∀q∈bs,q.1≠rb/\Bx w q.1 q.2
section
variable {ms:List (Nat×List (BA×Value))} {bs:List (Nat×Array Value)}
def pY.ke(h:pY w rb ms bs)(hk:Ke rb w w'):pY w' rb ms bs:=
 ⟨λp q=>⟨(h.1 p q).1,(h.1 p q).2.same<|hk.block _ (h.1 p q).2.lt (h.1 p q).1⟩,λp q=>⟨(h.2 p q).1,(h.2 p q).2.ke hk (h.2 p q).1⟩⟩
def pY.m(h:pY w rb ms bs){b}(hn:rb<b)(hm:MS j5 w b L):pY w rb ((b,L)::ms) bs:=by grind[pY,bs,MS]
def pY.b(h:pY w rb ms bs){b}(hn:rb<b)(hm:Bx w b C):pY w rb ms ((b,C)::bs):=by grind[pY,bs]
def pY.map(h:pY w rb ms bs){b}(hm:(b,L)∈ms):oO w w.heap.size rb (Mv b) L:=⟨b,rfl,(h.1 _ hm).2.lt,(h.1 _ hm).1,(h.1 _ hm).2⟩
def pY.box(h:pY w rb ms bs){b}(hm:(b,C)∈bs):gQ w w.heap.size rb b C:=⟨(h.2 _ hm).2.z,(h.2 _ hm).1,(h.2 _ hm).2⟩
end
def ajI s w e w':=
 Bq w w'/\(((aC s 0).kind≠6/\e=.returned (rp w.heap.size)/\∃N sb m,Bx w' w.heap.size (rdC s (aC s 0) 0 m sb)/\Env w' N w.heap.size sb m)\/((aC s 0).kind=6/\e=bQ (dc<|aC s 0)))
def E9 rb:Cq 130 #[rp rb] w λe w'=>∃b,e=.returned (Mv b)/\w.heap.size<=b/\MS j5 w' b (smL rb)/\Bq w w':=BL _
def wv(h:Laid w)s(hs:s.size<=1000):Cq 96 #[.string s] w (ajI s w):=by
 have B:=ai<|Bx.new w (zRd s) 238;have HB:=(Below.refl w.heap.size w).alloc (br _)<|Cv (zRd s) 238;have HL:=ai h;have HH:pY (w.alloc<|Cv (zRd s) 238) w.heap.size [] []:=⟨λp q=>absurd q ag,λp q=>absurd q ag⟩;have⟨c,f,z⟩:=uh B;have E:∀W,Laid W->Cq 134 #[Sv s,Iv 0] W (eF (aC s 0) W):=λW hW=>II hW s 0 (Nat.zero_le _) hs;have cO:∀W:World,Bq w W->Laid W:=λW h=>HL.af h;have hz:=HL.hz;unfold ajI;generalize aC s 0=T at E⊢;go_enter func96,ntmps96;go_wp2_with fail;have zb0:=B.z;refine(ZV w.heap.size).1.mono ?_;intro e w1 hp;obtain⟨b0,rfl,le0,hM,hb⟩:=hp;have HH:=(HH.ke<|Ke.of hb).m (Nat.lt_of_lt_of_le zb0 le0) hM;have HB:=HB.trans<|hb.mono HB.size;have B:=ai<|B.below hb;have⟨c,f,z⟩:=uh B;go_wp2_with fail;have B:=ai<|B.aP 6 (Mv b0) (#[Sv s,Iv 0,Iv 0,Sv ⟨#[]⟩,Sv ⟨#[]⟩,Iv 0,Mv b0,.map none,.map none,.map none,.map none,.map none,.map none,.map none]) rfl ag;have HB:=HB.setCell (p:=⟨w.heap.size,6,none⟩) (br _)<|Mv b0;have HH:=HH.ke<|Ke.JF _ _ 6<|Mv b0;have zb1:=B.z;refine(ZV w.heap.size).2.mono ?_;intro e w1 hp;obtain⟨b1,rfl,le1,hM,hb⟩:=hp;have HH:=(HH.ke<|Ke.of hb).m (Nat.lt_of_lt_of_le zb1 le1) hM;have HB:=HB.trans<|hb.mono HB.size;have B:=ai<|B.below hb;have⟨c,f,z⟩:=uh B;go_wp2_with fail
 have B:=ai<|B.aP 7 (Mv b1) (#[Sv s,Iv 0,Iv 0,Sv ⟨#[]⟩,Sv ⟨#[]⟩,Iv 0,Mv b0,Mv b1,.map none,.map none,.map none,.map none,.map none,.map none]) rfl ag;have HB:=HB.setCell (p:=⟨w.heap.size,7,none⟩) (br _)<|Mv b1;have HH:=HH.ke<|qd _ _ 7<|Mv b1;have zb2:=B.z;refine(ZW w.heap.size).1.mono ?_;intro e w1 hp;obtain⟨b2,x2,rfl,le2,lx2,hx,hM,hb⟩:=hp;have HH:=((HH.ke<|qe hb).m (jm zb2 le2) hM).b (jm zb2 lx2) hx;have HB:=HB.trans<|hb.mono HB.size;have B:=ai<|B.below hb;have⟨c,f,z⟩:=uh B;go_wp2_with fail;have B:=ai<|B.aP 8 (Mv b2) (#[Sv s,Iv 0,Iv 0,Sv ⟨#[]⟩,Sv ⟨#[]⟩,Iv 0,Mv b0,Mv b1,Mv b2,.map none,.map none,.map none,.map none,.map none]) rfl ag;have HB:=HB.setCell (p:=⟨w.heap.size,8,none⟩) (br _)<|Mv b2;have HH:=HH.ke<|qd _ _ 8<|Mv b2;have zb3:=B.z;refine(ZW w.heap.size).2.mono ?_;intro e w1 hp;obtain⟨b3,x3,rfl,le3,lx3,hx,hM,hb⟩:=hp;have HH:=((HH.ke<|qe hb).m (jm zb3 le3) hM).b (jm zb3 lx3) hx;have HB:=HB.trans<|hb.mono HB.size;have B:=ai<|B.below hb;have⟨c,f,z⟩:=uh B;go_wp2_with fail;have B:=ai<|B.aP 9 (Mv b3) (#[Sv s,Iv 0,Iv 0,Sv ⟨#[]⟩,Sv ⟨#[]⟩,Iv 0,Mv b0,Mv b1,Mv b2,Mv b3,.map none,.map none,.map none,.map none]) rfl ag;have HB:=HB.setCell (p:=⟨w.heap.size,9,none⟩) (br _)<|Mv b3;have HH:=HH.ke<|qd _ _ 9<|Mv b3;have zb4:=B.z
 refine(E9 w.heap.size).mono ?_;intro e w1 hp;obtain⟨b4,rfl,le4,hM,hb⟩:=hp;have HH:=(HH.ke<|qe hb).m (jm zb4 le4) hM;have HB:=HB.trans<|hb.mono HB.size;have B:=ai<|B.below hb;have⟨c,f,z⟩:=uh B;go_wp2_with fail;have B:=ai<|B.aP 10 (Mv b4) (#[Sv s,Iv 0,Iv 0,Sv ⟨#[]⟩,Sv ⟨#[]⟩,Iv 0,Mv b0,Mv b1,Mv b2,Mv b3,Mv b4,.map none,.map none,.map none]) rfl ag;have HB:=HB.setCell (p:=⟨w.heap.size,10,none⟩) (br _)<|Mv b4;have HH:=HH.ke<|qd _ _ 10<|Mv b4;have zb5:=B.z;refine(ZX w.heap.size).1.mono ?_;intro e w1 hp;obtain⟨b5,x5,y5,rfl,le5,hx,hy,lx,ly,hM,hb⟩:=hp;have HH:=(((HH.ke<|qe hb).m (jm zb5 le5) hM).b (jm zb5 lx) hx).b (jm zb5 ly) hy;have HB:=HB.trans<|hb.mono HB.size;have B:=ai<|B.below hb;have⟨c,f,z⟩:=uh B;go_wp2_with fail;have B:=ai<|B.aP 11 (Mv b5) (#[Sv s,Iv 0,Iv 0,Sv ⟨#[]⟩,Sv ⟨#[]⟩,Iv 0,Mv b0,Mv b1,Mv b2,Mv b3,Mv b4,Mv b5,.map none,.map none]) rfl ag;have HB:=HB.setCell (p:=⟨w.heap.size,11,none⟩) (br _)<|Mv b5;have HH:=HH.ke<|qd _ _ 11<|Mv b5;have zb6:=B.z;refine(NU w.heap.size).mono ?_;intro e w1 hp;obtain⟨b6,x6,y6,u6,v6,rfl,le6,hx,hy,lx,ly,hu,hv,lu,lv,hM,hb⟩:=hp
 have HH:=(((((HH.ke<|qe hb).m (jm zb6 le6) hM).b (jm zb6 lx) hx).b (jm zb6 ly) hy).b (jm zb6 lu) hu).b (jm zb6 lv) hv;have HB:=HB.trans<|hb.mono HB.size;have B:=ai<|B.below hb;have⟨c,f,z⟩:=uh B;go_wp2_with fail;have B:=ai<|B.aP 12 (Mv b6) (#[Sv s,Iv 0,Iv 0,Sv ⟨#[]⟩,Sv ⟨#[]⟩,Iv 0,Mv b0,Mv b1,Mv b2,Mv b3,Mv b4,Mv b5,Mv b6,.map none]) rfl ag;have HB:=HB.setCell (p:=⟨w.heap.size,12,none⟩) (br _)<|Mv b6;have HH:=HH.ke<|qd _ _ 12<|Mv b6;have zb7:=B.z;refine(ZX w.heap.size).2.mono ?_;intro e w1 hp;obtain⟨b7,x7,y7,rfl,le7,hx,hy,lx,ly,hM,hb⟩:=hp;have HH:=(((HH.ke<|qe hb).m (jm zb7 le7) hM).b (jm zb7 lx) hx).b (jm zb7 ly) hy;have HB:=HB.trans<|hb.mono HB.size;have B:=ai<|B.below hb;have⟨c,f,z⟩:=uh B;go_wp2_with fail;have B:=ai<|B.aP 13 (Mv b7) (#[Sv s,Iv 0,Iv 0,Sv ⟨#[]⟩,Sv ⟨#[]⟩,Iv 0,Mv b0,Mv b1,Mv b2,Mv b3,Mv b4,Mv b5,Mv b6,Mv b7]) rfl ag;have HB:=HB.setCell (p:=⟨w.heap.size,13,none⟩) (br _)<|Mv b7;have HH:=HH.ke<|qd _ _ 13<|Mv b7;refine(E _<|cO _ HB).mono ?_;intro e w9 hp;by_cases hk:T.kind=6
 .obtain⟨rfl,hb⟩:=hp.bad hk;have HB:=HB.trans<|hb.mono HB.size;exact⟨rfl,HB,j8 ⟨hk,by rw[ae5 T hk];rfl⟩⟩
 .obtain⟨rfl,hb⟩:=hp.ok hk;have HB:=HB.trans<|hb.mono HB.size;have B:=ai<|B.below hb;have HH:=HH.ke<|qe hb;have⟨c,f,z⟩:=uh B
  go_wp2
  go_ret;have cS:=(((HB.setCell (p:=⟨w.heap.size,1,none⟩) (br _)<|Nv T.al).setCell (p:=⟨w.heap.size,2,none⟩) (br _)<|Nv T.to).setCell (p:=⟨w.heap.size,3,none⟩) (br _)<|Sv<|aq T).setCell (p:=⟨w.heap.size,4,none⟩) (br _)<|Sv T.text;have Bd:=((((HH.ke<|qd _ _ 1<|Nv T.al).ke<|qd _ _ 2<|Nv T.to).ke<|qd _ _ 3<|Sv<|aq T).ke<|qd _ _ 4<|Sv T.text);have B2:=B.ZK (Nv T.al) (Nv T.to) (Sv<|aq T)<|Sv T.text;generalize(((w9.setCell ⟨w.heap.size,1,none⟩<|Nv T.al).setCell ⟨w.heap.size,2,none⟩<|Nv T.to).setCell ⟨w.heap.size,3,none⟩<|Sv<|aq T).setCell ⟨w.heap.size,4,none⟩ (Sv T.text)=W at cS Bd B2⊢;have sm4:=Bd.map (b:=b4) (L:=smL w.heap.size)<|jk _<|jk _<|jk _<|jl _;obtain⟨_,q1,q2,q3,q4⟩:=sm4
  cases q1
  refine⟨cS,j7 ⟨hk,rfl,W.heap.size,b4,⟨Mv b0,Mv b1,Mv b2,Mv b3,Mv b5,Mv b6,Mv b7⟩,B2,q4,cO _ cS,hz,B2.z,q2,q3,br _,?_⟩⟩
  exact⟨Bd.map<|jk _<|jk _<|jk _<|jk _<|jk _<|jk _<|jk _<|jl _,Bd.map<|jk _<|jk _<|jk _<|jk _<|jk _<|jk _<|jl _,⟨x2,Bd.box<|jk _<|jk _<|jk _<|jk _<|jk _<|jk _<|jk _<|jk _<|jk _<|jl _,Bd.map<|jk _<|jk _<|jk _<|jk _<|jk _<|jl _⟩,⟨x3,Bd.box<|jk _<|jk _<|jk _<|jk _<|jk _<|jk _<|jk _<|jk _<|jl _,Bd.map<|jk _<|jk _<|jk _<|jk _<|jl _⟩,⟨x5,y5,Bd.box<|jk _<|jk _<|jk _<|jk _<|jk _<|jk _<|jk _<|jl _,Bd.box<|jk _<|jk _<|jk _<|jk _<|jk _<|jk _<|jl _,Bd.map<|jk _<|jk _<|jl _⟩,⟨x6,y6,u6,v6,Bd.box<|jk _<|jk _<|jk _<|jk _<|jk _<|jl _,Bd.box<|jk _<|jk _<|jk _<|jk _<|jl _,Bd.box<|jk _<|jk _<|jk _<|jl _,Bd.box<|jk _<|jk _<|jl _,Bd.map<|jk _<|jl _⟩,⟨x7,y7,Bd.box<|jk _<|jl _,Bd.box<|jl _,Bd.map<|jl _⟩⟩
end
def JQ w e s:Bq w (Lib.bytesWorld w e s):=by
 refine⟨?_,?_,?_,by rw[Lib.bytesWorld_size];omega,λb hb=>Lib.bytesWorld_at_old w e s b hb⟩;all_goals(simp[Lib.bytesWorld,World.freeze];try rfl)
def adn s(h:ac4 s):Cq 274 #[.string s] w λe w'=>e=.returned (.tuple #[Nv<|zJ s,.nilIface])/\Bq w w':=by
 obtain⟨h0,h9,hd⟩:=h;have hcv:=Lib.run_convert_string_bytes (P:=Tryz.prog) w 9 108 5 s Tryz.underlying9 Tryz.underlying108 Tryz.underlying5;have hb:=JQ w 5 s;have bM:=λj hj=>Lib.bytesWorld_cell w 5 s j hj;have l0:(0:Int)<(s.size:Int):=ae;have l1:(s.size:Int)<19:=ae;have a0:=hd 0 h0;rw[Pu.lW h0]at a0;simp only[Pu.dI,Bool.and_eq_true,Nat.ble_eq]at a0;have e1:((s[0].toNat:Int)==45)=false:=bB;have e2:((s[0].toNat:Int)==43)=false:=bB;generalize Lib.bytesWorld w 5 s=W at hcv hb bM;generalize grownCap w s.size 0 5=C at hcv;go_enter func274,ntmps274
 go_wp2
 go_loop[6,49] (λn i=>∃k:Nat,k<=s.size/\i=Nv k/\n=Nv (wV s k)) (λ_ i=>s.size-(intOf i).toNat)
 case atStart=>exact⟨0,ae,rfl,rfl⟩
 case round=>
  obtain⟨k,h1,rfl,rfl⟩:=hrel;have hn:=acB s k ae;by_cases ha:k<s.size
  .have hc:=bM k ha;have dk:=hd k ha;have ek:s.data.toList.getD k 0=s[k]:=by
    rw[List.getD_eq_getElem?_getD,List.getElem?_eq_getElem<|by simpa using ha];rfl
   rw[ek]at hc;rw[jh ha]at dk;simp only[jf,qf,Nat.ble_eq]at dk;have bq:(k:Int)<(s.size:Int):=ae;clear bM
   go_wp2
   refine⟨⟨k+1,ae,iK,congrArg (Value.int .i64) ?_⟩,by simp[intOf];omega⟩;simp only[wV,jh ha];omega
  .have bq:decide ((k:Int)<(s.size:Int))=false:=bB;clear bM
   go_wp2
   go_ret2;have ek:k=s.size:=ae;refine⟨?_,hb⟩;show Rv (.tuple #[Nv<|wV s k,Zv])=_;rw[zJ];rw[show min s.size 9=k by omega]
def ag2 w:(binOp .neq 290 .nilIface .nilIface).run jv w=.ok (.bool false) w:=qkr
def ag3 s(h:ac4 s):Cq 252 #[.string s] w λe w'=>e=.returned (.tuple #[Nv<|zJ s,.nilIface])/\Bq w w':=by
 have HC:=adn (w:=w) s h;have hn:=ag2;go_enter func252,ntmps252;go_wp2_with fail;refine HC.mono ?_;rintro e w1⟨rfl,hb⟩
 go_wp2
 go_ret2;exact⟨rfl,hb⟩
section
open Go.ChangeMaps
section
variable {m:MV}
def SX.set(h:SX w N rb sb m s k){b:Nat}(hb:N<=b)j v:SX (w.setCell ⟨b,j,none⟩ v) N rb sb m s k:=
 h.move yw λc hc=>qi _ _ _ _ (by show c≠b;omega)
def SX.Ai(h:SX w N rb sb m s k){b:Nat}(hb:N<=b)v0 v1 v2:SX (((w.setCell ⟨b,0,none⟩ v0).setCell ⟨b,1,none⟩ v1).setCell ⟨b,2,none⟩ v2) N rb sb m s k:=((h.set hb 0 v0).set hb 1 v1).set hb 2 v2
def Z3(h:SX w N rb sb m s k)(hs:s.size<=1000)(h7:(tk (ja s 0) k).kind≠7):Cq 136 #[rp rb] w (ap (Is<|tkA<|tk (ja s 0) k) N rb sb m s (.ok ((),k+1)) w):=
 (Ah h.rd hs<|qG s k h.lt).mono λe w' hp=>by
  have lJ:ch rb sb m s (tk (ja s 0) k) (dz<|tk (ja s 0) k) w e w':=hp;exact lJ.x (R:=Is<|tkA<|tk (ja s 0) k) h h7 rfl
def UJ(h:SX w N rb sb m s k)(hs:s.size<=1000)(h4:(tk (ja s 0) k).kind=4):Cq 97 #[rp rb,.string NS] w (ap (Is<|tkA<|tk (ja s 0) k) N rb sb m s (.ok ((),k+1)) w):=by
 have hk:=ZT (eu s k h.lt) h.ok;rw[h4]at hk;refine(iA h.rd hs (qG s k h.lt) NS<|by simpa using hk).mono λe w' hp=>?_;have lJ:ch rb sb m s (tk (ja s 0) k) (dz<|tk (ja s 0) k) w e w':=hp;exact lJ.x (R:=Is<|tkA<|tk (ja s 0) k) h ae rfl
def s_{k}(h:(tk T k).kind=n):di T n k=.ok (tk T k,k+1):=by grind[tk,di]
def td{k}c(h:bu (tk T k)=c):bS (tk T k)=.mk c (tk T k).text (eE<|tk T k) [] (tk T k).al (tk T k).to (tk T k).al:=by rw[bS];rw[h]
def UK(h:SX w N rb sb m s k)(hs:s.size<=1000):Cq 185 #[rp rb] w (ap NT N rb sb m s (di (ja s 0) 1 k) w):=by
 have hz:=h.z;have hN:=h.ev.hN;have⟨b0,B0⟩:=nK w zNm 356;have HC:=uP (h.af b0) hs 1 EZ<|Or.inl ⟨rfl,rfl⟩;go_enter func185,ntmps185;go_wp2_with fail;refine HC.mono ?_;intro e w1 hp
 cases hA:fin (ja s 0) (di (ja s 0) 1 k)with
 |error f=>
  obtain⟨rfl,hb⟩:=hp.bad hA;exact⟨rfl,ap.fail ((qe b0).trans hb) hA⟩
 |ok r=>
 obtain⟨t,k1⟩:=r;obtain⟨v,rfl,hb,hS,hR⟩:=hp.ok hA
 cases hR
 have B1:=ai<|(B0.sG hb ae).alloc<|Cv #[Nv t.al,Nv t.to,Sv t.text] 133;have K1:=((qe b0).trans hb).fs<|bw<|Cv #[Nv t.al,Nv t.to,Sv t.text] 133;have S1:=hS.af<|bw<|Cv #[Nv t.al,Nv t.to,Sv t.text] 133;have bq:=hb.size;simp at bq;have⟨c,f,z⟩:=uh B1;go_wp2_with fail;have⟨cF,fF,zF⟩:=B1.dJ rfl (Nv t.al) (Nv t.to) (Sv t.text);exact bodyPost_ret (v:=nmA t) (by simp[results,Tryz.results185,go_sem,cF]) rfl (ap.done (q_ hA).1 (K1.sX (br _) _ _ _) (S1.Ai hN _ _ _) rfl)
def th{p:Prop}(h:p:=by
 obtain⟨rfl,hb⟩:=hp.bad<|cV _ h6
 exact⟨rfl,ap.fail hb<|cV _ h6⟩):p:=h
def ae8(h:SX w N rb sb m s k)(hs:s.size<=1000)(hk:(tk (ja s 0) k).kind=2):(Cq 186 #[rp rb] w<|ap PE N rb sb m s (.ok (bS<|tk (ja s 0) k,k+1)) w)/\
 Cq 195 #[rp rb] w (ap PP N rb sb m s (.ok (bS<|tk (ja s 0) k,k+1)) w):=by
 have hi:=oP s k h.lt;have ho:=eu s k h.lt;have HC:=uP h hs 2 JD<|j8 ⟨rfl,rfl⟩;have V0:=g_;refine⟨?_,?_⟩;all_goals
  first|go_enter func186,ntmps186|go_enter func195,ntmps195
  go_wp2_with fail;refine HC.mono ?_;intro e w1 hp;have hm:=s_ hk;rw[hm]at hp;by_cases h6:(tk (ja s 0)<|k+1).kind=6
  .exact th
  obtain⟨v,rfl,hb,hS,hR⟩:=hp.ok<|lf _ h6
  cases hR
  have K1:=hb.fs<|bw<|Cv #[Nv (tk (ja s 0) k).al,Nv (tk (ja s 0) k).to,Sv (tk (ja s 0) k).text] 133;have S1:=hS.af<|bw<|Cv #[Nv (tk (ja s 0) k).al,Nv (tk (ja s 0) k).to,Sv (tk (ja s 0) k).text] 133
  go_wp2
  go_ret;refine ap.done rfl K1 S1 ?_;rw[td 2 (by rw[bu];simp[hk])];first|exact .up _ _ _ _ _ (ho.v2 hk)|exact .up _ _ [] _ _ _ _ none 0 (λ_=>Zv) (ho.v2 hk) hi.sp (j7 rfl) (λi hi=>by simp at hi)
def NY(h:SX w N rb sb m s k)(hs:s.size<=1000)(hk:a_ (tk (ja s 0) k) zK=true):Cq 193 #[rp rb] w (ap PP N rb sb m s (.ok (bS<|tk (ja s 0) k,k+1)) w):=by
 have hi:=oP s k h.lt;have ho:=eu s k h.lt;have HC:=ZU h hs zK aK;have V0:=g_;go_enter func193,ntmps193;go_wp2_with fail;refine HC.mono ?_;intro e w1 hp;have hm:bt (Pu.bH s 0) zK k=.ok ((),k+1):=by rw[bt];rw[if_pos hk]
 rw[hm]at hp;by_cases h6:(tk (ja s 0)<|k+1).kind=6
 .exact th
 obtain⟨v,rfl,K1,S1,hR⟩:=hp.ok<|lf _ h6
 cases hR
 go_wp2
 go_ret;refine ap.done rfl K1 S1 ?_;have h5:=ot hk;rw[td 15 (by rw[bu];rw[if_neg ae,if_neg ae,if_neg ae,if_neg ae,if_neg (by rw[ID,CC];rw[Qg]at hk;simp at hk;simp[hk.2]),if_pos hk])];exact .any _ _ _ _ _
def Rg{p:Prop}(h:p:=by
 obtain⟨rfl,hb⟩:=hp.bad<|cV _ h6
 exact⟨rfl,ap.fail ((qe b0).trans hb)<|cV _ h6⟩):p:=h
def ado(h:SX w N rb sb m s k)(hs:s.size<=1000)(hk:a_ (tk (ja s 0) k) gp=true\/a_ (tk (ja s 0) k) dE=true):Cq 190 #[rp rb] w (ap (Is<|.agg #[Nv (tk (ja s 0) k).al,Nv (tk (ja s 0) k).to,.bool<|(aq<|tk (ja s 0) k).toList==[116,114,117,101]]) N rb sb m s (.ok ((),k+1)) w):=by
 have hz:=h.z;have hN:=h.ev.hN;have hi:=oP s k h.lt;have⟨b0,B0⟩:=nK w #[Iv 0,Iv 0,.bool false] 321;have HC:=Z3 (h.af b0) hs (by obtain hk|hk:=hk<;>exact JO hk);go_enter func190,ntmps190;go_wp2_with fail;refine HC.mono ?_;intro e w1 hp;by_cases h6:(tk (Pu.bH s 0)<|k+1).kind=6
 .exact Rg
 obtain⟨v,rfl,hb,hS,hR⟩:=hp.ok<|lf _ h6
 cases hR
 have B1:=ai<|(B0.sG hb ae).alloc<|Cv #[Nv (tk (ja s 0) k).al,Nv (tk (ja s 0) k).to,Sv<|aq<|tk (ja s 0) k,Sv (tk (ja s 0) k).text] 229;have K1:=((qe b0).trans hb).fs<|bw<|Cv #[Nv (tk (ja s 0) k).al,Nv (tk (ja s 0) k).to,Sv<|aq<|tk (ja s 0) k,Sv (tk (ja s 0) k).text] 229;have S1:=hS.af<|bw<|Cv #[Nv (tk (ja s 0) k).al,Nv (tk (ja s 0) k).to,Sv<|aq<|tk (ja s 0) k,Sv (tk (ja s 0) k).text] 229;have bq:=hb.size;simp at bq;have⟨c,f,z⟩:=uh B1;go_wp2_with fail;have⟨cF,fF,zF⟩:=B1.dJ rfl (Nv (tk (ja s 0) k).al) (Nv (tk (ja s 0) k).to) (.bool<|(aq<|tk (ja s 0) k).toList==[116,114,117,101]);exact bodyPost_ret (v:=Av #[Nv (tk (ja s 0) k).al,Nv (tk (ja s 0) k).to,.bool<|(aq<|tk (ja s 0) k).toList==[116,114,117,101]]) (by simp[results,Tryz.results190,go_sem,cF]) rfl (ap.done rfl (K1.sX (br _) _ _ _) (S1.Ai hN _ _ _) rfl)
def Z8(h:SX w N rb sb m s k)(hs:s.size<=1000)(hk:(tk (ja s 0) k).kind=4):Cq 188 #[rp rb] w (ap (Is<|.agg #[Nv (tk (ja s 0) k).al,Nv (tk (ja s 0) k).to,Nv<|zJ (tk (ja s 0) k).text]) N rb sb m s (.ok ((),k+1)) w):=by
 have hz:=h.z;have hN:=h.ev.hN;have hi:=oP s k h.lt;have⟨b0,B0⟩:=nK w #[Iv 0,Iv 0,Iv 0] 326;have HC:=UJ (h.af b0) hs hk;go_enter func188,ntmps188;go_wp2_with fail;refine HC.mono ?_;intro e w1 hp;by_cases h6:(tk (Pu.bH s 0)<|k+1).kind=6
 .exact Rg
 obtain⟨v,rfl,hb,hS,hR⟩:=hp.ok<|lf _ h6
 cases hR
 have B1:=ai<|(B0.sG hb ae).alloc<|Cv #[Nv (tk (ja s 0) k).al,Nv (tk (ja s 0) k).to,Sv<|aq<|tk (ja s 0) k,Sv (tk (ja s 0) k).text] 229;have B2:=ai<|Bx.new w1 #[Nv (tk (ja s 0) k).al,Nv (tk (ja s 0) k).to,Sv<|aq<|tk (ja s 0) k,Sv (tk (ja s 0) k).text] 229;have K1:=((qe b0).trans hb).fs<|bw<|Cv #[Nv (tk (ja s 0) k).al,Nv (tk (ja s 0) k).to,Sv<|aq<|tk (ja s 0) k,Sv (tk (ja s 0) k).text] 229;have S1:=hS.af<|bw<|Cv #[Nv (tk (ja s 0) k).al,Nv (tk (ja s 0) k).to,Sv<|aq<|tk (ja s 0) k,Sv (tk (ja s 0) k).text] 229;have bq:=hb.size;simp at bq;have⟨c,f,z⟩:=uh B1;have⟨c2,f2,z2⟩:=uh B2;go_wp2_with fail;refine(ag3 _<|hi.v4 hk).mono ?_;rintro e w2⟨rfl,hb⟩;have B1:=ai<|B1.below hb;have B2:=ai<|B2.below hb;have K1:=K1.fs hb;have S1:=S1.af hb;have⟨c,f,z⟩:=uh B1;have⟨c2,f2,z2⟩:=uh B2;go_wp2_with fail;have⟨cF,fF,zF⟩:=B1.dJ rfl (Nv (tk (ja s 0) k).al) (Nv (tk (ja s 0) k).to) (Nv<|zJ (tk (ja s 0) k).text);exact bodyPost_ret (v:=Av #[Nv (tk (ja s 0) k).al,Nv (tk (ja s 0) k).to,Nv<|zJ (tk (ja s 0) k).text]) (by simp[results,Tryz.results188,go_sem,cF]) rfl (ap.done rfl (K1.sX (br _) _ _ _) (S1.Ai hN _ _ _) rfl)
end
section
variable {m:MV}
def E_(h:a_ t gp=true\/a_ t dE=true):bu t=4:=by
 have h5:t.kind=5:=by obtain h|h:=h<;>exact ot h
 rw[bu];rw[if_neg ae,if_neg ae,if_neg ae,if_neg ae,if_pos h]
def adp(h:a_ t gp=true\/a_ t dE=true):t.text.toList=gp.toList\/t.text.toList=dE.toList:=by
 obtain h|h:=h
 .left;rw[a_]at h;simp only[qf,beq_iff_eq]at h;exact h.2
 .right;rw[a_]at h;simp only[qf,beq_iff_eq]at h;exact h.2
def Z9(h:SX w N rb sb m s k)(hs:s.size<=1000)(hk:(tk (ja s 0) k).kind=1)x(hx:Bx w x #[rp rb]):
 Cq 184 #[Pv x] w (ap PE N rb sb m s (.ok (bS<|tk (ja s 0) k,k+1)) w)/\
 Cq 194 #[Pv x] w (ap PP N rb sb m s (.ok (bS<|tk (ja s 0) k,k+1)) w):=by
 have hi:=oP s k h.lt;have HC:=UK h hs;obtain⟨c0,f0,z0⟩:=hx;refine⟨?_,?_⟩;all_goals
  first|go_enter func184,ntmps184|go_enter func194,ntmps194
  go_wp2_with fail;refine HC.mono ?_;intro e w1 hp;rw[s_ hk]at hp;by_cases h6:(tk (ja s 0)<|k+1).kind=6
  .exact th
  obtain⟨v,rfl,K1,S1,hR⟩:=hp.ok<|lf _ h6
  cases hR
  go_wp2
  go_ret;refine ap.done rfl K1 S1 ?_;rw[td 1 (by rw[bu];simp[hk])];exact .low _ _ _ _ _<|hi.v1 hk
def Z_(h:SX w N rb sb m s k)(hs:s.size<=1000)(hk:(tk (ja s 0) k).kind=4)x(hx:Bx w x #[rp rb]):
 Cq 187 #[Pv x] w (ap PE N rb sb m s (.ok (bS<|tk (ja s 0) k,k+1)) w)/\
 Cq 196 #[Pv x] w (ap PP N rb sb m s (.ok (bS<|tk (ja s 0) k,k+1)) w):=by
 have hi:=oP s k h.lt;have HC:=Z8 h hs hk;obtain⟨c0,f0,z0⟩:=hx;refine⟨?_,?_⟩;all_goals
  first|go_enter func187,ntmps187|go_enter func196,ntmps196
  go_wp2_with fail;refine HC.mono ?_;intro e w1 hp;by_cases h6:(tk (ja s 0)<|k+1).kind=6
  .exact th
  obtain⟨v,rfl,K1,S1,hR⟩:=hp.ok<|lf _ h6
  cases hR
  go_wp2
  go_ret;refine ap.done rfl K1 S1 ?_;rw[td 3 (by rw[bu];simp[hk]),show eE (tk (ja s 0) k)=zJ (tk (ja s 0) k).text by rw[eE];simp[hk]];exact .num _ _ _ _ _
def ye(h:SX w N rb sb m s k)(hs:s.size<=1000)(hk:a_ (tk (ja s 0) k) gp=true\/a_ (tk (ja s 0) k) dE=true)x(hx:Bx w x #[rp rb]):
 Cq 189 #[Pv x] w (ap PE N rb sb m s (.ok (bS<|tk (ja s 0) k,k+1)) w)/\
 Cq 191 #[Pv x] w (ap PE N rb sb m s (.ok (bS<|tk (ja s 0) k,k+1)) w)/\
 Cq 197 #[Pv x] w (ap PP N rb sb m s (.ok (bS<|tk (ja s 0) k,k+1)) w)/\
 Cq 198 #[Pv x] w (ap PP N rb sb m s (.ok (bS<|tk (ja s 0) k,k+1)) w):=by
 have hi:=oP s k h.lt;have HC:=ado h hs hk;obtain⟨c0,f0,z0⟩:=hx;refine⟨?_,?_,?_,?_⟩;all_goals
  first|go_enter func189,ntmps189|go_enter func191,ntmps191|go_enter func197,ntmps197|go_enter func198,ntmps198
  go_wp2_with fail;refine HC.mono ?_;intro e w1 hp;by_cases h6:(tk (ja s 0)<|k+1).kind=6
  .exact th
  obtain⟨v,rfl,K1,S1,hR⟩:=hp.ok<|lf _ h6
  cases hR
  go_wp2
  go_ret;refine ap.done rfl K1 S1 ?_;rw[td 4<|E_ hk,pN (by obtain hk|hk:=hk<;>exact ot hk)];exact .word _ _ _ _ _<|adp hk
end
def uQ(h:t.kind=6)sort:aF t sort=false:=by
 have h0:bu t=0:=by rw[bu];simp[h,ed h]
 rw[aF];rw[ed h,h0];repeat' split
 all_goals rfl
def m9 p q sort:aR T (aI T p q sort):=λk h=>by rw[aI];rw[uQ h];rfl
def wC p q sort f a:aR T (jQ T p q sort f a):=λk h=>by
 rw[jQ];rw[ed h,ed h];rw[if_neg ag,if_neg ag];exact JM T _ k h
theorem i_(sm:M Nd)(sort:Nat):∀f x,aR T<|dA T sm sort f x
 |0,x=>λk h=>cV _ h|f+1,x=>λk h=>by unfold dA;rw[uQ h];exact cV _ h
def JT(hs:aR T sm):aR T (gN T sm sort):=λk h=>by
 rw[gN];rw[if_neg<|by simp[h]];exact hs k h
def pO:∀n,aR T<|dY T n
 |0=>λk h=>rfl|n+1=>JT<|m9 _ _ _
def oQ{p:M Nd}(hp:aR T p)sort f:aR T (gX T p q sort f):=λk h=>by
 rw[gX];rw[ed h,if_neg ag];exact bU (hp k h) λa=>wC _ _ _ _ a
def wE(sm:M Nd)(fr:Nat):∀f x,aR T<|jR T sm fr f x
 |0,x=>λk h=>cV _ h|f+1,x=>λk h=>by unfold jR;rw[uQ h];exact cV _ h
def oR(sm:M Nd)(fr:Nat):∀f x,aR T<|kU T sm fr f x
 |0,x=>λk h=>cV _ h|f+1,x=>λk h=>by unfold kU;rw[ed h];exact cV _ h
def rl(sm:M Nd)(fr:Nat):∀f x,aR T<|sw T sm fr f x
 |0,x=>λk h=>cV _ h|f+1,x=>λk h=>by unfold sw;rw[ed h,ed h,if_neg ag];exact cV _ h
def m_(hs:aR T sm):aR T (dt T sm):=λk h=>bU (hs k h) λa=>wE _ _ _ a
def rq(hs:aR T sm):aR T (gu T sm):=λk h=>bU (hs k h) λa=>oR _ _ _ a
def De(hs:aR T sm):aR T (wW T sm):=λk h=>bU (hs k h) λa=>rl _ _ _ a
def JU sum fr(x:Nd):=λk1=>if a_ (tk T k1) dX=true then aN sum (λy k'=>.ok (.mk 7 dX 0 [x,y] fr (aE T k') fr,k')) (k1+1)else .ok (x,k1)
def wF sum fr x:aR T (JU (T:=T) sum fr x):=λk h=>by rw[JU];rw[ed h];exact cV _ h
def adq sum k:sC T sum k=aN sum (JU (T:=T) sum (tk T k).al) k:=rfl
def NZ{sum}(hs:aR T sum):aR T (sC T sum):=λk h=>bU (hs k h) λa=>wF _ _ a
def ng:∀n,aR T<|bR T n
 |0=>λk h=>rfl|n+1=>λk h=>by
  unfold bR;rw[ed h,ed h,ed h,ed h];exact NZ (De<|rq<|m_<|m9 _ _ _) k h
def UL e:aR T (uq T e):=λk h=>by
 rw[uq,aN];rw[show bt T MU k=.error (dc<|tk T k) by rw[bt];rw[ed h];rfl];rfl
def qH:M Unit:=λk=>.ok ((),k+1)
def uR{p:M Nd}(h:a_ (tk T k) m5=true):aI T p q sort k=aN (bt T m5) (λ_=>gX T p q sort (tk T k).al) k:=by
 have h':=h;rw[aI,aN,bt];rw[if_pos (by rw[aF];simp[h']),if_pos h',if_pos h]
def N9{p:M Nd}(h1:sort≠1)(h:a_ (tk T k) lz=true):gX T p q sort f k=aN qH (λ_ j=>.ok (.mk 5 fX 0 [] f (aE T j) f,j)) k:=by
 rw[gX];rw[if_pos ⟨h1,h⟩];rfl
def Ak{p:M Nd}(h:a_ (tk T k) lz=false):gX T p q sort f k=aN p (jQ T p q sort f) k:=by
 rw[gX];rw[if_neg<|by simp[h]]
def oS{p:M Nd}(h:a_ (tk T k) mR=true):jQ T p q sort f a k=aN qH (λ_=>aN p λb=>aN (bt T lz) λ_ j=>.ok (.mk 6 fX 0 [a,b] f (aE T j) f,j)) k:=by rw[jQ];rw[if_pos h];rfl
def JV{p:M Nd}(h0:a_ (tk T k) mR=false)(h:a_ (tk T k) D_=true):jQ T p q 3 f a k=aN qH (λ_=>aN q λb=>aN (bt T lz) λ_ j=>.ok (.mk 14 fX 0 [a,b] f (aE T j) f,j)) k:=by rw[jQ];rw[if_neg<|by simp[h0],if_pos ⟨rfl,h⟩];rfl
def wG{p:M Nd}(h0:a_ (tk T k) mR=false)(h:sort=3->a_ (tk T k) D_=false):jQ T p q sort f a k=aN (bt T lz) (λ_ j=>.ok (a,j)) k:=by
 rw[jQ];rw[if_neg<|by simp[h0],if_neg (by rintro⟨h1,h2⟩;rw[h h1]at h2;cases h2)];rfl
def adr(h:di (ja s 0) 1 k=.ok (t,k'))(hk:k<(ja s 0).length):BN t.text/\t.to=t.al+t.text.size:=by
 rw[di]at h;split at h
 .rename_i hq
  cases h
  have:=oP s k hk;exact⟨this.v1<|by simpa using hq,this.sp⟩
 .cases h
def Zx{p:Prop}(h:p:=by intros;repeat' (first|exact JP _|exact rh _ _|exact ng _|exact pO _|exact rj _ _ (by decide)|exact UL _|exact N_ _|exact uO _ _|exact N' hT0 _|exact Fb hT0|exact Oa _ _ _|exact iL|exact λq h=>wE _ _ _ _ q h|exact λq h=>oR _ _ _ _ q h|exact λq h=>rl _ _ _ _ q h|exact wC _ _ _ _ _|exact oQ (pO _) _ _|exact oQ (uO _ _) _ _|exact oQ (ng _) _ _|refine fK ?_ λ_=>?_)):p:=h
def Mov{α:Type}(R:World->(Nat->Prop)->α->Value->Prop):=∀w w' P Q a v,R w P a v->w.heap.size<=w'.heap.size->(∀b,P b->b<w.heap.size->w'.heap[b]? =w.heap[b]?)->(∀b,P b->b<w.heap.size->Q b)->R w' Q a v
structure cA{γ:Type}N rb sb m s r w0 xb C(g:M γ)(P:World->Prop)k w:Prop where
 sx:SX w N rb sb m s k
 ke:Ke rb w0 w
 eq:r=g k
 lv:∀w',w.heap.size<=w'.heap.size->(∀b,b<w.heap.size->b≠rb->b≠xb->w'.heap[b]? =w.heap[b]?)->P w'
 rz:rb<w0.heap.size/\N<=w0.heap.size
 xz:xb<w.heap.size
 bx:xb=rb\/N<=xb/\w0.heap.size<=xb/\Bx w xb C
section
variable {m:MV} {r:Except Fl (γ×Nat)} {P Q:World->Prop} {g g':M γ} {f:FuncId}
def cA.p(H:cA N rb sb m s r w0 xb C g P k w):P w:=H.lv w (br _) λ_ _ _ _=>rfl
def cA.mv(H:cA N rb sb m s r w0 xb C g P k w)(q:Ke rb w w')(S:SX w' N rb sb m s k')(e:r=g' k'):cA N rb sb m s r w0 xb C g' P k' w':=
 ⟨S,H.ke.trans q,e,λw2 a b=>H.lv w2 (jo q.size a) λc c1 c2 c3=>(b c (jm c1 q.size) c2 c3).trans<|q.block c c1 c2,H.rz,jm H.xz q.size,H.bx.imp id λ⟨a,b,c⟩=>⟨a,b,c.sG q (by have:=H.rz.1;omega)⟩⟩
def cA.af(H:cA N rb sb m s r w0 xb C g P k w)(hb:Bq w w'):cA N rb sb m s r w0 xb C g P k w':=H.mv (qe hb) (H.sx.af hb) H.eq
def cA.drew(H:cA N rb sb m s r w0 xb C g P k w):cA N rb sb m s r w0 xb C g P k w.drew:=H.af (qh _ _).drew
def cA.re(H:cA N rb sb m s r w0 xb C g P k w)(h:g k=g' k):cA N rb sb m s r w0 xb C g' P k w:=H.mv (Ke.refl _ _) H.sx<|H.eq.trans h
def cA.add(H:cA N rb sb m s r w0 xb C g P k w)(h:∀w',w.heap.size<=w'.heap.size->(∀b,b<w.heap.size->b≠rb->b≠xb->w'.heap[b]? =w.heap[b]?)->Q w'):cA N rb sb m s r w0 xb C g (λw=>P w/\Q w) k w:=⟨H.sx,H.ke,H.eq,λw' a b=>⟨H.lv w' a b,h w' a b⟩,H.rz,H.xz,H.bx⟩
def cA.box{t:TypeId}(H:cA N rb sb m s r w0 xb C g P k w):cA N rb sb m s r w0 xb C g (λv=>P v/\Bx v w.heap.size D) k (w.alloc<|.cells D t):=
 (H.af<|bw _).add λw' a b=>(Bx.new w D t).same a (b _ ag (by have:=H.rz.1;have:=H.ke.size;omega) (by have:=H.xz;omega))
def cA.own{t:TypeId}(H:cA N rb sb m s r w0 rb C g P k w):cA N rb sb m s r w0 w.heap.size D g P k (w.alloc<|.cells D t):=
 have K:=H.af<|bw<|Cv D t
 ⟨K.sx,K.ke,K.eq,λw' a b=>H.lv w' (jo ag a) λc c1 c2 _=>(b c bB c2 ae).trans<|(bw _).block c c1,H.rz,ag,.inr ⟨H.sx.ev.hN,H.ke.size,Bx.new w D t⟩⟩
def cA.put(H:cA N rb sb m s r w0 xb C g P k w)(o:xb≠rb)(B:Bx w' xb D)(q:One xb w w'):cA N rb sb m s r w0 xb D g P k w':=by
 obtain h|⟨b1,b2,b3⟩:=H.bx
 .exact absurd h o
 have K:=H.ke;have z:=q.size;exact⟨H.sx.move ae λb p=>q.block b ae,⟨q.os.trans K.os,q.tape.trans K.tape,q.output.trans K.output,by rw[z];exact K.size,λb z n=>(q.block b ae).trans<|K.block b z n⟩,H.eq,λw2 a b=>H.lv w2 ae λc c1 c2 c3=>(b c ae c2 c3).trans<|q.block c c3,H.rz,B.z,.inr ⟨b1,b2,B⟩⟩
def cM{w0 w}{b}{v}(h:One b w0 w):One b w0 (w.setCell ⟨b,j,none⟩ v):=⟨h.os,h.tape,h.output,by simpa[World.setCell]using h.size,λi hi=>(qi _ _ _ _ hi).trans<|h.block i hi⟩
def cA.bo(H:cA N rb sb m s r w0 xb C g P k w)(o:xb≠rb):Bx w xb C:=(H.bx.resolve_left o).2.2
def cA.at(h:SX w N rb sb m s k)(e:r=g k):cA N rb sb m s r w rb #[] g (λ_=>True) k w:=⟨h,Ke.refl _ _,e,λ_ _ _=>trivial,⟨h.z,h.ev.hN⟩,h.z,.inl rfl⟩
def cA.Al{R}{mm}{g:α->M γ}(h:SX w N rb sb m s k)(e:r=aN mm g k)(c:cA N rb sb m s r w rb #[] (aN mm g) (λ_=>True) k w->Cq f args w (ap R N rb sb m s r w)):Cq f args w (ap R N rb sb m s r w):=
 c (.at h e)
def cA.imp(H:cA N rb sb m s r w0 xb C g P k w)(h:∀w,P w->Q w):cA N rb sb m s r w0 xb C g Q k w:=⟨H.sx,H.ke,H.eq,λw' a b=>h _<|H.lv w' a b,H.rz,H.xz,H.bx⟩
theorem cA.aX{R}{mm}{g}{a:α}(H:cA N rb sb m s r w0 xb C (aN mm g) P k w)(h:ap R N rb sb m s (mm k) w e w')(hA:fin (ja s 0) (mm k)=.ok (a,k'))(mv:Mov R:=by first|exact λ_ _ _ _ _ _ h _ _ _=>h|exact λ_ _ _ _ _ _ h a b c=>h.move a b c):∃v,e=.returned v/\cA N rb sb m s r w0 xb C (g a) (λw'=>P w'/\R w' (λb=>w0.heap.size<=b) a v) k' w'/\R w' (λb=>w.heap.size<=b) a v:=by
 have⟨v,e1,hb,S,V⟩:=h.ok hA;exact⟨v,e1,(H.mv hb S<|H.eq.trans<|m7 hA).add λw2 a1 b1=>mv _ _ _ _ _ _ V a1 (λb p z=>b1 b z (by have:=H.rz.1;have:=H.ke.size;have p':w.heap.size<=b:=p;omega) (by have:=H.xz;have p':w.heap.size<=b:=p;omega)) λb p _=>jo H.ke.size p,V⟩
def cA.lost{R}{R'}{mm}{g:α->M γ}{f:Fl}(H:cA N rb sb m s r w0 xb C (aN mm g) P k w)(h:ap R N rb sb m s (mm k) w e w')(hA:fin (ja s 0) (mm k)=.error f)(st:∀a,aR (ja s 0)<|g a:=by exact Zx):e=bQ f/\ap R' N rb sb m s r w0 (bQ f) w':=⟨(h.bad hA).1,ap.stop H.eq hA st<|H.ke.trans (h.bad hA).2⟩
def cA.call{R}{R'}{mm}{g:α->M γ}(H:cA N rb sb m s r w0 xb C (aN mm g) P k w)(hC:Cq f args w (ap R N rb sb m s (mm k) w))(ok:∀a k' v w',cA N rb sb m s r w0 xb C (g a) (λw'=>P w'/\R w' (λb=>w0.heap.size<=b) a v) k' w'->mm k=.ok (a,k')->R w' (λb=>w.heap.size<=b) a v->post (.returned v) w')(st:∀a,aR (ja s 0)<|g a:=by exact Zx)(bad:∀f' w',ap R' N rb sb m s r w0 (bQ f') w'->post (bQ f') w':=by exact λ_ _ h=>⟨rfl,h⟩)(mv:Mov R:=by first|exact λ_ _ _ _ _ _ h _ _ _=>h|exact λ_ _ _ _ _ _ h a b c=>h.move a b c):Cq f args w post:=
 hC.mono λe w' hp=>by
  cases hA:fin (ja s 0) (mm k)with
  |error f=>obtain⟨rfl,h⟩:=H.lost hp hA st;exact bad _ _ h
  |ok p=>obtain⟨v,rfl,H,V⟩:=H.aX (a:=p.1) hp hA mv;exact ok _ _ v w' H (q_ hA).1 V
def cA.take{R'}{g}(H:cA N rb sb m s r w0 xb C (aN (bt (ja s 0) c) g) P k w)(ok:∀w',cA N rb sb m s r w0 xb C (g ()) P (k+1) w'->post (.returned<|tkA<|tk (ja s 0) k) w')(hs:s.size<=1000:=by assumption)(hc:c.size<=5:=by decide)(st:∀a,aR (ja s 0)<|g a:=by exact Zx)(bad:∀f' w',ap R' N rb sb m s r w0 (bQ f') w'->post (bQ f') w':=by exact λ_ _ h=>⟨rfl,h⟩):Cq 97 #[rp rb,.string c] w post:=
 ap.go H.ke H.eq (ZU H.sx hs c hc) st bad λa k' v w' S K E q _ hb hR=>by
  cases hR
  cases bz _ _ _ _ q
  exact ok w'<|H.mv hb S E
def cA.Fc{R'}{g}(H:cA N rb sb m s r w0 xb C (aN qH g) P k w)(hi:a_ (tk (ja s 0) k) c=true)(ok:∀w',cA N rb sb m s r w0 xb C (g ()) P (k+1) w'->post (.returned<|.bool true) w')(hs:s.size<=1000:=by assumption)(hc:c.size<=5:=by decide)(st:∀a,aR (ja s 0)<|g a:=by exact Zx)(bad:∀f' w',ap R' N rb sb m s r w0 (bQ f') w'->post (bQ f') w':=by exact λ_ _ h=>⟨rfl,h⟩):Cq 104 #[rp rb,.string c] w post:=
 ap.go H.ke H.eq (ag0 H.sx hs c hc hi) st bad λa k' v w' S K E q _ hb hR=>by
  cases hR
  cases q
  exact ok w'<|H.mv hb S E
def cA.Fe(H:cA N rb sb m s r w0 xb C g P k w)(hi:a_ (tk (ja s 0) k) c=false)(ok:post (.returned<|.bool false) w)(hc:c.size<=5:=by decide):Cq 104 #[rp rb,.string c] w post:=
 (ag1 H.sx c hc hi).mono λ_ _⟨a,b⟩=>by subst a;subst b;exact ok
def cA.name{R'}{g}(H:cA N rb sb m s r w0 xb C (aN (di (ja s 0) 1) g) P k w)(ok:∀t w',cA N rb sb m s r w0 xb C (g t) P (k+1) w'->Hid (BN t.text/\t.to=t.al+t.text.size)->post (.returned<|nmA t) w')(hs:s.size<=1000:=by assumption)(st:∀a,aR (ja s 0)<|g a:=by exact Zx)(bad:∀f' w',ap R' N rb sb m s r w0 (bQ f') w'->post (bQ f') w':=by exact λ_ _ h=>⟨rfl,h⟩):Cq 141 #[rp rb,.string EZ] w post:=
 ap.go H.ke H.eq (uP H.sx hs 1 EZ<|j7 ⟨rfl,rfl⟩) st bad λa k' v w' S K E q _ hb hR=>by
  have:=adr q H.sx.lt
  cases hR
  cases eH _ _ _ _ q
  exact ok a w' (H.mv hb S E) this
def cA.expr{R'}{g}(H:cA N rb sb m s r w0 xb C (aN (bR (ja s 0) n) g) P k w)(IH:eR s n)(ok:∀a k' t x w',cA N rb sb m s r w0 xb C (g a) (λw'=>P w'/\PE w' (λb=>w0.heap.size<=b) a (.iface t<|.agg x)) k' w'->k<k'->post (.returned<|.iface t<|.agg x) w')(hn:(ja s 0).length<=k+n:=by omega)(st:∀a,aR (ja s 0)<|g a:=by exact Zx)(bad:∀f' w',ap R' N rb sb m s r w0 (bQ f') w'->post (bQ f') w':=by exact λ_ _ h=>⟨rfl,h⟩):Cq 249 #[rp rb] w post:=
 H.call (IH _ _ _ _ _ _ H.sx hn) (λa k' v w' H q V=>by obtain⟨t,x,rfl⟩:=V.iface;exact ok a k' t x w' H<|jW n _ _ _ q) st bad
def cA.ur{R'}{g}(H:cA N rb sb m s r w0 xb C (aN (dY (ja s 0) n) g) P k w)(IH:BO s n)(ok:∀a k' t x w',cA N rb sb m s r w0 xb C (g a) (λw'=>P w'/\PP w' (λb=>w0.heap.size<=b) a (.iface t<|.agg x)) k' w'->k<=k'->post (.returned<|.iface t<|.agg x) w')(hn:(ja s 0).length<=k+n:=by omega)(st:∀a,aR (ja s 0)<|g a:=by exact Zx)(bad:∀f' w',ap R' N rb sb m s r w0 (bQ f') w'->post (bQ f') w':=by exact λ_ _ h=>⟨rfl,h⟩):Cq 253 #[rp rb] w post:=
 H.call (IH _ _ _ _ _ _ H.sx hn) (λa k' v w' H q V=>by obtain⟨t,x,rfl⟩:=V.iface;exact ok a k' t x w' H<|oT n _ _ _ q) st bad
def cA.since{i}(H:cA N rb sb m s r w0 xb C g P k w)(ok:∀w',cA N rb sb m s r w0 xb C g P k w'->post (.returned<|.agg #[Iv i,.int .i64 ((aE (ja s 0) k:Nat):Int)]) w'):Cq 105 #[rp rb,Iv i] w post:=
 (adm H.sx i).mono λ_ _⟨a,b⟩=>by subst a;exact ok _<|H.af b
def cA.done{R}{a}{v}(H:cA N rb sb m s r w0 xb C g P k w)(h:P w->R w (λb=>w0.heap.size<=b) a v)(he:g k=.ok (a,k):=by rfl):ap R N rb sb m s r w0 (.returned v) w:=
 ap.done (H.eq.trans he) H.ke H.sx (h H.p)
end
section
variable {m:MV}
def Rh{p:Prop}(h:p:=by
 intro b k4 t4 x4 w4 H l4;go_wp2_with fail;refine H.take ?_;intro w5 H;go_wp2_with fail;refine H.since ?_;intro w6 H
 go_wp2
 go_ret
 exact H.done λ⟨⟨_,A⟩,B⟩=>.pr _ _ _ _ _ _ _ _ _ A B):p:=h
def Ri{p:Prop}(h:p:=by
 refine(H.re<|N9 aK hc).Fc hc ?_;intro w2 H;go_wp2_with fail;refine H.since ?_;intro w3 H
 go_wp2
 go_ret
 exact H.done λ_=>.unit _ _ _ _ _):p:=h
def Rj{p:Prop}(h:p:=by
 refine H.Fe hm ?_;go_wp2_with fail;refine(H.re<|wG hm λh=>ae).take ?_;intro w5 H
 go_wp2
 go_ret
 exact H.done λ⟨_,A⟩=>A):p:=h
def Am(hs:s.size<=1000)(IH:BO s n)(h:SX w N rb sb m s k)(hn:(ja s 0).length<=k+1+n)(ho:a_ (tk (ja s 0) k) m5=true):
 Cq 199 #[rp rb] w (ap PP N rb sb m s (aI (ja s 0) (dY (ja s 0) n) (mQ<|ja s 0) 2 k) w):=by
 have V0:=g_;have Z':=kB;refine cA.Al h (uR ho) λH=>?_;go_enter func199,ntmps199;go_wp2_with fail;refine H.take ?_;intro w1 H;go_wp2_with fail
 cases hc:a_ (tk (ja s 0)<|k+1) lz
 .refine H.Fe hc ?_;go_wp2_with fail;refine(H.re<|Ak hc).ur IH ?_;intro a k2 t2 x2 w2 H l2;go_wp2_with fail
  cases hm:a_ (tk (ja s 0) k2) mR
  .exact Rj
  .refine(H.re<|oS hm).Fc hm ?_;intro w3 H;go_wp2_with fail;refine H.ur IH ?_;exact Rh
 .exact Ri
end
abbrev EQ(α:Type):=World->(Nat->Prop)->α->(Nat->Value)->Prop
def gw{α:Type}(Q:EQ α):=∀(w w':World)(P P':Nat->Prop)(a:α)(c:Nat->Value),Q w P a c->w.heap.size<=w'.heap.size->(∀b,P b->b<w.heap.size->w'.heap[b]? =w.heap[b]?)->(∀b,P b->b<w.heap.size->P' b)->Q w' P' a c
def gR(cs:Nat->Nat->Value)(sz:Nat):Nat->List Value
 |0=>[]|n+1=>gR cs sz n++(qk sz).map (cs n)
def uS cs sz n:(gR cs sz n).length=n*sz:=by
 induction n with
 |zero=>simp[gR]|succ n ih=>simp only[gR,tQ,ih,List.length_map,List.length_range,jt]
def aaa cs sz:∀n i j,i<n->j<sz->(gR cs sz n)[i*sz+j]? =some (cs i j):=by
 intro n
 induction n with
 |zero=>intro i j h;omega|succ n ih=>
  intro i j hi hj;simp only[gR];by_cases h:i<n
  .have:i*sz+j<n*sz:=by
    have:(i+1)*sz<=n*sz:=ju _ h;rw[jt]at this;omega
   rw[List.getElem?_append_left (by rw[uS];exact this)];exact ih i j h hj
  .have e:i=n:=ae;subst e;rw[List.getElem?_append_right (by rw[uS];omega),uS];rw[show i*sz+j-i*sz=j by omega];simp[hj]
def wH{cs ds:Nat->Nat->Value}{sz:Nat}:∀n,(∀i,i<n->cs i=ds i)->gR cs sz n=gR ds sz n
 |0,_=>rfl|n+1,h=>by simp only[gR];rw[wH n<|λi hi=>h i ae,h n ae]
def dw{α:Type}(Q:EQ α)et sz w base va vc(L:List α):=
 ∃cs:Nat->Nat->Value,w.ownsRow base et sz (.slice va L.length vc) L.length (gR cs sz L.length)/\∀i(h:i<L.length),Q w (λb=>base<=b/\b<w.heap.size/\(j6 va L.length vc).ownBlock≠some b) L[i]<|cs i
def RowV{α:Type}(Q:EQ α)sz w P L(v:Value):=
 ∃(va:Option Addr)(vc:Nat)(cs:Nat->Nat->Value),v=.slice va L.length vc/\(L=[]\/∃g,va=some ⟨g,0,none⟩/\P g/\g<w.heap.size/\∀i,i<L.length->∀j,j<sz->w.cell? ⟨g,i*sz+j,none⟩=some (cs i j))/\∀i(h:i<L.length),Q w P L[i]<|cs i
section
variable {Q:EQ α} {sz:Nat} {L:List α}
def dw.nil(Q:EQ α)et sz w base:dw Q et sz w base none 0 []:=⟨λ_ _=>.nilIface,World.ownsRow_nil _ _ _ _,λi h=>absurd h ag⟩
def dw.v(hQ:gw Q)(h:dw Q et sz w base va vc L):RowV Q sz w (λb=>base<=b) L (.slice va L.length vc):=by
 obtain⟨cs,ho,hr⟩:=h;refine⟨va,vc,cs,rfl,?_,λi hi=>hQ _ _ _ _ _ _ (hr i hi) (br _) (λ_ _ _=>rfl) λb p _=>p.1⟩;obtain⟨h1,h2⟩:=ho;obtain⟨_,hz⟩|⟨q,cap,lO,hv,hg,hh,_,_,_,ht⟩:=h2
 .grind
 .injection hv with e1 e2 e3;subst e1;refine j8 ⟨q,rfl,hg,(Array.getElem?_eq_some_iff.1 hh).1,λi hi j hj=>?_⟩;have bq:i*sz+j<L.length*sz:=by
   have:(i+1)*sz<=L.length*sz:=ju _ hi;rw[jt]at this;omega
  rw[<-aaa cs sz L.length i j hi hj,<-ht];simp only[World.cell?,hh];rw[List.getElem?_take_of_lt bq];simp
def dw.lq(hQ:gw Q)(h:dw Q et sz w base va vc L)(hs:w.heap.size<=w'.heap.size)(hb:∀b,base<=b->b<w.heap.size->w'.heap[b]? =w.heap[b]?):dw Q et sz w' base va vc L:=by
 obtain⟨cs,ho,hr⟩:=h;refine⟨cs,?_,λi hi=>hQ _ _ _ _ _ _ (hr i hi) hs (λb p z=>hb b p.1 z) λb p _=>⟨p.1,ae,p.2.2⟩⟩;obtain⟨h1,h2⟩:=ho;refine⟨h1,?_⟩;obtain h2|⟨q,cap,lO,hv,hg,hh,r⟩:=h2
 .exact j7 h2
 .refine j8 ⟨q,cap,lO,hv,hg,?_,r⟩;rw[hb q hg (Array.getElem?_eq_some_iff.1 hh).1,hh]
def dw.block(h:dw Q et sz w base va vc L):∀b,(j6 va L.length vc).ownBlock=some b->base<=b/\b<w.heap.size:=by
 obtain⟨cs,ho,_⟩:=h;exact fD ho
def dw.one{q}{a}{c:Nat->Value}(hQ:gw Q)(hq:Q w (λb=>lo<=b) a c)(qQ:base<=lo)(hb:lo<=w.heap.size)(hs:0<sz)C(hC:C=((qk sz).map c).toArray)(hqq:q=w.heap.size):dw Q et sz (w.alloc<|.cells C et) base (some ⟨q,0,none⟩) 1 [a]:=by
 subst hqq hC;refine⟨λ_=>c,⟨by simp[gR],j8 ⟨w.heap.size,1,_,rfl,ae,(MapKept.heap_alloc w _).1,ag,Wu,ag,by simp[gR];exact List.take_of_length_le ag⟩⟩,λi hi=>?_⟩;have:i=0:=qBl;subst this;refine hQ _ _ _ _ _ _ hq ag (λb _ z=>Below.heap_alloc _ _ _ z) λb p z=>⟨jo qQ p,bB,?_⟩;simp[Value.ownBlock];omega
def dw.push{w1}{q3 c3}{a}{c:Nat->Value}(hQ:gw Q){cs}(hP:∀i(h:i<L.length),Q w1 (λb=>base<=b/\b<w1.heap.size/\(j6 va L.length vc).ownBlock≠some b) L[i]<|cs i)(hq:Q w1 (λb=>lo<=b) a c)(p9:base<=lo)(hold:∀b,(j6 va L.length vc).ownBlock=some b->b<lo)(hW:Bq w1 W)(h3:w3.ownsRow base et sz (.slice (some ⟨q3,0,none⟩) (L.length+1) c3) (L.length+1) (gR cs sz L.length++(qk sz).map c))(hg:W.grownBy w3 (j6 va L.length vc).ownBlock)(UM:(j6 (some ⟨q3,0,none⟩) (L.length+1) c3).ownBlock=(j6 va L.length vc).ownBlock\/(j6 (some ⟨q3,0,none⟩) (L.length+1) c3).ownBlock=some W.heap.size):
 dw Q et sz w3 base (some ⟨q3,0,none⟩) c3 (L++[a]):=by
 have hlen:(L++[a]).length=L.length+1:=ag;have dU:=hg.size;have Wr:∀b,b<w1.heap.size->(Lv va L.length vc).ownBlock≠some b->w3.heap[b]? =w1.heap[b]? :=λb hb hn=>(hg.block b (jm hb hW.size)<|λe=>hn e.symm).trans<|hW.block b hb;have BG:∀b,b<w1.heap.size->(Lv va L.length vc).ownBlock≠some b->(Lv (some ⟨q3,0,none⟩) (L.length+1) c3).ownBlock≠some b:=λb hb hn e=>by
  obtain g|g:=UM
  .exact hn (g▸e)
  .have q:=e.symm.trans g;simp at q;have:=hW.size;omega
 have hws:=hW.size;have Mb:∀i,i<L.length->(λi=>if i=L.length then c else cs i) i=cs i:=λi hi=>if_neg ae;refine⟨λi=>if i=L.length then c else cs i,?_,λi hi=>?_⟩
 .rw[hlen];show w3.ownsRow base et sz _ _<|gR _ sz L.length++(qk sz).map (if L.length=L.length then c else cs L.length);rw[if_pos rfl,wH (ds:=cs) L.length Mb];exact h3
 .rw[hlen];by_cases bq:i<L.length
  .rw[List.getElem_append_left bq];show Q w3 _ L[i]<|if i=L.length then c else cs i;rw[if_neg ae];exact hQ _ _ _ _ _ _ (hP i bq) ae (λb p z=>Wr b p.2.1 p.2.2) λb p z=>⟨p.1,ae,BG b p.2.1 p.2.2⟩
  .have Bo:i=L.length:=Gd;subst Bo;have e1:(L++[a])[L.length]'hi=a:=ag;rw[e1];show Q w3 _ a<|if L.length=L.length then c else cs L.length;rw[if_pos rfl];have cO:∀b,lo<=b->(Lv va L.length vc).ownBlock≠some b:=λb h1 e=>by have:=hold b e;omega
   exact hQ _ _ _ _ _ _ hq ae (λb p z=>Wr b z<|cO b p) λb p z=>⟨jo p9 p,ae,BG b z<|cO b p⟩
end
def Q1(R:World->(Nat->Prop)->Nd->Value->Prop):EQ Nd:=λw P a c=>R w P a<|c 0
def aab:gw (Q1 PT):=λ_ _ _ _ _ _ h h1 h2 h3=>PT.move h h1 h2 h3
section
variable {row:Option Nat} {m:MV}
def SX.grown(hg:W.grownBy w3 row)(h:SX W N rb sb m s k)(hr:∀j,row=some j->N<=j):SX w3 N rb sb m s k:=
 h.move hg.size λb hb=>hg.block b (jm hb h.ev.hN) λe=>by have:=hr b e.symm;omega
def eh{b}{mt ft}(h:MS j5 W b L)(hm:Tryz.prog.underlying mt=some (.map 227 ft))(hz:(zeroValue ft).run jv W=.ok .nilFunc W)x:
 (Instr.lookup mt (Mv b) (.string x) true).run jv W=.ok (kY (aX x L) .nilFunc) W:=by
 have:=h.look (KL.str jz) hm hz x trivial (λ_ _=>trivial) true;rw[this]
 cases aX x L<;>rfl
theorem Ff{x:BA}:∀{L:List (BA×Value)},(∀p∈L,p.1≠x)->aX x L=none
 |[],_=>rfl|p::l,h=>by
  rw[aX];rw[if_neg<|h p<|List.mem_cons_self ..];exact Ff λq hq=>h q<|List.mem_cons_of_mem _ hq
end
def tj(ho:gy t)(hs:sort=2\/sort=3)(hb:aF t sort=true):t.kind=1\/t.kind=2\/t.kind=4\/a_ t gp=true\/a_ t dE=true\/(sort=2/\a_ t zK=true)\/a_ t m5=true:=by
 by_cases h0:a_ t m5=true
 .simp[h0]
 have h0':a_ t qB=false:=by simpa using h0
 rw[aF]at hb;rw[h0']at hb;rw[bu]at hb;by_cases h1:t.kind=1
 .exact j7 h1
 by_cases h2:t.kind=2
 .omega
 by_cases h4:t.kind=4
 .omega
 by_cases h5:a_ t gp=true
 .simp[h5]
 by_cases h6:a_ t dE=true
 .simp[h6]
 by_cases h7:a_ t zK=true
 .obtain rfl|rfl:=hs
  .simp[h7]
  .grind
 .exfalso;obtain rfl|rfl:=hs
  .grind
  .grind
def wI(hs:sort=2\/sort=3)(hb:aF t sort=false):t.kind≠1/\t.kind≠2/\t.kind≠4/\a_ t gp=false/\a_ t dE=false/\(sort=2->a_ t zK=false)/\a_ t m5=false:=by
 rw[aF]at hb;rw[Bool.or_eq_false_iff]at hb;obtain⟨h0,hb⟩:=hb;have key:∀c,c=1\/c=2\/c=3\/c=4->bu t≠c:=yG;refine⟨λe=>key 1 ag (by rw[bu];simp[e]),λe=>key 2 ag (by rw[bu];simp[e]),λe=>key 3 ag (by rw[bu];simp[e]),?_,?_,?_,h0⟩
 .cases h:a_ t gp with
  |false=>rfl|true=>exact absurd (E_<|j7 h)<|key 4 ag
 .cases h:a_ t dE with
  |false=>rfl|true=>exact absurd (E_<|j8 h)<|key 4 ag
 .rintro rfl
  cases h:a_ t zK with
  |false=>rfl|true=>
   have h5:=ot h;have:bu t=15:=by
    rw[bu];rw[if_neg ae,if_neg ae,if_neg ae,if_neg ae,if_neg (by rw[ID,CC];rw[Qg]at h;simp at h;simp[h.2]),if_pos h]
   rw[this]at hb;simp at hb
def ck{p}(hb:aF (tk T k) sort=true)(ho:a_ (tk T k) m5=false):aI T p q sort k=.ok (bS<|tk T k,k+1):=by
 have ho':=ho;rw[aI];rw[if_pos hb,if_neg<|by simp[ho']]
theorem ae9{a b:BA}(h:a.toList=b.toList):a=b:=by
 rw[j9,j9]at h;exact ByteArray.ext<|Array.ext' h
def gi(h:a_ t c=true):aq t=c:=by
 rw[pN<|ot h];rw[a_]at h;simp only[qf,beq_iff_eq]at h;exact ae9 h.2
def ru(h5:t.kind=5)(h:a_ t c=false):c≠t.text:=λe=>by
 subst e;rw[a_]at h;simp[h5]at h
def pP(h:t.kind≠5)c:a_ t c=false:=by rw[a_];simp[h]
def tn{d}(h:a_ t c=true)(hn:c.toList≠d.toList):a_ t d=false:=by
 rw[a_]at h⊢;simp only[qf,beq_iff_eq]at h;simp[h.1,h.2,hn]
section
variable {m:MV}
def UN(hs:s.size<=1000)(IH:BO s n)(h:SX w N rb sb m s k)(hn:(ja s 0).length<=k+1+n)(hb:aF (tk (ja s 0) k) 2=true){x}(hx:Bx w x #[rp rb]):
 (∃f,aX (aq<|tk (ja s 0) k) (ri rb x)=some (oI f rb)/\(∀args w,(callFunc f args).run jv w=.ok (.enter f args) w)/\∀W,Bq w W->Cq f #[rp rb] W (ap PP N rb sb m s (aI (ja s 0) (dY (ja s 0) n) (mQ<|ja s 0) 2 k) W))\/
 (∃f,aX (aq<|tk (ja s 0) k) (ri rb x)=some (mF f x)/\(∀args w,(callFunc f args).run jv w=.ok (.enter f args) w)/\∀W,Bq w W->Cq f #[Pv x] W (ap PP N rb sb m s (aI (ja s 0) (dY (ja s 0) n) (mQ<|ja s 0) 2 k) W)):=by
 have ho:=eu s k h.lt;obtain hk|hk|hk|hk|hk|⟨h9,hk⟩|hk:=tj ho aK hb
 .refine j8 ⟨194,by rw[iX hk];rfl,λ_ _=>qkr,?_⟩;rw[ck hb<|pP ae _];exact λW hW=>(Z9 (h.af hW) hs hk x<|hx.below hW).2
 .refine j7 ⟨195,by rw[ie hk];rfl,λ_ _=>qkr,?_⟩;rw[ck hb<|pP ae _];exact λW hW=>(ae8 (h.af hW) hs hk).2
 .refine j8 ⟨196,by rw[iY hk];rfl,λ_ _=>qkr,?_⟩;rw[ck hb<|pP ae _];exact λW hW=>(Z_ (h.af hW) hs hk x<|hx.below hW).2
 .refine j8 ⟨197,qBk,λ_ _=>qkr,?_⟩;rw[ck hb<|tn hk qAp];exact λW hW=>(ye (h.af hW) hs (j7 hk) x<|hx.below hW).2.2.1
 .refine j8 ⟨198,qBk,λ_ _=>qkr,?_⟩;rw[ck hb<|tn hk qAp];exact λW hW=>(ye (h.af hW) hs (j8 hk) x<|hx.below hW).2.2.2
 .refine j7 ⟨193,qBk,λ_ _=>qkr,?_⟩;rw[ck hb<|tn hk qAp];exact λW hW=>NY (h.af hW) hs hk
 .refine j7 ⟨199,qBk,λ_ _=>qkr,λW hW=>Am hs IH (h.af hW) hn hk⟩
def aac(h:SX w N rb sb m s k)(hb:aF (tk (ja s 0) k) 2=false)x:aX (aq<|tk (ja s 0) k) (ri rb x)=none:=by
 have ho:=eu s k h.lt;have⟨n1,n2,n4,nt,nf,na,no⟩:=wI aK hb;obtain h'|h'|h'|h'|h'|h'|h':=ho.kd
 .exact absurd h' n1
 .exact absurd h' n2
 .rw[ig h'];rfl
 .exact absurd h' n4
 .rw[pN h'];have hz:=ho.s5 h';have rK:∀c:BA,5<c.size->c≠(tk (ja s 0) k).text:=λc hc e=>by rw[e]at hc;omega
  refine Ff λp hp=>?_;simp only[ri,qm,ql,or_false]at hp;obtain rfl|rfl|rfl|rfl|rfl|rfl|rfl:=hp
  .exact ru h' (na rfl)
  .exact rK EZ aK
  .exact rK JD aK
  .exact rK NS aK
  .exact ru h' nt
  .exact ru h' nf
  .exact ru h' no
 .exact absurd h' h.ok
 .rw[iZ h'];rfl
def ads w:(zeroValue 360).run jv w=.ok .nilFunc w:=qkr
end
theorem RowV.move{Q}{sz}{P'}{L:List α}{v:Value}(h:RowV Q sz w P L v)(hQ:gw Q)(hs:w.heap.size<=w'.heap.size)(hb:∀b,P b->b<w.heap.size->w'.heap[b]? =w.heap[b]?)(hq:∀b,P b->b<w.heap.size->P' b):RowV Q sz w' P' L v:=by
 obtain⟨va,vc,cs,hv,aM,hr⟩:=h;refine⟨va,vc,cs,hv,?_,λi hi=>hQ _ _ _ _ _ _ (hr i hi) hs hb hq⟩;obtain h0|⟨g,h1,h2,h3,h4⟩:=aM
 .exact j7 h0
 .refine j8 ⟨g,h1,hq g h2 h3,jm h3 hs,λi hi j hj=>?_⟩;rw[qg (a:=⟨g,i*sz+j,none⟩) (w:=w)<|hb g h2 h3];exact h4 i hi j hj
section
variable {Q:EQ α} {sz:Nat} {m:MV} {r:Except Fl (γ×Nat)} {P:World->Prop} {g:M γ} {L:List α}
def Ey(I:List α->Prop)Q et sz N rb sb m s k w r(g:Nat->List α->Nat->M γ)gk(v:Value)wr:=
 ∃(kr:Nat)(L:List α)(f:Nat)(va:Option Addr)(vc tz:Nat),v=.slice va L.length vc/\I L/\cA N rb sb m s r w rb #[] (g f L tz) (λw'=>dw Q et sz w' w.heap.size va vc L) kr wr/\Hid (gk=(ja s 0).length-kr)/\k<=kr/\L.length<=kr/\(ja s 0).length<=kr+f
def cA.row(H:cA N rb sb m s r w0 xb C g P k w)(hQ:gw Q)(R:dw Q et sz w base va vc L)(hb:w0.heap.size<=base/\(xb=rb\/xb<base)):cA N rb sb m s r w0 xb C g (λw'=>dw Q et sz w' base va vc L) k w:=
 (H.add λw' a b=>R.lq hQ a λc c1 c2=>b c c2 (by have:=H.rz;omega) (by have:=H.rz;omega)).imp λ_ h=>h.2
def cA.append{ops}{rest}{o}{ac}{K}{sO xO}{t bytes}{z}{D}{c}{a}{wr:World}(H:cA N rb sb m s r w0 xb C g P k w)(hT:(ja s 0).length<=1001)(hQ:gw Q)(inf:(Tryz.prog.info? et).map (λi=>(i.zero,i.size,i.bytes))=some (some z,sz,bytes))(ut:Tryz.prog.underlying t=some (.slice et))(R:dw Q et sz w base va vc L)(hr:base<=wr.heap.size)(hb:∀b,(j6 va L.length vc).ownBlock=some b->b<wr.heap.size)(V:Q w (λb=>wr.heap.size<=b) a c)(hl:L.length<k)(h:∀q c' w3,cA N rb sb m s r w0 xb C g (λw'=>dw Q et sz w' base (some ⟨q,0,none⟩) c'<|L++[a]) k w3->wpList jv ops K rest (ac.put o.dst<|.slice (some ⟨q,0,none⟩) (L++[a]).length c') w3)(he:w0.heap.size<=base/\(xb=rb\/xb<base)/\base<=w.heap.size:=by exact⟨br _,.inl rfl,H.ke.size⟩)(hD:D=(qk sz).map c:=by rfl)(h1:∀u∈D,u.oneCell'=true:=by intro u hu;simp at hu;obtain rfl|rfl|rfl|rfl|rfl|rfl:=hu<;>rfl)(hz:z.cells.size=sz/\0<sz/\bytes<=1000:=by decide)(hgd:o.guard=none:=by rfl)(ho:o.op=.call {callee:=.builtin .append,args:=#[sO,xO],argTypes:=#[t,t]}:=by rfl)(hs:ac.eval sO=.slice va L.length vc:=by rfl)(hx:ac.eval xO=.slice (some ⟨w.heap.size,0,none⟩) 1 1:=by rfl):
 wpList jv ops K (o::rest) ac (w.alloc<|.cells D.toArray et):=by
 have⟨i0,vC,nJ,lG,jB⟩:=info_parts inf;obtain⟨cs,HO,HP⟩:=R;have kl:=H.sx.lt;have hbw:Bq w (w.alloc<|Cv D.toArray et):=bw _;have JW:=fD HO;refine wpList_append_own_at _ hgd sO xO t ho base et i0 _ sz bytes ut vC nJ lG jB hz.1 hz.2.1 (Lv va L.length vc) L.length _ hs (jC HO hbw) ⟨w.heap.size,0,none⟩ 1 1 D hx (by rw[hD];simp) (nX _ _ _ _ ag) h1 Wu (jo (Nat.mul_le_mul_left _ hz.2.2) ae) bB ?_;intro v3 w3 O3 g3 n3 l3;obtain⟨q,c',rfl⟩:=sD O3 ae;have e:(L++[a]).length=L.length+1:=ag;have B:=H.af hbw;have rz:=H.rz;have G:cA N rb sb m s r w0 xb C g (λ_=>True) k w3:=⟨SX.grown g3 B.sx λj e=>by have:=JW j e;omega,Ke.grown g3 B.ke λj e=>by have:=JW j e;omega,H.eq,λ_ _ _=>trivial,H.rz,jm B.xz g3.size,B.bx.imp id λ⟨b1,b2,b3⟩=>⟨b1,b2,b3.grown g3 λj e=>by have:=JW j e;omega⟩⟩;have:=h q c' w3<|G.row hQ (dw.push (w1:=w) (lo:=wr.heap.size) (c:=c) hQ HP V hr hb hbw (hD▸O3) g3 l3) ⟨he.1,he.2.1⟩;rw[e]at this;exact this
end
def adt:(Tryz.prog.info? 255).map (λi=>(i.zero,i.size,i.bytes))=some (some .nilIface,1,16):=qkr
def UO:Tryz.prog.underlying 305=some (.slice 255):=qkr
def Ju:(Tryz.prog.info? 92).map (λi=>(i.zero,i.size,i.bytes))=some (some .nilIface,1,16):=qkr
def Ac:Tryz.prog.underlying 164=some (.slice 92):=qkr
def tq w:(zeroValue 355).run jv w=.ok .nilFunc w:=qkr
def JX{x:Nd}(h:aF (tk T k) sort=false):dA T sm sort f x k=.ok (x,k):=by
 cases f with
 |zero=>rfl|succ f=>unfold dA;rw[h];rfl
def UP{x:Nd}(h:aF (tk T k) sort=true):dA T sm sort (f+1) x k=aN sm (λy k'=>dA T sm sort f (x.add y<|aE T k') k') k:=by
 show(if aF (tk T k) sort=true then _ else _)=_;rw[if_pos h]
def ry{T:List jc}{sm:M Nd}{sort c:Nat}{nm:BA}{n fr at_:Nat}:∀f L k a k2,dA T sm sort f (.mk c nm n L fr (aE T k) at_) k=.ok (a,k2)->∃L',a=.mk c nm n L' fr (aE T k2) at_
 |0,L,k,a,k2,h=>by cases h;exact⟨L,rfl⟩|f+1,L,k,a,k2,h=>by
  unfold dA at h;split at h
  .have⟨y,k1,_,h2⟩:=aw h;exact ry f (L++[y]) k1 a k2 h2
  .cases h;exact⟨L,rfl⟩
def Fg(f:M α)k:f k=aN f (λa k=>.ok (a,k)) k:=by rw[aN];cases f k<;>rfl
def adu R nm w P(a:Nd)v:=∃L fr tz at_,a=.mk 2 nm 0 L fr tz at_/\RowV (Q1 R) 1 w P L v
def Tab N rb sb m s R(sm:M Nd)sort b w k:=∃L,MS j5 w b L/\
 (aF (tk (ja s 0) k) sort=true/\((∃F,aX (aq<|tk (ja s 0) k) L=some (oI F rb)/\(∀args w,(callFunc F args).run jv w=.ok (.enter F args) w)/\∀W,Bq w W->Cq F #[rp rb] W (ap R N rb sb m s (sm k) W))\/
  (∃F x,aX (aq<|tk (ja s 0) k) L=some (mF F x)/\(∀args w,(callFunc F args).run jv w=.ok (.enter F args) w)/\∀W,Bq w W->Cq F #[Pv x] W (ap R N rb sb m s (sm k) W)))\/
  aF (tk (ja s 0) k) sort=false/\aX (aq<|tk (ja s 0) k) L=none)
section
variable {m:MV} {b:Nat} {p:M Nd}
def JY(hF:mt=235\/mt=234\/mt=233)(hM:MS j5 w b L)x:(Instr.lookup mt (Mv b) (.string x) true).run jv w=.ok (kY (aX x L) .nilFunc) w:=by
 obtain rfl|rfl|rfl:=hF
 .exact eh hM Tryz.underlying235 (agZ w) x
 .exact eh hM j3 (ads w) x
 .exact eh hM jy (tq w) x
def Fh{p:Prop}(h:p:=by
 obtain⟨rfl,Ym⟩:=hp.bad hA
 exact⟨rfl,hp⟩):p:=h
def ae_{FO}(hF:FO=140/\mt=235\/FO=276/\mt=234\/FO=256/\mt=233)(hI:∀{w P a v},R w P a v->∃t x,v=.iface t (.agg x))(h:SX w N rb sb m s k)(Y:Tab N rb sb m s R (aI (ja s 0) p q sort) sort b w k):
 Cq FO #[rp rb,Mv b] w (ap R N rb sb m s (aI (ja s 0) p q sort k) w):=by
 obtain⟨L,hM,Y⟩:=Y;have hl:=JY (mt:=mt) (by obtain h|h|h:=hF<;>simp[h.2]) hM (aq<|tk (ja s 0) k);have⟨c,f,z⟩:=h.bx;obtain⟨hb,⟨F,hg,Zh,HC⟩|⟨F,x,hg,Zh,HC⟩⟩|⟨hb,hg⟩:=Y;all_goals simp only[hg,kY]at hl
 all_goals clear hg hM
 all_goals obtain⟨rfl,rfl⟩|⟨rfl,rfl⟩|⟨rfl,rfl⟩:=hF
 all_goals(
  first
  |go_enter func140,ntmps140
  |go_enter func276,ntmps276
  |go_enter func256,ntmps256
  first
  |(go_wp2_with(go_at_call 135;refine(wj h.rd).mono ?_;rintro e w1⟨rfl,Ym⟩)
    refine⟨rfl,qe Ym,?_⟩;rw[show aI (ja s 0) p q sort k=.error (dc<|tk (ja s 0) k) by rw[aI];rw[hb];rfl,dc,if_neg h.ok]
    rfl)
  |(go_wp2_with fail
    refine(HC _<|qh _ _).mono ?_;intro e w1 hp
    cases hA:fin (ja s 0) (aI (ja s 0) p q sort k)with
    |error f'=>
     exact Fh
    |ok r=>
    obtain⟨a,k2⟩:=r;obtain⟨v,rfl,_,_,hR⟩:=hp.ok hA;obtain⟨tv,xv,rfl⟩:=hI hR
    go_wp2
    go_ret
    exact hp))
def aad{FM et}(hT:(ja s 0).length<=1001)(hF:FM=142/\mt=235/\et=92\/FM=277/\mt=234/\et=255)(hI:∀{w P a v},R w P a v->∃t x,v=.iface t (.agg x))(mv:Mov R)(lts:mH sm)(D:∀w k',SX w N rb sb m s k'->k<=k'->Tab N rb sb m s R sm sort b w k')(h:SX w N rb sb m s k)nm(fr tz at_:Nat):
 Cq FM #[rp rb,Mv b] w (ap (adu R nm) N rb sb m s (dA (ja s 0) sm sort (ja s 0).length (.mk 2 nm 0 [] fr tz at_) k) w):=by
 have mvs:gw (Q1 R):=λ_ _ _ _ _ _ h a b c=>mv _ _ _ _ _ _ h a b c;obtain⟨r,hr⟩:∃r,r=dA (ja s 0) sm sort (ja s 0).length (.mk 2 nm 0 [] fr tz at_) k:=⟨_,rfl⟩;rw[<-hr];have H:=cA.at h hr
 replace D:=ai D
 have tl:=ai (λ(w:World)(L:List (BA×Value))(h:MS Sv w b L)=>JY (mt:=mt) (by obtain h|h:=hF<;>simp[h.2.1]) h);clear h hr;obtain⟨rfl,rfl,he⟩|⟨rfl,rfl,he⟩:=hF
 all_goals(
  replace he:=ai he
  first
  |go_enter func142,ntmps142
  |go_enter func277,ntmps277
  go_wp2
  go_loopg[5] ((ja s 0).length-k) (λgk v wr=>Ey (λ_=>True) (Q1 R) et 1 N rb sb m s k w r (λf L tz=>dA (ja s 0) sm sort f<|.mk 2 nm 0 L fr tz at_) gk v wr)
  case atStart=>exact⟨k,[],(ja s 0).length,none,0,tz,rfl,trivial,H.row mvs (dw.nil _ _ _ _ _) ⟨br _,.inl rfl⟩,ai rfl,br _,ag,ae⟩
  case round=>
   clear H;obtain rfl:=uh he;obtain⟨kr,L,f,va,vc,to',rfl,-,H,cR,hle,hLl,hfu⟩:=hrel;have⟨X,hM,Y⟩:=uh D _ _ H.sx hle;have hl:=uh tl _ _ hM<|aq<|tk (ja s 0) kr;have Ze:=H.sx.lt;have zw:=H.ke.size;have Zf:=H.p.block;have⟨c,ff,z⟩:=H.sx.bx;obtain⟨hb,Y⟩|⟨hb,hg⟩:=Y
   .obtain⟨f,rfl⟩:∃f',f=f'+1:=⟨f-1,ae⟩;obtain⟨F,hg,Zh,HC⟩|⟨F,x,hg,Zh,HC⟩:=Y
    all_goals(
     simp only[hg,kY]at hl;clear hg;go_wp2_with fail;refine(H.re<|UP hb).call (HC _<|qh _ _) ?_ (st:=λa q h=>i_ _ _ _ _ q h) (mv:=mv);intro a k2 v w1 H q V;obtain⟨tv,xv,rfl⟩:=hI V;have l2:=lts _ _ _ q;clear HC Zh c ff z hl hM q;go_wp2_with(at_builtin;go_must(refine H.append (D:=[Fv tv<|Av xv]) (z:=Zv) (bytes:=16) hT mvs (by first|exact Ju|exact adt) (by first|exact Ac|exact UO) H.p.1 zw (λb e=>(Zf b e).2) (c:=λ_=>Fv tv<|Av xv) V ae ?_;intro q3 c3 w3 H));go_roundg((ja s 0).length-k2)
     case measure=>rw[uh cR];omega
     case rel=>exact⟨k2,L++[a],f,_,c3,_,ag,trivial,H.re rfl,ai rfl,ae,bB,ae⟩)
   .simp only[hg,kY]at hl
    go_wp2
    go_ret
    exact H.done (λR=>⟨L,_,_,_,rfl,R.v mvs⟩)<|JX hb)
end
section
variable {m:MV} {b:Nat} {p:M Nd}
def JZ{nm}(mv:Mov R):Mov (adu R nm):=λ_ _ _ _ _ _⟨L,a,b,c,d,e⟩x y z=>⟨L,a,b,c,d,e.move (λ_ _ _ _ _ _ h a b c=>mv _ _ _ _ _ _ h a b c) x y z⟩
def adu.sl{nm}{v}(h:adu R nm w P a v):∃va L vc,v=.slice va L vc:=by obtain⟨_,_,_,_,_,_,_,_,rfl,-⟩:=h;exact⟨_,_,_,rfl⟩
def aae{FH tt}(hs:s.size<=1000)(hT:(ja s 0).length<=1001)(hF:FH=253/\tt=307/\m.d=Mv b\/FH=103/\tt=166/\b=sb)(hI:∀{w P a v},R w P a v->∃t x,v=.iface t (.agg x))(mv:Mov R)(lts:mH (aI (ja s 0) p q sort))(D:∀w k',SX w N rb sb m s k'->k<=k'->Tab N rb sb m s R (aI (ja s 0) p q sort) sort b w k')(h:SX w N rb sb m s k)(mk:∀{w P nm L v}{f t a y:Nat},nI nm->y=a+nm.size->RowV (Q1 R) 1 w P L v->R w P (.mk 2 nm 0 L f t a) (.iface tt<|.agg #[Nv f,Nv t,Nv a,Nv y,.string nm,v])):
 Cq FH #[rp rb] w (ap R N rb sb m s (gN (ja s 0) (aI (ja s 0) p q sort) sort k) w):=by
 have ho:=eu s k h.lt;have r_:=(oP s k h.lt).sp;have hku:=EY ho h.ok;rw[show JD.toList=[117,112,32,110,97,109,101]from toList_mk _]at hku;have⟨c,f,z⟩:=h.bx
 replace D:=ai D
 replace r_:=ai r_
 by_cases h2:(tk (ja s 0) k).kind=2
 .rw[h2]at hku;have⟨k1,e1,e2⟩:=Rc s k h.lt ae;have HE:gN (ja s 0) (aI (ja s 0) p q sort) sort k=aN (di (ja s 0) 2) (λ_=>dA (ja s 0) (aI (ja s 0) p q sort) sort (ja s 0).length<|.mk 2 (tk (ja s 0) k).text 0 [] (tk (ja s 0) k).al (aE (ja s 0)<|k+1) (tk (ja s 0) k).al) k:=by
   unfold gN;rw[if_pos<|by simp[h2]];unfold aN;rw[aaf sort k h2,s_ h2,e2];unfold bS bu eE;simp[h2]
  obtain⟨rfl,rfl,rI⟩|⟨rfl,rfl,rfl⟩:=hF
  all_goals(
   refine cA.Al h HE λH=>?_;clear HE e1 e2;first
   |go_enter func253,ntmps253
   |go_enter func103,ntmps103
   go_wp2_with fail;refine H.call (uP h hs 2 JD<|j8 ⟨rfl,rfl⟩) ?_ (st:=λ_=>i_ _ _ _ _);intro t k1 v w1 H q V
   cases V
   rw[s_ h2]at q
   cases q
   have H:=H.box (D:=#[Nv (tk (ja s 0) k).al,Nv (tk (ja s 0) k).to,Sv (tk (ja s 0) k).text]) (t:=133);clear c f z;have⟨c,f,z⟩:=H.sx.bx;go_wp2_with fail;clear c f z;refine(H.re<|Fg (dA (ja s 0) (aI (ja s 0) p q sort) sort (ja s 0).length<|.mk 2 (tk (ja s 0) k).text 0 [] (tk (ja s 0) k).al (aE (ja s 0)<|k+1) (tk (ja s 0) k).al)<|k+1).call (aad hT (by first|exact .inl ⟨rfl,rfl,rfl⟩|exact .inr ⟨rfl,rfl,rfl⟩) hI mv lts (λw k' S l=>uh D w k' S ae) H.sx _ _ _ _) ?_ (mv:=JZ mv);intro a k2 v w3 H q V;have⟨L',hL'⟩:=ry _ _ _ _ _ q;subst hL';obtain⟨va,L,vc,rfl⟩:=V.sl;clear V q;have⟨⟨_,c3,f3,z3⟩,_⟩:=H.p
   go_wp2
   go_region_with(go_at_call 105;refine H.drew.since ?_;intro w4 H;have⟨⟨_,c4,f4,z4⟩,_⟩:=H.p)
   all_goals(
    go_wp2
    go_ret;refine H.done ?_;rintro⟨_,L1,fr,tz,at_,e,V⟩;injection e with _ _ _ e3 e4 e5 e6;subst e3 e4 e5 e6
    exact mk (ho.v2 h2) r_ V))
 .rw[show((tk (ja s 0) k).kind==2)=false by simp[h2]]at hku;have HE:gN (ja s 0) (aI (ja s 0) p q sort) sort k=(aI (ja s 0) p q sort) k:=by unfold gN;rw[if_neg<|by simp[h2]]
  rw[HE];obtain⟨rfl,rfl,rI⟩|⟨rfl,rfl,rfl⟩:=hF
  all_goals(
   first
   |go_enter func253,ntmps253
   |go_enter func103,ntmps103
   go_wp2_with fail;refine(ae_ (by first|exact .inl ⟨rfl,rfl⟩|exact .inr<|.inl ⟨rfl,rfl⟩) hI h<|uh D _ _ h<|br _).mono ?_;intro e w1 hp
   cases hA:fin (ja s 0) ((aI (ja s 0) p q sort) k)with
   |error f'=>
    exact Fh
   |ok r=>
   obtain⟨a,k2⟩:=r;obtain⟨v,rfl,_,_,hR⟩:=hp.ok hA;obtain⟨tv,xv,rfl⟩:=hI hR
   go_wp2
   go_ret
   exact hp)
end
abbrev Df s n:=aI (ja s 0) (cP (ja s 0) n) (cP (ja s 0) n) 1
def RowV.pt{L}{v}{nm}{t a}(hu:nI nm)(hy:y=a+nm.size)(h:RowV (Q1 PT) 1 w P L v):PT w P (.mk 2 nm 0 L f t a) (.iface 166<|.agg #[Nv f,Nv t,Nv a,Nv y,.string nm,v]):=by
 obtain⟨va,vc,cs,rfl,aM,hr⟩:=h;exact .up nm 0 L f t a _ _ _ _ va vc (λi=>cs i 0) hu (aM.imp id λ⟨g,h1,h2,h3,h4⟩=>⟨g,h1,h2,h3,λi hi=>by simpa using h4 i hi 0 aK⟩) hr rfl (by rw[hy])
def aag s n:=∀(w:World)(N rb sb:Nat)(m:MV)(k:Nat),SX w N rb sb m s k->(ja s 0).length<=k+n->Cq 70 #[rp rb] w (ap PT N rb sb m s (cP (ja s 0) n k) w)
section
variable {m:MV}
def J6(hs:s.size<=1000)(IH:aag s n)(h:SX w N rb sb m s k)(hn:(ja s 0).length<=k+1+n)(ho:a_ (tk (ja s 0) k) m5=true):Cq 202 #[rp rb] w (ap PT N rb sb m s (Df s n k) w):=by
 have V0:=g_;have Z':=kB;refine cA.Al h (uR ho) λH=>?_;go_enter func202,ntmps202;go_wp2_with fail;refine H.take ?_;intro w1 H;go_wp2_with fail;refine(H.re (g':=aN (cP (Pu.bH s 0) n)<|jQ (Pu.bH s 0) (cP (Pu.bH s 0) n) (cP (Pu.bH s 0) n) 1 (tk (Pu.bH s 0) k).al) (by rw[gX];rw[if_neg ag])).call (IH _ _ _ _ _ _ H.sx ae) ?_;intro a k2 v w2 H q V;obtain⟨t2,x2,rfl⟩:=V.iface;have l2:=da (T:=(Pu.bH s 0)) n _ _ _ q;go_wp2_with fail
 cases hm:a_ (tk (ja s 0) k2) mR
 .exact Rj
 .refine(H.re<|oS hm).Fc hm ?_;intro w3 H;go_wp2_with fail;refine H.call (IH _ _ _ _ _ _ H.sx ae) ?_;intro b k4 v w4 H q V;obtain⟨t4,x4,rfl⟩:=V.iface;go_wp2_with fail;refine H.take ?_;intro w5 H;go_wp2_with fail;refine H.since ?_;intro w6 H
  go_wp2
  go_ret;exact H.done λ⟨⟨_,A⟩,B⟩=>.pr _ _ _ _ _ _ _ _ _ _ _ A B
def ajJ(hs:s.size<=1000)(IH:aag s n)(h:SX w N rb sb m s k)(hn:(ja s 0).length<=k+1+n):Tab N rb sb m s PT (Df s n) 1 sb w k:=by
 have ho:=eu s k h.lt;have ht:=qG s k h.lt;refine⟨smL rb,h.ev.sm,?_⟩
 cases hb:aF (tk (ja s 0) k) 1
 .exact .inr ⟨rfl,ZQ ho h.ok hb⟩
 .refine .inl ⟨rfl,.inl ⟨_,adl ho h.ok hb,ZP _,λW hW=>?_⟩⟩;have h:=h.af hW;rw[fid];by_cases h3:(tk (ja s 0) k).kind=3
  .rw[if_pos h3,show Df s n k=_ from wo (j7 h3)];refine(UH h.rd hs ht h3 ho).mono λe w' q=>q.x h ae ?_;rw[show bS (tk (ja s 0) k)=.mk 16 (tk (ja s 0) k).text 0 [] (tk (ja s 0) k).al (tk (ja s 0) k).to (tk (ja s 0) k).al by rw[bS,bu,eE];simp[h3]];exact .var _ _ _ _ _ _ _ (ho.v3 h3) rfl (by rw[ae6 s k h.lt])
  rw[if_neg h3];by_cases h2:(tk (ja s 0) k).kind=2
  .rw[if_pos h2,show Df s n k=_ from wo (j8 h2)];refine(NR h.rd hs ht h2).mono λe w' q=>q.x h ae ?_;rw[show bS (tk (ja s 0) k)=.mk 2 (tk (ja s 0) k).text 0 [] (tk (ja s 0) k).al (tk (ja s 0) k).to (tk (ja s 0) k).al by rw[bS,bu,eE];simp[h2]];exact .up _ _ [] _ _ _ _ _ _ _ none 0 (λ_=>Zv) (ho.v2 h2) (j7 rfl) (λi hi=>by simp at hi) rfl (by rw[ae6 s k h.lt])
  rw[if_neg h2];rw[uN ho]at hb;exact J6 hs IH h hn (by simpa[h2,h3]using hb)
def Ob(hs:s.size<=1000)(hT:(ja s 0).length<=1001)(IH:aag s n):aag s (n+1):=by
 intro w N rb sb m k h hn;have sl:mH (Df s n):=cz (da (T:=(Pu.bH s 0)) n) (da n) 1;refine cA.Al (mm:=gN (Pu.bH s 0) (Df s n) 1) (g:=lA (Pu.bH s 0) (cP (Pu.bH s 0) n) (tk (Pu.bH s 0) k).al) h rfl λH=>?_;have⟨c,f,z⟩:=h.bx;go_enter func70,ntmps70;go_wp2_with fail;refine H.call (aae (R:=PT) hs hT (.inr ⟨rfl,rfl,rfl⟩) PT.iface (λ_ _ _ _ _ _ h a b c=>h.move a b c) sl (λw k' S l=>ajJ hs IH S ae) h RowV.pt) ?_ (st:=λa=>wu _ _ _ a);intro a k2 v w1 H q V;obtain⟨tv,xv,rfl⟩:=V.iface;have l2:=uT sl 1 _ _ _ q;clear V q;go_wp2_with fail
 cases hc:a_ (tk (ja s 0) k2) mS
 .refine H.Fe hc ?_;have H:=H.re (g':=λk=>.ok (a,k)) (by rw[lA];rw[hc];rfl)
  go_wp2
  go_ret;exact H.done λh=>h.2
 .refine(H.re (g':=aN qH λ_=>aN (cP (ja s 0) n) λb k'=>.ok (.mk 17 fX 0 [a,b] (tk (ja s 0) k).al (aE (ja s 0) k') (tk (ja s 0) k).al,k')) (by rw[lA];rw[if_pos hc];rfl)).Fc hc ?_;intro w3 H;go_wp2_with fail;refine H.call (IH _ _ _ _ _ _ H.sx ae) ?_;intro b k4 v w4 H q V;obtain⟨t4,x4,rfl⟩:=V.iface;go_wp2_with fail;refine H.since ?_;intro w5 H
  go_wp2
  go_ret;exact H.done λ⟨⟨_,A⟩,B⟩=>.fn _ _ _ _ _ _ _ _ _ _ _ A B
def aah(hs:s.size<=1000)(hT:(ja s 0).length<=1001):∀n,aag s n
 |0=>λw N rb sb m k h hn=>by have:=h.lt;omega|n+1=>Ob hs hT<|aah hs hT n
def Rk(hs:s.size<=1000)(hT:(ja s 0).length<=1001)(h:SX w N rb sb m s k)(hn:(ja s 0).length<=k+n):Cq 70 #[rp rb] w (ap PT N rb sb m s (cP (ja s 0) n k) w):=aah hs hT n _ _ _ _ _ _ h hn
end
abbrev smP s n:=aI (ja s 0) (dY (ja s 0) n) (mQ<|ja s 0) 2
section
variable {m:MV}
def SX.plain(h:SX w N rb sb m s k){b}(hb:m.d=Mv b):∃x,Bx w x #[rp rb]/\MS j5 w b (ri rb x):=by
 have⟨x,hx,b',e,_,_,hM⟩:=h.ev.mp.pl;rw[hb]at e
 cases e
 exact⟨x,hx.2.2,hM⟩
def ald(hs:s.size<=1000)(IH:BO s n)(h:SX w N rb sb m s k)(hn:(ja s 0).length<=k+1+n){b}(hb:m.d=Mv b):Tab N rb sb m s PP (smP s n) 2 b w k:=by
 have⟨x,hx,hM⟩:=h.plain hb;refine⟨_,hM,?_⟩
 cases hc:aF (tk (ja s 0) k) 2
 .exact .inr ⟨rfl,aac h hc x⟩
 .exact .inl ⟨rfl,(UN hs IH h hn hc hx).imp id λ⟨f,h⟩=>⟨f,x,h⟩⟩
end
section
variable {m:MV}
def SX.md(h:SX w N rb sb m s k):∃b,m.d=Mv b:=by
 have⟨x,_,b,e,_⟩:=h.ev.mp.pl;exact⟨b,e⟩
def RowV.up{P}{L}{v}(h:RowV (Q1 PP) 1 w P L v)s n f t a y(hu:nI s)(hy:y=a+s.size):PP w P (.mk 2 s n L f t a) (.iface 307<|.agg #[Nv f,Nv t,Nv a,Nv y,.string s,v]):=by
 obtain⟨va,vc,cs,rfl,aM,hr⟩:=h;refine .up s n L f t a y va vc (λi=>cs i 0) hu hy ?_ hr;obtain h0|⟨g,h1,h2,h3,h4⟩:=aM
 .exact j7 h0
 .grind
def Fi(hs:s.size<=1000)(hT:(ja s 0).length<=1001)(IH:BO s n):BO s (n+1):=by
 intro w N rb sb m k h hn;have⟨b,hb⟩:=h.md;exact aae (R:=PP) hs hT (.inl ⟨rfl,rfl,hb⟩) PP.iface (λ_ _ _ _ _ _ h a b c=>h.move a b c) (cz (oT (T:=(ja s 0)) n) nh 2) (λw k' S l=>ald hs IH S ae hb) h λhu hy h=>h.up _ _ _ _ _ _ hu hy
def Dg(hs:s.size<=1000)(hT:(ja s 0).length<=1001):∀n,BO s n
 |0=>λw N rb sb m k h hn=>by have:=h.lt;omega|n+1=>Fi hs hT<|Dg hs hT n
end
section
variable {m:MV}
def adv{n}(hs:s.size<=1000)(hT:(ja s 0).length<=1001)(IH:eR s n)(h:SX w N rb sb m s k)(hn:(ja s 0).length<=k+1+n)(ho:a_ (tk (ja s 0) k) m5=true):
 Cq 192 #[rp rb] w (ap PE N rb sb m s (aI (ja s 0) (bR (ja s 0) n) (cP (ja s 0) n) 3 k) w):=by
 have V0:=g_;have Z':=kB;refine cA.Al h (uR ho) λH=>?_;go_enter func192,ntmps192;go_wp2_with fail;refine H.take ?_;intro w1 H;go_wp2_with fail
 cases hc:a_ (tk (ja s 0)<|k+1) lz
 .refine H.Fe hc ?_;go_wp2_with fail;refine(H.re<|Ak hc).expr IH ?_;intro a k2 t2 x2 w2 H l2;go_wp2_with fail
  cases hm:a_ (tk (ja s 0) k2) mR
  .refine H.Fe hm ?_;go_wp2_with fail
   cases hl:a_ (tk (ja s 0) k2) D_
   .refine H.Fe hl ?_;go_wp2_with fail;refine(H.re<|wG hm λ_=>hl).take ?_;intro w5 H
    go_wp2
    go_ret;exact H.done λ⟨_,A⟩=>A
   .refine(H.re<|JV hm hl).Fc hl ?_;intro w3 H;go_wp2_with fail;refine H.call (Rk hs hT H.sx ae) ?_;intro b k4 v4 w4 H _ V;obtain⟨t4,x4,rfl⟩:=V.iface;go_wp2_with fail;refine H.take ?_;intro w5 H;go_wp2_with fail;refine H.since ?_;intro w6 H
    go_wp2
    go_ret;exact H.done λ⟨⟨_,A⟩,B⟩=>.of _ _ _ _ _ _ _ _ _ A B
  .refine(H.re<|oS hm).Fc hm ?_;intro w3 H;go_wp2_with fail;refine H.expr IH ?_;exact Rh
 .exact Ri
def J7(hs:s.size<=1000)(hT:(ja s 0).length<=1001)(IH:eR s n)(h:SX w N rb sb m s k)(hn:(ja s 0).length<=k+1+n)(hb:aF (tk (ja s 0) k) 3=true){x:Nat}(hx:Bx w x #[rp rb]):
 (∃f,aX (aq<|tk (ja s 0) k) (sY rb x)=some (oI f rb)/\(∀args w,(callFunc f args).run jv w=.ok (.enter f args) w)/\∀W,Bq w W->Cq f #[rp rb] W (ap PE N rb sb m s (aI (ja s 0) (bR (ja s 0) n) (cP (ja s 0) n) 3 k) W))\/
 (∃f,aX (aq<|tk (ja s 0) k) (sY rb x)=some (mF f x)/\(∀args w,(callFunc f args).run jv w=.ok (.enter f args) w)/\∀W,Bq w W->Cq f #[Pv x] W (ap PE N rb sb m s (aI (ja s 0) (bR (ja s 0) n) (cP (ja s 0) n) 3 k) W)):=by
 have ho:=eu s k h.lt;obtain hk|hk|hk|hk|hk|⟨h9,hk⟩|hk:=tj ho aK hb
 .refine j8 ⟨184,by rw[iX hk];rfl,λ_ _=>qkr,?_⟩;rw[ck hb<|pP ae _];exact λW hW=>(Z9 (h.af hW) hs hk x<|hx.below hW).1
 .refine j7 ⟨186,by rw[ie hk];rfl,λ_ _=>qkr,?_⟩;rw[ck hb<|pP ae _];exact λW hW=>(ae8 (h.af hW) hs hk).1
 .refine j8 ⟨187,by rw[iY hk];rfl,λ_ _=>qkr,?_⟩;rw[ck hb<|pP ae _];exact λW hW=>(Z_ (h.af hW) hs hk x<|hx.below hW).1
 .refine j8 ⟨189,qBk,λ_ _=>qkr,?_⟩;rw[ck hb<|tn hk qAp];exact λW hW=>(ye (h.af hW) hs (j7 hk) x<|hx.below hW).1
 .refine j8 ⟨191,qBk,λ_ _=>qkr,?_⟩;rw[ck hb<|tn hk qAp];exact λW hW=>(ye (h.af hW) hs (j8 hk) x<|hx.below hW).2.1
 .omega
 .refine j7 ⟨192,qBk,λ_ _=>qkr,λW hW=>adv hs hT IH (h.af hW) hn hk⟩
def Rl(h:SX w N rb sb m s k)(hb:aF (tk (ja s 0) k) 3=false)x:aX (aq<|tk (ja s 0) k) (sY rb x)=none:=by
 have ho:=eu s k h.lt;have⟨n1,n2,n4,nt,nf,na,no⟩:=wI aK hb;obtain h'|h'|h'|h'|h'|h'|h':=ho.kd
 .exact absurd h' n1
 .exact absurd h' n2
 .rw[ig h'];rfl
 .exact absurd h' n4
 .rw[pN h'];have hz:=ho.s5 h';have rK:∀c:BA,5<c.size->c≠(tk (ja s 0) k).text:=λc hc e=>by rw[e]at hc;omega
  refine Ff λp hp=>?_;simp only[sY,qm,ql,or_false]at hp;obtain rfl|rfl|rfl|rfl|rfl|rfl:=hp
  .exact rK EZ aK
  .exact rK JD aK
  .exact rK NS aK
  .exact ru h' nt
  .exact ru h' nf
  .exact ru h' no
 .exact absurd h' h.ok
 .rw[iZ h'];rfl
def ale(hs:s.size<=1000)(hT:(ja s 0).length<=1001)(IH:eR s n)(h:SX w N rb sb m s k)(hn:(ja s 0).length<=k+1+n){b x:Nat}(hM:MS j5 w b (sY rb x))(hx:Bx w x #[rp rb]):Tab N rb sb m s PE (aI (ja s 0) (bR (ja s 0) n) (cP (ja s 0) n) 3) 3 b w k:=by
 refine⟨_,hM,?_⟩
 cases hc:aF (tk (ja s 0) k) 3
 .exact .inr ⟨rfl,Rl h hc x⟩
 .exact .inl ⟨rfl,(J7 hs hT IH h hn hc hx).imp id λ⟨f,h⟩=>⟨f,x,h⟩⟩
def UQ(hs:s.size<=1000)(hT:(ja s 0).length<=1001)(IH:eR s n)(h:SX w N rb sb m s k)(hn:(ja s 0).length<=k+1+n){b x:Nat}(hM:MS j5 w b (sY rb x))(hx:Bx w x #[rp rb]):
 Cq 256 #[rp rb,Mv b] w (ap PE N rb sb m s (aI (ja s 0) (bR (ja s 0) n) (cP (ja s 0) n) 3 k) w):=ae_ (.inr<|.inr ⟨rfl,rfl⟩) PE.iface h<|ale hs hT IH h hn hM hx
def SX.atom(h:SX w N rb sb m s k){b:Nat}(hb:m.c=Mv b):∃x,Bx w x #[rp rb]/\MS j5 w b (sY rb x):=by
 have⟨x,hx,b',e,_,_,hM⟩:=h.ev.mp.at_;rw[hb]at e
 cases e
 exact⟨x,hx.2.2,hM⟩
def SX.mc(h:SX w N rb sb m s k):∃b,m.c=Mv b:=by
 have⟨x,_,b,e,_⟩:=h.ev.mp.at_;exact⟨b,e⟩
end
abbrev yf s n:=aI (ja s 0) (bR (ja s 0) n) (cP (ja s 0) n) 3
def Rm N rb sb m s k w r(g:Nat->Nd->M Nd)gk v wr:=
 ∃(kr:Nat)(nd:Nd)(f:Nat),cA N rb sb m s r w rb #[] (g f nd) (λw'=>PE w' (λb=>w.heap.size<=b) nd v) kr wr/\Hid (gk=(ja s 0).length-kr)/\k<kr/\(ja s 0).length<=kr+f
def below_drewN w q:Below n w (w.drewN q):=⟨rfl,rfl,rfl,br _,λ_ _=>rfl⟩
def aai{x:Nd}(h:aF (tk T k) 3=true):jR T sm fr (f+1) x k=aN sm (λy k'=>jR T sm fr f (.mk 8 fX 0 [x,y] fr (aE T k') fr) k') k:=by
 show(if aF (tk T k) 3=true then _ else _)=_;rw[if_pos h]
def UR{x:Nd}(h:aF (tk T k) 3=false):jR T sm fr f x k=.ok (x,k):=by
 cases f with
 |zero=>rfl|succ f=>unfold jR;rw[h];rfl
section
variable {m:MV}
def ag4(hs:s.size<=1000)(hT:(ja s 0).length<=1001)(IH:eR s n)(h:SX w N rb sb m s k)(hn:(ja s 0).length<=k+1+n):
 Cq 206 #[rp rb] w (ap PE N rb sb m s (dt (ja s 0) (yf s n) k) w):=by
 have⟨b,hmc⟩:=h.mc;have⟨x,hx,hM⟩:=h.atom hmc;obtain⟨r,hr⟩:∃r,r=dt (Pu.bH s 0) (yf s n) k:=⟨_,rfl⟩;rw[<-hr];refine cA.Al (g:=jR (Pu.bH s 0) (yf s n) (tk (Pu.bH s 0) k).al (Pu.bH s 0).length) h hr λH=>?_;clear hr;have⟨c,ff,z⟩:=h.bx;go_enter func206,ntmps206;go_wp2_with fail;refine H.call (UQ hs hT IH h hn hM hx) ?_;intro a k1 v0 w1 H q V;obtain⟨t0,x0,rfl⟩:=V.iface;have l1:=cz (uU (T:=(Pu.bH s 0)) n) (da n) 3 _ _ _ q;clear hx hM c ff z V q
 go_wp2
 go_loopg[4] ((ja s 0).length-k1) (λgk v wr=>Rm N rb sb m s k w r (λf nd=>jR (ja s 0) (yf s n) (tk (ja s 0) k).al f nd) gk v wr)
 case atStart=>exact⟨k1,a,_,H.imp λ_ h=>h.2,ai rfl,l1,ae⟩
 case round=>
  clear H;obtain⟨kr,nd,f,H,cR,hle,hfu⟩:=hrel;have⟨x,hx,hM⟩:=H.sx.atom hmc;have hl:=λq=>eh (hM.same (w':=wr.drewN q) rfl) jy (tq _)<|aq<|tk (ja s 0) kr;have Cb:=eh hM jy (tq _)<|aq<|tk (ja s 0) kr;have Ze:=H.sx.lt;obtain⟨tv,xv,rfl⟩:=H.p.iface;have⟨c,ff,z⟩:=H.sx.bx
  cases hb:aF (tk (ja s 0) kr) 3
  .simp only[Rl H.sx hb x,kY]at hl Cb
   go_wp2
   go_quiet(fail)
   go_wp2
   go_ret;exact(H.af<|below_drewN _ nq).done id (UR hb)
  .obtain⟨f,rfl⟩:∃f',f=f'+1:=⟨f-1,ae⟩;obtain⟨F,hg,Zh,HC⟩|⟨F,hg,Zh,HC⟩:=J7 hs hT IH H.sx ae hb hx
   all_goals(
    simp only[hg,kY]at hl Cb;clear hg
    go_wp2
    go_quiet(fail);go_wp2_with fail;refine((H.af<|below_drewN _ nq).re<|aai hb).call (HC _<|below_drewN _ nq) ?_;intro a k2 v1 w1 H q V;obtain⟨t1,x1,rfl⟩:=V.iface;have l2:=cz (uU (T:=(ja s 0)) n) (da n) 3 _ _ _ q;clear HC Zh c ff z hl Cb hM hx V q;go_wp2_with fail;refine H.since ?_;intro w2 H
    go_wp2
    go_roundg((ja s 0).length-k2)
    case measure=>rw[uh cR];omega
    case rel=>exact⟨k2,_,f,(H.re rfl).imp λ_ h=>PE.call _ _ _ _ _ _ _ _ _ h.1 h.2,ai rfl,ae,ae⟩)
end
def opM(T:List jc)(sub:M Nd)(op:BA)(fr:Nat)(x:Nd):M Nd:=λk=>aN sub (λy k'=>.ok (.mk 7 op 0 [x,y] fr (aE T k') fr,k'))<|k+1
def ag5{sub}{op}{x:Nd}:opM T sub op fr x k=aN qH (λ_=>aN sub<|λy k'=>.ok (.mk 7 op 0 [x,y] fr (aE T k') fr,k')) k:=rfl
def aaj{sub}{x:Nd}(h:a_ (tk T k) gq=true):kU T sub fr (f+1) x k=aN (opM T sub gq fr x) (kU T sub fr f) k:=by
 show(if a_ (tk T k) gq=true then _ else _)=_;rw[if_pos h];unfold opM aN;dsimp only
 cases sub (k+1)<;>rfl
def US{sub}{x:Nd}(h:a_ (tk T k) gq=false):kU T sub fr f x k=.ok (x,k):=by
 cases f with
 |zero=>rfl|succ f=>unfold kU;rw[h];rfl
def Ro{sub}{x:Nd}(h:a_ (tk T k) iu=true\/a_ (tk T k) dW=true):sw T sub fr (f+1) x k=aN (opM T sub (tk T k).text fr x) (sw T sub fr f) k:=by
 show(if a_ (tk T k) iu=true\/a_ (tk T k) dW=true then _ else _)=_;rw[if_pos h];unfold opM aN;dsimp only
 cases sub (k+1)<;>rfl
def aak{sub}{x:Nd}(h:a_ (tk T k) iu=false)(h':a_ (tk T k) dW=false):sw T sub fr f x k=.ok (x,k):=by
 cases f with
 |zero=>rfl|succ f=>unfold sw;rw[h,h'];rfl
def yg(h:a_ t c=true):t.text=c:=by grind[a_,ae9]
def PEo(P:Nat->Prop)w(Q:Nat->Prop)a v:=PE w (λb=>P b\/Q b) a v
def ag6 a b c d w:(Instr.field 229 (.agg #[a,b,c,d]) 2).run jv w=.ok d w:=qkr
section
variable {m:MV}
def Oc s n F(sub:M Nd):=∀(w:World)(N rb sb:Nat)(m:MV)(k:Nat),SX w N rb sb m s k->(ja s 0).length<=k+1+n->Cq F #[rp rb] w (ap PE N rb sb m s (sub k) w)
def ajK{sub}(hs:s.size<=1000)(HF:Oc s n F sub)(Zh:∀args w,(callFunc F args).run jv w=.ok (.enter F args) w)(iL:aR (ja s 0) sub)(h:SX w N rb sb m s k)(hn:(ja s 0).length<=k+1+n)(rJ:(tk (ja s 0) k).text=iu\/(tk (ja s 0) k).text=dW\/(tk (ja s 0) k).text=gq\/(tk (ja s 0) k).text=dX)(h7:(tk (ja s 0) k).kind≠7)fr{x}(hx:gQ w N rb x #[rp rb])(hy:gQ w N rb y #[oI F rb])(hP:∀b,P b->b≠rb){v}(hv:PE w P nd v):
 Cq 254 #[Nv fr,v,Pv x,Pv y] w (ap (PEo P) N rb sb m s (opM (ja s 0) sub (tk (ja s 0) k).text fr nd k) w):=by
 have Z':=ag6;obtain⟨tv,xv,rfl⟩:=hv.iface;refine cA.Al h ag5 λH=>?_;have H:=((H.add λw' a q=>hx.2.2.same a<|q x hx.2.2.z hx.2.1 hx.2.1).add λw' a q=>hy.2.2.same a<|q y hy.2.2.z hy.2.1 hy.2.1).add λw' a q=>hv.move a (λb p z=>q b z (hP b p)<|hP b p) λ_ p _=>p;clear hx hy hv;have⟨⟨⟨_,c0,f0,z0⟩,c1,f1,z1⟩,_⟩:=H.p;go_enter func254,ntmps254;go_wp2_with fail;refine H.call (Z3 h hs h7) ?_;intro _ _ _ w1 H q V
 cases V
 cases q
 have⟨⟨⟨⟨_,c0,f0,z0⟩,c1,f1,z1⟩,_⟩,_⟩:=H.p;go_wp2_with fail;refine H.call (HF _ _ _ _ _ _ H.sx ae) ?_;intro a k2 v2 w2 H q V;obtain⟨t2,x2,rfl⟩:=V.iface;clear V q;have⟨⟨⟨⟨⟨_,c0,f0,z0⟩,_⟩,_⟩,_⟩,_⟩:=H.p;go_wp2_with fail;refine H.since ?_;intro w3 H
 go_wp2
 go_ret;exact H.done λ⟨⟨⟨_,A⟩,_⟩,B⟩=>.op _ _ _ _ _ _ _ _ _ rJ (A.wide λb p=>j7 p)<|B.wide λb p=>j8 p
def cA.op{sub}{op}{fr}{nd}{r}{w0}{C}{P}{g}{f}{args}{post}(H:cA N rb sb m s r w0 rb C (aN (opM (ja s 0) sub op fr nd) g) P k w)(An:mH sub)(hC:Cq f args w (ap (PEo<|λb=>w0.heap.size<=b) N rb sb m s (opM (ja s 0) sub op fr nd k) w))(ok:∀a k' t x w',cA N rb sb m s r w0 rb C (g a) (λw'=>PE w' (λb=>w0.heap.size<=b) a<|.iface t<|.agg x) k' w'->k<k'->post (.returned<|.iface t<|.agg x) w')(st:∀a,aR (ja s 0)<|g a:=by exact Zx)(bad:∀f' w',ap PE N rb sb m s r w0 (bQ f') w'->post (bQ f') w':=by exact λ_ _ h=>⟨rfl,h⟩):Cq f args w post:=
 hC.mono λe w' hp=>by
  cases hA:fin (ja s 0) (opM (ja s 0) sub op fr nd k)with
  |error f=>obtain⟨rfl,h⟩:=H.lost hp hA st;exact bad _ _ h
  |ok p=>
   obtain⟨a,j⟩:=p;obtain⟨v,rfl,hb,S,V⟩:=hp.ok hA;obtain⟨t,x,rfl⟩:=PE.iface V;refine ok _ _ t x w' (((H.mv hb S<|H.eq.trans<|m7 hA).add λw2 a1 b1=>PE.move V a1 (λb p z=>?_) λb p _=>p.elim id λp=>jo H.ke.size p).imp λ_ h=>h.2) ?_
   .have h1:w0.heap.size<=b:=p.elim id λp=>jo H.ke.size p;have:=H.rz.1;exact b1 b z ae ae
   .have⟨_,j,h1,h2⟩:=aw (m:=sub) (k:=k+1) (q_ hA).1
    cases h2
    have:=An _ _ _ h1;omega
def sR(ho:gy t)(h6:t.kind≠6)(hL:∀p∈L,p.1.size<=5/\a_ t p.1=false):aX (aq t) L=none:=by grind[a_,aX,aq,Ff,sZ]
def Od w:(zeroValue 362).run jv w=.ok .nilFunc w:=qkr
def Ao{b:Nat}{sub}{g:Nat->Nd->M Nd}(hs:s.size<=1000)(HF:Oc s n F sub)(hcF:∀args w,(callFunc F args).run jv w=.ok (.enter F args) w)(iL:aR (ja s 0) sub)(An:mH sub)(hg:∀f a,aR (ja s 0)<|g f a)(h:SX w N rb sb m s k)(hn:(ja s 0).length<=k+1+n)(hr:r=aN sub (g (ja s 0).length) k)(D:∀w k',SX w N rb sb m s k'->∃L,MS j5 w b L/\((∃x y,gQ w N rb x #[rp rb]/\gQ w N rb y #[oI F rb]/\aX (aq<|tk (ja s 0) k') L=some (UI x y)/\(∃c,a_ (tk (ja s 0) k') c=true/\(c=iu\/c=dW\/c=gq\/c=dX))/\∀f a,g (f+1) a k'=aN (opM (ja s 0) sub (tk (ja s 0) k').text (tk (ja s 0) k).al a) (g f) k')\/aX (aq<|tk (ja s 0) k') L=none/\∀f a,g f a k'=.ok (a,k'))):
 Cq 255 #[rp rb,oI F rb,Mv b] w (ap PE N rb sb m s r w):=by
 have hcO:∀args w,(callFunc 254 args).run jv w=.ok (.enter 254 args) w:=λ_ _=>qkr
 replace D:=ai D
 refine cA.Al h hr λH=>?_;clear hr;have⟨c,ff,z⟩:=h.bx;go_enter func255,ntmps255;go_wp2_with fail;refine H.call (HF _ _ _ _ _ _ h hn) ?_ (st:=hg _);intro a k1 v0 w1 H q V;obtain⟨t0,x0,rfl⟩:=V.iface;have l1:=An _ _ _ q;clear c ff z V q
 go_wp2
 go_loopg[8] ((ja s 0).length-k1) (λgk v wr=>Rm N rb sb m s k w r g gk v wr)
 case atStart=>exact⟨k1,a,_,H.imp λ_ h=>h.2,ai rfl,l1,ae⟩
 case round=>
  clear H;obtain⟨kr,nd,f,H,cR,hle,hfu⟩:=hrel;have⟨L,hM,Y⟩:=uh D _ _ H.sx;have hl:=eh hM jx (Od _)<|aq<|tk (ja s 0) kr;have Ze:=H.sx.lt;obtain⟨tv,xv,rfl⟩:=H.p.iface;have⟨c,ff,z⟩:=H.sx.bx;obtain⟨x,y,bx,yb,hq,⟨o,ho,hO⟩,E⟩|⟨hq,E⟩:=Y
  .obtain⟨f,rfl⟩:∃f',f=f'+1:=⟨f-1,ae⟩;simp only[hq,kY]at hl;have HC:=ajK hs HF hcF iL H.sx ae (by rw[yg ho];exact hO) (JO ho) (tk (ja s 0) k).al bx yb (P:=λb=>w.heap.size<=b) (λb p=>by have p':w.heap.size<=b:=p;have:=H.rz.1;omega) H.p;have H:=H.re<|E f nd;clear E ho hO;go_wp2_with fail;refine H.op An HC ?_ (st:=hg _);intro a k2 t x w1 H l2;clear HC bx yb c ff z hl hM hq
   go_wp2
   go_roundg((ja s 0).length-k2)
   case measure=>rw[uh cR];omega
   case rel=>exact⟨k2,_,f,H,ai rfl,ae,ae⟩
  .simp only[hq,kY]at hl;have H:=H.re (g':=λk=>.ok (nd,k))<|E f nd;clear E
   go_wp2
   go_ret;exact H.done id
def Oe{n}(hs:s.size<=1000)(hT:(ja s 0).length<=1001)(HF:Oc s n 206 (dt (ja s 0)<|yf s n))(iL:aR (ja s 0) (dt (ja s 0)<|yf s n))(An:mH (dt (ja s 0)<|yf s n))(h:SX w N rb sb m s k)(hn:(ja s 0).length<=k+1+n){b:Nat}(rI:m.h=Mv b):
 Cq 255 #[rp rb,oI 206 rb,Mv b] w (ap PE N rb sb m s (gu (ja s 0) (dt (ja s 0)<|yf s n) k) w):=
 Ao hs HF (λ_ _=>qkr) iL An (g:=kU (ja s 0) (dt (ja s 0)<|yf s n) (tk (ja s 0) k).al) (λf a=>oR _ _ _ _) h hn rfl λw k' S=>by
  have⟨x0,y0,h0,g0,b',e,_,_,hM⟩:=S.ev.mp.pr;rw[rI]at e
  cases e
  refine⟨_,hM,?_⟩
  cases hb:a_ (tk (ja s 0) k') gq
  .exact .inr ⟨sR (eu s k' S.lt) S.ok (by simp[hb];decide),λ_ _=>US hb⟩
  .exact .inl ⟨x0,y0,h0,g0,by rw[gi hb];rfl,⟨_,hb,ag⟩,λf a=>by rw[yg hb];exact aaj hb⟩
def UT{n}(hs:s.size<=1000)(hT:(ja s 0).length<=1001)(HF:Oc s n 205 (gu (ja s 0)<|dt (ja s 0)<|yf s n))(iL:aR (ja s 0) (gu (ja s 0)<|dt (ja s 0)<|yf s n))(An:mH (gu (ja s 0)<|dt (ja s 0)<|yf s n))(h:SX w N rb sb m s k)(hn:(ja s 0).length<=k+1+n){b:Nat}(rI:m.g=Mv b):
 Cq 255 #[rp rb,oI 205 rb,Mv b] w (ap PE N rb sb m s (wW (ja s 0) (gu (ja s 0)<|dt (ja s 0)<|yf s n) k) w):=
 Ao hs HF (λ_ _=>qkr) iL An (g:=sw (ja s 0) (gu (ja s 0)<|dt (ja s 0)<|yf s n) (tk (ja s 0) k).al) (λf a=>rl _ _ _ _) h hn rfl λw k' S=>by
  have⟨x0,y0,x1,y1,h0,g0,h1,g1,b',e,_,_,hM⟩:=S.ev.mp.sm;rw[rI]at e
  cases e
  refine⟨_,hM,?_⟩
  cases hb:a_ (tk (ja s 0) k') iu
  .cases hc:a_ (tk (ja s 0) k') dW
   .exact .inr ⟨sR (eu s k' S.lt) S.ok (by simp[hb,hc];decide),λ_ _=>aak hb hc⟩
   .exact .inl ⟨x1,y1,h1,g1,by rw[gi hc];rfl,⟨_,hc,ag⟩,λf a=>Ro<|.inr hc⟩
  .exact .inl ⟨x0,y0,h0,g0,by rw[gi hb];rfl,⟨_,hb,ag⟩,λf a=>Ro<|.inl hb⟩
def SX.hm(h:SX w N rb sb m s k):∃b,m.h=Mv b:=by
 have⟨x0,y0,h0,g0,b',e,_,_,hM⟩:=h.ev.mp.pr;exact⟨b',e⟩
def SX.gm(h:SX w N rb sb m s k):∃b,m.g=Mv b:=by
 have⟨x0,y0,x1,y1,h0,g0,h1,g1,b',e,_,_,hM⟩:=h.ev.mp.sm;exact⟨b',e⟩
end
section
variable {m:MV}
def Og:mH (yf s n):=cz (uU n) (da n) 3
def Ap:aR (ja s 0) (yf s n):=m9 _ _ _
def adw(hs:s.size<=1000)(hT:(ja s 0).length<=1001)(IH:eR s n):Oc s n 206 (dt (ja s 0)<|yf s n):=λw N rb sb m k h hn=>ag4 hs hT IH h hn
def aal{F1 F2 b}(h:SX w N rb sb m s k)(hF:F1=205/\F2=206/\m.h=Mv b\/F1=204/\F2=205/\m.g=Mv b)(HC:Cq 255 #[rp rb,oI F2 rb,Mv b] w (ap PE N rb sb m s r w)):Cq F1 #[rp rb] w (ap PE N rb sb m s r w):=by
 have⟨c,ff,z⟩:=h.bx;obtain⟨rfl,rfl,rI⟩|⟨rfl,rfl,rI⟩:=hF
 all_goals(
  first
  |go_enter func205,ntmps205
  |go_enter func204,ntmps204
  go_wp2_with fail;refine HC.mono ?_;intro e w1 hp
  cases hA:fin (ja s 0) r with
  |error f'=>
   exact Fh
  |ok r=>
  obtain⟨a,k2⟩:=r;obtain⟨v,rfl,_,_,hR⟩:=hp.ok hA;obtain⟨tv,xv,rfl⟩:=hR.iface
  go_wp2
  go_ret
  exact hp)
def Oh(hs:s.size<=1000)(hT:(ja s 0).length<=1001)(IH:eR s n):Oc s n 205 (gu (ja s 0)<|dt (ja s 0)<|yf s n):=by
 intro w N rb sb m k h hn;have⟨b,rI⟩:=h.hm;exact aal h (.inl ⟨rfl,rfl,rI⟩)<|Oe hs hT (adw hs hT IH) (m_ Ap) (tw Og) h hn rI
def ag7(hs:s.size<=1000)(hT:(ja s 0).length<=1001)(IH:eR s n):Oc s n 204 (wW (ja s 0)<|gu (ja s 0)<|dt (ja s 0)<|yf s n):=by
 intro w N rb sb m k h hn;have⟨b,rI⟩:=h.gm;exact aal h (.inr ⟨rfl,rfl,rI⟩)<|UT hs hT (Oh hs hT IH) (rq<|m_ Ap) (Aq<|tw Og) h hn rI
def Fk(hs:s.size<=1000)(hT:(ja s 0).length<=1001)(IH:eR s n)(h:SX w N rb sb m s k)(hn:(ja s 0).length<=k+1+n):Cq 273 #[rp rb] w (ap PE N rb sb m s (sC (ja s 0) (wW (ja s 0)<|gu (ja s 0)<|dt (ja s 0)<|yf s n) k) w):=by
 have hcO:∀args w,(callFunc 254 args).run Tryz.prog w=.ok (.enter 254 args) w:=λ_ _=>qkr;have hcF:∀args w,(callFunc 204 args).run Tryz.prog w=.ok (.enter 204 args) w:=λ_ _=>qkr;have HF:=ag7 (n:=n) hs hT IH;have iL:aR (Pu.bH s 0) (wW (Pu.bH s 0)<|gu (Pu.bH s 0)<|dt (Pu.bH s 0)<|yf s n):=De<|rq<|m_ Ap;have An:mH (wW (Pu.bH s 0)<|gu (Pu.bH s 0)<|dt (Pu.bH s 0)<|yf s n):=Rp<|Aq<|tw Og;obtain⟨-,-,-,-,b,rI,-⟩:=h.ev.mp.cm;refine cA.Al h (adq _ _) λH=>?_;have⟨c,ff,z⟩:=h.bx;go_enter func273,ntmps273;go_wp2_with fail;refine H.call (HF _ _ _ _ _ _ h hn) ?_ (st:=λa=>wF _ _ _);intro a k1 v0 w1 H q V;have l1:=An _ _ _ q;obtain⟨x0,y0,bx0,by0,b',e,-,-,hM⟩:=H.sx.ev.mp.cm;rw[rI]at e
 cases e
 have hl:=λq=>eh (hM.same (w':=w1.drewN q) rfl) jx (Od _)<|aq<|tk (ja s 0) k1;have Cb:=eh hM jx (Od _)<|aq<|tk (ja s 0) k1;have Ze:=H.sx.lt;obtain⟨tv,xv,rfl⟩:=V.iface;clear V q;have⟨c,ff,z⟩:=H.sx.bx
 cases hb:a_ (tk (ja s 0) k1) dX
 .have H:=H.re (g':=λk=>.ok (a,k)) (by rw[JU];rw[hb];rfl);simp only[sR (eu s k1 Ze) H.sx.ok (L:=[(dX,UI x0 y0)]) (by simp[hb];decide),kY]at hl Cb
  go_wp2
  go_quiet(fail)
  go_wp2
  go_ret;exact(H.af<|below_drewN _ nq).done λh=>h.2
 .have hg:aX (aq<|tk (ja s 0) k1) [(dX,UI x0 y0)]=some (UI x0 y0):=by rw[gi hb];rfl
  simp only[hg,kY]at hl Cb;have H:=H.re (g':=aN (opM (ja s 0) (wW (ja s 0)<|gu (ja s 0)<|dt (ja s 0)<|yf s n) (tk (ja s 0) k1).text (tk (ja s 0) k).al a) λa k=>.ok (a,k)) (by rw[<-Fg,yg hb];rw[JU];rw[if_pos hb];rfl);have HC:=λq=>ajK hs HF hcF iL (H.af<|below_drewN _ q).sx ae (by rw[yg hb];simp) (JO hb) (tk (ja s 0) k).al (bx0.move (br _) λ_ _ _=>rfl) (by0.move (br _) λ_ _ _=>rfl) (P:=λb=>w.heap.size<=b) (λb p=>by have p':w.heap.size<=b:=p;have:=H.rz.1;omega) (H.af<|below_drewN _ q).p.2
  go_wp2
  go_quiet(fail);go_wp2_with fail;refine(H.af<|below_drewN _ nq).op An (HC nq) ?_;intro a k2 t x w1 H _
  go_wp2
  go_ret;exact H.done id
end
section
variable {m:MV}
def rA(hs:s.size<=1000)(IH:eR s n)(h:SX w N rb sb m s k)(hn:(ja s 0).length<=k+1+n):
 Cq 180 #[rp rb] w (ap PE N rb sb m s (uq (ja s 0) (bR (ja s 0) n) k) w):=by
 have V0:=g_;have Z':=kB;refine cA.Al h rfl λH=>?_;go_enter func180,ntmps180;go_wp2_with fail;refine H.take ?_;intro w1 H;go_wp2_with fail;refine H.name ?_;intro t w2 H Ht;go_wp2_with fail;refine H.box.take ?_;intro w3 H;go_wp2_with fail;refine H.expr IH ?_;intro a k4 t4 x4 w4 H l4;have⟨⟨_,c,f,z⟩,_⟩:=H.p
 go_wp2
 go_region_with(go_at_call 105;refine H.drew.since ?_;intro w5 H;have⟨⟨_,c,f,z⟩,_⟩:=H.p)
 all_goals(
  go_wp2
  go_ret
  exact H.done λ⟨_,V⟩=>.fn _ _ _ _ _ _ _ _ Ht.1 Ht.2 V)
def aam(hs:s.size<=1000)(IH:eR s n)(h:SX w N rb sb m s k)(hn:(ja s 0).length<=k+1+n):
 Cq 182 #[rp rb] w (ap PE N rb sb m s (pA (ja s 0) (bR (ja s 0) n) k) w):=by
 have V0:=g_;have Z':=kB;refine cA.Al h rfl λH=>?_;go_enter func182,ntmps182;go_wp2_with fail;refine H.take ?_;intro w1 H;go_wp2_with fail;refine H.expr IH ?_;intro a k2 t2 x2 w2 H l2;go_wp2_with fail;refine H.take ?_;intro w3 H;go_wp2_with fail;refine H.expr IH ?_;intro b k4 t4 x4 w4 H l4;go_wp2_with fail;refine H.take ?_;intro w5 H;go_wp2_with fail;refine H.expr IH ?_;intro c k6 t6 x6 w6 H l6;go_wp2_with fail;refine H.since ?_;intro w7 H
 go_wp2
 go_ret;exact H.done λ⟨⟨⟨_,A⟩,B⟩,C⟩=>.ite _ _ _ _ _ _ _ _ _ _ _ A B C
end
def bindM T e:=λk=>
 if a_ (tk T k) Yb=true then aN (di T 1) (λt=>aN (bt T Qh) λ_=>aN (uq T e) λe k'=>.ok ((11,t,e),k')) (k+1)
 else aN (di T 1) (λt=>aN (bt T Qh) λ_=>aN e λe k'=>.ok ((10,t,e),k')) k
def UU{e:M Nd}(h:a_ (tk T k) Yb=true):bindM T e k=aN qH (λ_=>aN (di T 1) λt=>aN (bt T Qh) λ_=>aN (uq T e) λe k'=>.ok ((11,t,e),k')) k:=by rw[bindM];rw[if_pos h];rfl
def J8{e:M Nd}(h:a_ (tk T k) Yb=false):bindM T e k=aN (di T 1) (λt=>aN (bt T Qh) λ_=>aN e λe k'=>.ok ((10,t,e),k')) k:=by rw[bindM];rw[h];rfl
def N_ e:aR T (bindM T e):=λk h=>by
 rw[J8<|ed h _];exact bU (rj T 1 aK k h) λ_ q g=>by
  rw[aN];rw[show bt T Qh q=.error (dc<|tk T q) by rw[bt];rw[ed g];rfl];rfl
def Ar w P(b:Nat×jc×Nd)(v:Value):=
 ∃ve,v=.agg #[.bool<|b.1==11,Nv b.2.1.al,Nv b.2.1.to,.string b.2.1.text,ve]/\PE w P b.2.2 ve/\(b.1=10\/b.1=11)/\BN b.2.1.text/\b.2.1.to=b.2.1.al+b.2.1.text.size
def Bx.alf{b:Nat}(h:Bx w b C)(hC:C.size=5)v0 v1 v2 v3 v4:Bx (((((w.setCell ⟨b,0,none⟩ v0).setCell ⟨b,1,none⟩ v1).setCell ⟨b,2,none⟩ v2).setCell ⟨b,3,none⟩ v3).setCell ⟨b,4,none⟩ v4) b #[v0,v1,v2,v3,v4]:=by
 obtain⟨a0,a1,a2,a3,a4,rfl⟩:∃a0 a1 a2 a3 a4,C=#[a0,a1,a2,a3,a4]:=by
  obtain⟨l⟩:=C
  match l,hC with
  |[a,b,c,d,e],_=>grind
 exact((((h.aP 0 v0 #[v0,a1,a2,a3,a4] rfl ag).aP 1 v1 #[v0,v1,a2,a3,a4] rfl ag).aP 2 v2 #[v0,v1,v2,a3,a4] rfl ag).aP 3 v3 #[v0,v1,v2,v3,a4] rfl ag).aP 4 v4 #[v0,v1,v2,v3,v4] rfl ag
section
variable {m:MV}
theorem Ar.move{w w'}{P Q}{b}{v}(h:Ar w P b v)(hs:w.heap.size<=w'.heap.size)(hb:∀b,P b->b<w.heap.size->w'.heap[b]? =w.heap[b]?)(hq:∀b,P b->b<w.heap.size->Q b):Ar w' Q b v:=by
 obtain⟨ve,h1,h2,h3⟩:=h;exact⟨ve,h1,h2.move hs hb hq,h3⟩
def J9{c}{tv}{xv}{g}{P:World->Prop}{r}{bb}(o:w.heap.size≠rb)(hc:(c==11)=bb)(Ht:Hid (BN t.text/\t.to=t.al+t.text.size))(H:cA N rb sb m s r w w.heap.size D g (λw'=>P w'/\PE w' (λb=>w.heap.size<=b) a (.iface tv<|.agg xv)) k' w')(hD:D.size=5)(hg:g k'=.ok ((c,t,a),k'))(h1:c=10\/c=11):∃W,W=(((((w'.setCell ⟨w.heap.size,0,none⟩<|.bool bb).setCell ⟨w.heap.size,1,none⟩<|Nv t.al).setCell ⟨w.heap.size,2,none⟩<|Nv t.to).setCell ⟨w.heap.size,3,none⟩<|.string t.text).setCell ⟨w.heap.size,4,none⟩<|.iface tv<|.agg xv)/\
 Bx W w.heap.size #[.bool bb,Nv t.al,Nv t.to,.string t.text,.iface tv<|.agg xv]/\ap Ar N rb sb m s r w (.returned<|.agg #[.bool bb,Nv t.al,Nv t.to,.string t.text,.iface tv<|.agg xv]) W:=by
 have B:=(H.bo o).alf hD (.bool bb) (Nv t.al) (Nv t.to) (Sv t.text)<|Fv tv<|Av xv;subst hc;exact⟨_,rfl,B,(H.put o B<|cM<|cM<|cM<|cM<|cM ⟨rfl,rfl,rfl,rfl,λ_ _=>rfl⟩).done (λV=>⟨_,rfl,V.2,h1,Ht.1,Ht.2⟩) hg⟩
def Dh(hs:s.size<=1000)(IH:eR s n)(h:SX w N rb sb m s k)(hn:(ja s 0).length<=k+n):
 Calls jv 248 #[rp rb] w (ap Ar N rb sb m s (bindM (ja s 0) (bR (ja s 0) n) k) w):=by
 have V0:=g_;have Z':=kB;have hcE:∀args w,(callFunc 249 args).run jv w=.ok (.enter 249 args) w:=λ_ _=>qkr;have hcF:∀args w,(callFunc 180 args).run jv w=.ok (.enter 180 args) w:=λ_ _=>qkr;have o:w.heap.size≠rb:=by have:=h.z;omega
 cases hc:a_ (tk (ja s 0) k) Yb
 .refine cA.Al h (J8 hc) λH=>?_;go_enter func248,ntmps248;go_wp2_with fail;refine H.own.Fe hc ?_;go_wp2_with fail;refine H.own.name ?_;intro t w2 H Ht;go_wp2_with fail;refine H.box.take ?_;intro w3 H;go_wp2_with fail;have⟨_,c1,f1,z1⟩:=H.p;have⟨c2,f2,z2⟩:=H.bo o
  cases hA:fin (ja s 0) (bR (ja s 0) n<|k+1+1)with
  |error f'=>
   go_region_dies
   all_goals(refine(IH _ _ _ _ _ _ H.drew.sx ae).mono ?_;intro e w5 hp;obtain⟨rfl,hb⟩:=H.drew.lost (R':=Ar) hp hA;exact⟨rfl,hb⟩)
  |ok rr=>
  obtain⟨a,k4⟩:=rr;go_region_with(go_at_call 249;refine(IH _ _ _ _ _ _ H.drew.sx ae).mono ?_;intro e w5 hp;obtain⟨v,rfl,H,V⟩:=H.drew.aX hp hA;obtain⟨tv,xv,rfl⟩:=V.iface;have⟨⟨_,c1,f1,z1⟩,_⟩:=H.p;have⟨c2,f2,z2⟩:=H.bo o;clear hp V)
  all_goals(
   go_wp2_with fail;obtain⟨_,rfl,⟨cF,fF,zF⟩,h⟩:=J9 (c:=10) (bb:=false) o rfl Ht H rfl rfl (.inl rfl)
   exact bodyPost_ret (by simp[results,Tryz.results248,go_sem,cF]) rfl h)
 .refine cA.Al h (UU hc) λH=>?_;go_enter func248,ntmps248;go_wp2_with fail;refine H.own.Fc hc ?_;intro w1 H;go_wp2_with fail;refine H.name ?_;intro t w2 H Ht;go_wp2_with fail;refine H.box.take ?_;intro w3 H;go_wp2_with fail;have⟨_,c1,f1,z1⟩:=H.p;have⟨c2,f2,z2⟩:=H.bo o
  cases hA:fin (ja s 0) (uq (ja s 0) (bR (ja s 0) n)<|k+1+1+1)with
  |error f'=>
   go_region_dies
   all_goals(refine(rA hs IH H.drew.sx ae).mono ?_;intro e w5 hp;obtain⟨rfl,hb⟩:=H.drew.lost (R':=Ar) hp hA;exact⟨rfl,hb⟩)
  |ok rr=>
  obtain⟨a,k4⟩:=rr;go_region_with(go_at_call 180;refine(rA hs IH H.drew.sx ae).mono ?_;intro e w5 hp;obtain⟨v,rfl,H,V⟩:=H.drew.aX hp hA;obtain⟨tv,xv,rfl⟩:=V.iface;have⟨⟨_,c1,f1,z1⟩,_⟩:=H.p;have⟨c2,f2,z2⟩:=H.bo o;clear hp V)
  all_goals(
   go_wp2_with fail;obtain⟨_,rfl,⟨cF,fF,zF⟩,h⟩:=J9 (c:=11) (bb:=true) o rfl Ht H rfl rfl (.inr rfl)
   exact bodyPost_ret (by simp[results,Tryz.results248,go_sem,cF]) rfl h)
end
end
end Go.Proofs.YtfnkchdeheeiiaaGreatDoor

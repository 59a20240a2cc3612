import Derived.Test.YtfnkchdeheeiiaaGreatDoorQPf
import Derived.Test.YtfnkchdeheeiiaaGreatDoorQTo
set_option linter.all false
set_option maxRecDepth 100000
set_option maxHeartbeats 8000000
namespace Go.Proofs.YtfnkchdeheeiiaaGreatDoor
open Pu renaming bG->ja,Tok->jc,aG->jd,dV->jf,o_->jh,at_->ji,gS->jj
open _root_.List.Mem renaming tail->jk,head->jl
open _root_.Nat renaming lt_of_lt_of_le->jm,le_trans->jo,ne_of_gt->jp,le_of_lt->jq,succ_mul->jt,mul_le_mul_right->ju
open Go.Proofs.Tryz renaming prog->jv,underlying227->jx,underlying233->jy,underlying236->jz,underlying234->j5
open Go.Value renaming string->j6,slice->j7
open Go.ByteArray renaming toList_eq->j8
open Or renaming inl->j9,inr->qe
open Ke renaming Je->qf,of->qg
open Bool renaming and_eq_true->qh
open Go.World renaming cell?_of_block->qi
open Go.RowKit.Below renaming refl->qk,heap_setCell->ql
open _root_.List renaming range->qm
open Go Go.RowKit Proofs.Tryz
variable {C D args:Array Value} {c s:BA} {e:Ending} {post:Ending->World->Prop} {L:List (BA×Value)} {T:List jc} {q sm:M Nd} {N base f j k k' lo mt n rb sb sort vc xb:Nat} {P:Nat->Prop} {a:Nd} {va:Option Addr} {t:jc} {α β γ:Type} {et:TypeId} {W w w' w0 w3:World} {R:World->(Nat->Prop)->Nd->Value->Prop}
section
open Go.ChangeMaps
def uN{r}{a:α}(h:fin T r=.ok (a,k)):r=.ok (a,k)/\(tk T k).kind≠6:=by
 unfold fin at h;split at h
 .cases h
 .grind
theorem dc(a:α)(h:(tk T k).kind=6):fin T (.ok (a,k))=.error (dM<|tk T k):=by rw[fin];simp[h]
def lA(a:α)(h:(tk T k).kind≠6):fin T (.ok (a,k))=.ok (a,k):=by grind[tk,fin]
def aR{α:Type}(T:List jc)(g:M α):=∀k,(tk T k).kind=6->fin T (g k)=.error (dM<|tk T k)
theorem nj{m}{g:α->M β}{a}(h:fin T (m k)=.ok (a,k')):aq m g k=g a k':=by grind[fin,aq]
def b_{m}{g:α->M β}{f}(h:fin T (m k)=.error f)(hs:∀a,aR T<|g a):fin T (aq m g k)=.error f:=by grind[fin,aR,aq]
theorem eD(h:t.kind=6)s:bh t s=false:=by grind[bh]
def Zk(h:t.kind=6):aO t 1=false:=by grind[aO,bH,eD]
def rM(T:List jc)c:aR T (bu T c):=λk h=>by rw[bu];rw[eD h];rfl
theorem fO{m}{g:α->M β}(h:aR T m)(hg:∀a,aR T<|g a):aR T (aq m g):=λk hk=>b_ (h k hk) hg
def Jh(T:List jc)mk:aR T (rA T mk):=fO (rM T _) λ_ k h=>dc _ h
def Ji(T:List jc)p q:aR T (aJ T p q 1):=λk h=>by
 rw[aJ];rw[Zk h];rfl
def wa(T:List jc)p f a:aR T (lI T p f a):=by grind[aR,lI,eD,dc]
def Dg(T:List jc):∀n,aR T<|fy T n
 |0=>λk h=>rfl|n+1=>λk h=>by
  rw[fy];refine b_ ?_<|λa=>wa T _ _ a;rw[gh];rw[if_neg<|by simp[h]];exact Ji T _ _ k h
def PT.iface{v}(h:PT w P a v):∃t x,v=.iface t (.agg x):=by
 cases h<;>exact⟨_,_,rfl⟩
def hY a b c d w:(Instr.field 229 (.agg #[a,b,c,d]) 0).run jv w=.ok (.agg #[a,b]) w:=qkr
def kM a b w:(Instr.field 131 (.agg #[a,b]) 0).run jv w=.ok a w:=qkr
def Nd.pos:Nd->Nat
 |.mk _ _ _ _ _ _ a=>a
def Dh{T:List jc}{sm:M Nd}{sort:Nat}:∀f x k a k',cQ T sm sort f x k=.ok (a,k')->a.pos=x.pos
 |0,x,k,a,k',h=>by cases h;rfl|f+1,x,k,a,k',h=>by
  unfold cQ at h;split at h
  .unfold aq at h;split at h
   .cases h
   .rename_i y k1 _;rw[Dh f _ _ _ _ h]
    cases x;rfl
  .cases h;rfl
abbrev Fh:BA:=⟨#[108,111,119,32,110,97,109,101]⟩
abbrev Nn:BA:=⟨#[97,32,110,117,109,98,101,114]⟩
abbrev rp rb:=Pv rb
abbrev oY(f rb:Nat):Value:=.func (.func f) #[rp rb] #[]
abbrev nk(f b:Nat):Value:=.func (.func f) #[] #[Pv b]
abbrev UO(b c:Nat):Value:=.func (.func 254) #[] #[Pv b,Pv c]
abbrev Jj rb:=[(my,oY 178 rb),(rB,oY 179 rb)]
abbrev Qx rb:=[(En,oY 180 rb),(rB,oY 181 rb),(kIf,oY 182 rb),(oN,oY 183 rb)]
abbrev s_ rb b:=[(Fh,nk 184 b),(I4,oY 186 rb),(Nn,nk 187 b),(gd,nk 189 b),(dH,nk 191 b),(nh,oY 192 rb)]
abbrev rG rb b:=[(yU,oY 193 rb),(Fh,nk 194 b),(I4,oY 195 rb),(Nn,nk 196 b),(gd,nk 197 b),(dH,nk 198 b),(nh,oY 199 rb)]
def ph w N rb v L:=∃b,v=Mv b/\b<N/\b≠rb/\MS j6 w b L
def gT w N rb b C:=b<N/\b≠rb/\Bx w b C
structure Maps w N rb(m:MV):Prop where
 d:ph w N rb m.a (Jj rb)
 wd:ph w N rb m.b (Qx rb)
 at_:∃x,gT w N rb x #[rp rb]/\ph w N rb m.c (s_ rb x)
 pl:∃x,gT w N rb x #[rp rb]/\ph w N rb m.d (rG rb x)
 cm:∃x y,gT w N rb x #[rp rb]/\gT w N rb y #[oY 204 rb]/\ph w N rb m.f [(eQ,UO x y)]
 sm:∃x y x' y',gT w N rb x #[rp rb]/\gT w N rb y #[oY 205 rb]/\gT w N rb x' #[rp rb]/\gT w N rb y' #[oY 205 rb]/\ph w N rb m.g [(kq,UO x y),(fe,UO x' y')]
 pr:∃x y,gT w N rb x #[rp rb]/\gT w N rb y #[oY 206 rb]/\ph w N rb m.h [(gM,UO x y)]
section
variable {m:MV}
theorem ph.move{v:Value}(h:ph w N rb v L)(hb:∀b,b<N->b≠rb->w'.heap[b]? =w.heap[b]?):ph w' N rb v L:=by
 obtain⟨b,h1,h2,h3,h4⟩:=h;exact⟨b,h1,h2,h3,h4.same<|hb b h2 h3⟩
theorem gT.move{b}(h:gT w N rb b C)(hs:w.heap.size<=w'.heap.size)(hb:∀b,b<N->b≠rb->w'.heap[b]? =w.heap[b]?):gT w' N rb b C:=
 ⟨h.1,h.2.1,h.2.2.same hs<|hb b h.1 h.2.1⟩
theorem Maps.move(h:Maps w N rb m)(hs:w.heap.size<=w'.heap.size)(hb:∀b,b<N->b≠rb->w'.heap[b]? =w.heap[b]?):Maps w' N rb m:=by
 obtain⟨d,wd,⟨x1,a1,a2⟩,⟨x2,b1,b2⟩,⟨x3,y3,c1,c2,c3⟩,⟨x4,y4,x5,y5,d1,d2,d3,d4,d5⟩,⟨x6,y6,e1,e2,e3⟩⟩:=h;exact⟨d.move hb,wd.move hb,⟨x1,a1.move hs hb,a2.move hb⟩,⟨x2,b1.move hs hb,b2.move hb⟩,⟨x3,y3,c1.move hs hb,c2.move hs hb,c3.move hb⟩,⟨x4,y4,x5,y5,d1.move hs hb,d2.move hs hb,d3.move hs hb,d4.move hs hb,d5.move hb⟩,⟨x6,y6,e1.move hs hb,e2.move hs hb,e3.move hb⟩⟩
structure Env w N rb sb m:Prop where
 sm:MS j6 w sb (smL rb)
 la:Laid w
 h2:3<=rb
 hr:rb<N
 hs:sb<N
 ne:sb≠rb
 hN:N<=w.heap.size
 mp:Maps w N rb m
theorem Env.move(h:Env w N rb sb m)(hs:w.heap.size<=w'.heap.size)(hb:∀b,b<N->b≠rb->w'.heap[b]? =w.heap[b]?):Env w' N rb sb m:=by
 have c:∀b o,b<3->w'.cell? ⟨b,o,none⟩=w.cell? ⟨b,o,none⟩:=λb o q=>qi (a:=⟨b,o,none⟩) (hb b (by have:=h.hr;have:=h.h2;omega) (by have:=h.h2;omega));exact⟨h.sm.same<|hb sb h.hs h.ne,⟨λj hj=>(c 2 j ae).trans<|h.la.words j hj,λj hj=>(c 0 j ae).trans<|h.la.signs j hj,jo h.la.hz hs⟩,h.h2,h.hr,h.hs,h.ne,jo h.hN hs,h.mp.move hs hb⟩
def Env.ke(h:Env w N rb sb m)(hk:Ke rb w w'):Env w' N rb sb m:=h.move hk.size λb hb hn=>hk.block b (jm hb h.hN) hn
end
structure SX w N rb sb m s k:Prop where
 bx:Bx w rb (rdC s (tk (ja s 0) k) (aS (ja s 0) k) m sb)
 ev:Env w N rb sb m
 lt:k<(ja s 0).length
 ok:(tk (ja s 0) k).kind≠6
def ap{α:Type}(R:World->(Nat->Prop)->α->Value->Prop)N rb sb m s r w e w':=
 Ke rb w w'/\match fin (ja s 0) r with
  |.error f=>e=bW f|.ok (a,k)=>∃v,e=.returned v/\SX w' N rb sb m s k/\R w' (λb=>w.heap.size<=b) a v
section
variable {R:World->(Nat->Prop)->α->Value->Prop} {m:MV}
def SX.rd(h:SX w N rb sb m s k):RD w rb sb m s (tk (ja s 0) k) (aS (ja s 0) k):=⟨h.bx,h.ev.sm,h.ev.ne,h.ev.la,h.ev.h2⟩
theorem SX.move(h:SX w N rb sb m s k)(hs:w.heap.size<=w'.heap.size)(hb:∀b,b<N->w'.heap[b]? =w.heap[b]?):SX w' N rb sb m s k:=
 ⟨h.bx.same hs<|hb rb h.ev.hr,h.ev.move hs<|λb q _=>hb b q,h.lt,h.ok⟩
def SX.af(h:SX w N rb sb m s k)(hb:Bq w w'):SX w' N rb sb m s k:=h.move hb.size λb q=>hb.block b<|jm q h.ev.hN
def SX.z(h:SX w N rb sb m s k):rb<w.heap.size:=h.bx.z
def SX.of(h:RD w rb sb m s (tk (ja s 0) k) (aS (ja s 0) k))(hE:Env w N rb sb m)(h1:k<(ja s 0).length)(h2:(tk (ja s 0) k).kind≠6):SX w N rb sb m s k:=⟨h.bx,hE,h1,h2⟩
def ap.ok{r}(h:ap R N rb sb m s r w e w'){a}(hr:fin (ja s 0) r=.ok (a,k)):∃v,e=.returned v/\Ke rb w w'/\SX w' N rb sb m s k/\R w' (λb=>w.heap.size<=b) a v:=by grind[ap,fin]
def ap.bad{r}(h:ap R N rb sb m s r w e w'){f:Fl}(hr:fin (ja s 0) r=.error f):e=bW f/\Ke rb w w':=by grind[ap,fin]
def ap.fail{r}{f:Fl}(hK:Ke rb w w')(h:fin (ja s 0) r=.error f):ap R N rb sb m s r w (bW f) w':=⟨hK,by rw[h]⟩
def ap.stop{r}{mm}{g:β->M α}{f:Fl}(hE:r=aq mm g j)(hA:fin (ja s 0) (mm j)=.error f)(jU:∀a,aR (ja s 0)<|g a)(hK:Ke rb w w'):ap R N rb sb m s r w (bW f) w':=
 ap.fail hK (by rw[hE,b_ hA jU])
def ap.done{r}{a}{v:Value}(hE:r=.ok (a,k))(hK:Ke rb w w')(hS:SX w' N rb sb m s k)(hR:R w' (λb=>w.heap.size<=b) a v):ap R N rb sb m s r w (.returned v) w':=by
 refine⟨hK,?_⟩;rw[hE,lA _ hS.ok];exact⟨v,rfl,hS,hR⟩
def ap.go{f}{r}{mm}{g}{R':World->(Nat->Prop)->γ->Value->Prop}(hK:Hid (Ke rb w0 w))(hE:Hid (r=aq mm g j))(hC:Cq f args w (ap R N rb sb m s (mm j) w))(jU:∀a,aR (ja s 0)<|g a)(bad:∀f' w',ap R' N rb sb m s r w0 (bW f') w'->post (bW f') w')(ok:∀a k' v w',Hid (SX w' N rb sb m s k')->Hid (Ke rb w0 w')->Hid (r=g a k')->mm j=.ok (a,k')->w.heap.size<=w'.heap.size->Ke rb w w'->R w' (λb=>w.heap.size<=b) a v->post (.returned v) w'):Cq f args w post:=by
 refine hC.mono λe w' hp=>?_
 cases hA:fin (ja s 0) (mm j)with
 |error f'=>obtain⟨rfl,hb⟩:=hp.bad hA;exact bad f' w'<|ap.stop hE hA jU<|hK.trans hb
 |ok p=>obtain⟨a,k'⟩:=p;obtain⟨v,rfl,hb,hS,hR⟩:=hp.ok hA;exact ok a k' v w' hS (hK.trans hb) (hE.trans<|nj hA) (uN hA).1 hb.size hb hR
def cx.x{v:Value}(h:cx rb sb m s (tk (ja s 0) k) v w e w')(hX:SX w N rb sb m s k)(h7:(tk (ja s 0) k).kind≠7){a}(hR:R w' (λb=>w.heap.size<=b) a v):ap R N rb sb m s (.ok (a,k+1)) w e w':=by
 have⟨h1,h2,h3⟩:=Qv s k hX.lt h7;rw[cx]at h;rw[h2,<-h3]at h;refine⟨h.1,?_⟩;rw[fin];obtain⟨g1,g2,g3⟩|⟨g1,g2⟩:=h.2
 .simp only[if_neg g1];exact⟨v,g2,SX.of g3 (hX.ev.ke h.1) h1 g1,hR⟩
 .grind
theorem td(h:gp t)(hk:t.kind≠6){kd}(hs:kd.size<=5):((aw t).toList==kd.toList)=bh t kd:=by
 have hl:kd.toList.length<=5:=by rw[j8];simpa using hs
 have no:∀x:List UInt8,5<x.length->(x==kd.toList)=false:=λx hx=>by
  rw[beq_eq_false_iff_ne];intro e;rw[e]at hx;omega
 rw[bh];obtain h'|h'|h'|h'|h'|h'|h':=h.kd
 .rw[jK h',no _ qBe];simp[h']
 .rw[iq h',no _ qBe];simp[h']
 .rw[ir h',no _ qBe];simp[h']
 .rw[jL h',no _ qBe];simp[h']
 .rw[p7 h'];simp[h']
 .exact absurd h' hk
 .rw[jM h',no _ qBe];simp[h']
def Qy{p:Prop}(h:p:=by
 obtain h'|h'|h'|h'|h'|h'|h':=h.kd
 .rw[jK h'];simp[h',j8]
 .rw[iq h'];simp[h',j8]
 .rw[ir h'];simp[h',j8]
 .rw[jL h'];simp[h',j8]
 .rw[mx h hk aH h'];simp[h']
 .exact absurd h' hk
 .rw[jM h'];simp[h',j8]):p:=h
def Zl(h:gp t)(hk:t.kind≠6):((aw t).toList==Fh.toList)=(t.kind==1):=by
 exact Qy
def Zm(h:gp t)(hk:t.kind≠6):((aw t).toList==Nn.toList)=(t.kind==4):=by
 exact Qy
abbrev tkA(t:jc):Value:=.agg #[Nv t.ak,Nv t.to,.string<|aw t,.string t.text]
abbrev nmA(t:jc):Value:=.agg #[Nv t.ak,Nv t.to,.string t.text]
def Is{α:Type}u(_:World)(_:Nat->Prop)(_:α)(v:Value):=v=u
def Np(_:World)(_:Nat->Prop)(t:jc)v:=v=nmA t
def Jk(h:bh t c=true):t.kind≠7:=by grind[bh]
def Zn(h:SX w N rb sb m s k)(hs:s.size<=1000)c(hc:c.size<=5):Cq 97 #[rp rb,.string c] w (ap (Is<|tkA<|tk (ja s 0) k) N rb sb m s (bu (ja s 0) c k) w):=by
 have ho:=eM s k h.lt;have hk:=td ho h.ok hc
 cases hi:bh (tk (ja s 0) k) c with
 |true=>
  rw[hi]at hk;refine(kO h.rd hs (pd s k h.lt) c hk).mono λe w' hp=>?_;have lU:cx rb sb m s (tk (ja s 0) k) (dF<|tk (ja s 0) k) w e w':=hp;have:=lU.x (R:=Is<|tkA<|tk (ja s 0) k) h (Jk hi) (a:=()) rfl;rw[bu];rw[if_pos hi];exact this
 |false=>
  rw[hi]at hk;refine(Ff h.rd c hk h.ok).mono ?_;rintro e w'⟨rfl,hK⟩;exact ap.fail hK (by rw[bu];rw[hi];rfl)
def agT(h:SX w N rb sb m s k)(hs:s.size<=1000)c(hc:c.size<=5)(hi:bh (tk (ja s 0) k) c=true):Cq 104 #[rp rb,.string c] w (ap (Is<|.bool true) N rb sb m s (.ok ((),k+1)) w):=by
 have ho:=eM s k h.lt;have hk:=td ho h.ok hc;rw[hi]at hk;refine(Ze h.rd hs (pd s k h.lt) c hk).mono λe w' hp=>?_;have lU:cx rb sb m s (tk (ja s 0) k) (.bool true) w e w':=hp;exact lU.x (R:=Is<|.bool true) h (Jk hi) rfl
def agU(h:SX w N rb sb m s k)c(hc:c.size<=5)(hi:bh (tk (ja s 0) k) c=false):Cq 104 #[rp rb,.string c] w λe w'=>e=.returned (.bool false)/\w=w':=
 (adb h.rd c (by rw[td (eM s k h.lt) h.ok hc];exact hi)).mono λe w' q=>⟨q.1,q.2.symm⟩
def uJ(h:SX w N rb sb m s k)(hs:s.size<=1000)n c(hc:n=1/\c=Fh\/n=2/\c=I4):Cq 141 #[rp rb,.string c] w (ap Np N rb sb m s (db (ja s 0) n k) w):=by
 have ho:=eM s k h.lt;have hk:((aw<|tk (ja s 0) k).toList==c.toList)=((tk (ja s 0) k).kind==n):=by
  obtain⟨rfl,rfl⟩|⟨rfl,rfl⟩:=hc
  .exact Zl ho h.ok
  .exact Fg ho h.ok
 cases hi:((tk (ja s 0) k).kind==n)with
 |true=>
  rw[hi]at hk;have hn:(tk (ja s 0) k).kind=n:=qBl;refine(Nl h.rd hs (pd s k h.lt) c hk).mono λe w' hp=>?_;have:=hp.x (R:=Np) h (by obtain⟨rfl,_⟩|⟨rfl,_⟩:=hc<;>omega) (a:=tk (ja s 0) k) rfl;rw[db];rw[if_pos hi];exact this
 |false=>
  rw[hi]at hk;refine(ade h.rd c hk h.ok).mono ?_;rintro e w'⟨rfl,hK⟩;exact ap.fail hK (by rw[db];rw[hi];rfl)
def adg(h:SX w N rb sb m s k)i:Cq 105 #[rp rb,Iv i] w λe w'=>e=.returned (.agg #[Iv i,.int .i64 ((aS (ja s 0) k:Nat):Int)])/\Bq w w':=ada h.rd i
def Jl(g:Nat->α):aR T λk=>.ok (g k,k):=λ_ h=>dc _ h
theorem rI(T:List jc)n(hn:n≠6):aR T (db T n):=λk h=>by rw[db];rw[if_neg (by simp[h];omega)];rfl
end
def BQ(s:BA):=∃x r,s.toList=x::r/\Pu.gI x.toNat=true
def adh s:=0<s.size/\s.size<=9/\∀i,i<s.size->jf (ji s i)=true
structure ae_(t:jc):Prop where
 sp:t.to=t.ak+t.text.size
 v1:t.kind=1->BQ t.text
 v4:t.kind=4->adh t.text
def p8{p}:∀(d i j:Nat),j-i=d->i<=j->j<jd s p i->p (ji s j)=true:=by
 have hp6:∀i,i<jd s p i->i<s.size/\p (ji s i)=true:=λi h=>by
  by_cases hi:i<s.size
  .cases q:p (ji s i)with
   |true=>exact⟨hi,rfl⟩|false=>rw[Pu.th hi q]at h;omega
  .rw[Pu.mz ae]at h;omega
 intro d
 induction d with
 |zero=>grind|succ d ih=>
  intro i j h1 h2 h3;have bz:i<jd s p i:=ae;have⟨g1,g2⟩:=hp6 i bz;rw[Pu.fP g1 g2]at h3;exact ih (i+1) j ae ae h3
def Zo s i e j(he:e<=s.size)(hj:i+j<e):ji (s.extract i e) j=ji s (i+j):=by
 have h1:j<(s.extract i e).size:=qBo;rw[jh h1,jh ae];rw[ByteArray.getElem_extract]
def Jm s i(hi:i<s.size):ae_ (Pu.dr s i):=by
 have ht:=Pu.o8 s i hi;revert ht;rw[Pu.dr];have ex:∀k b:Nat,i<b->b<=s.size->(jj s i k b).to=(jj s i k b).ak+(jj s i k b).text.size:=λk b h1 h2=>by
  show b=i+(s.extract i b).size;rw[ByteArray.size_extract];omega
 repeat' split
 all_goals intro ht
 all_goals refine⟨ex _ _ ht.1 ht.2,?_,?_⟩
 all_goals intro q
 all_goals try(exfalso;simp[jj]at q;done)
 .rename_i h1 _;exact⟨_,_,jI hi ht.1,by rw[<-jh hi];exact h1⟩
 .rename_i h4 h5;have hto:jd s jf (i+1)<=s.size:=ht.2;have bz:i<jd s jf (i+1):=ht.1;have fW:(s.extract i<|jd s jf<|i+1).size=jd s jf (i+1)-i:=qBo;refine⟨by show 0<(s.extract i _).size;omega,by show(s.extract i _).size<=9;omega,λj hj=>?_⟩;have hj':j<(s.extract i<|jd s jf<|i+1).size:=hj;show jf (ji (s.extract i _) j)=true;rw[Zo s i _ j hto ae]
  cases j with
  |zero=>exact h4|succ j=>exact p8 j (i+1) (i+(j+1)) ae ae ae
def oX s k(hk:k<(ja s 0).length):ae_ (tk (ja s 0) k):=by
 rw[jJ s k hk];rw[aD];split
 .rename_i h;exact Jm s _ h
 .exact⟨by simp[Pu.fD];rfl,qBr,qBr⟩
inductive PP(w:World)(P:Nat->Prop):Nd->Value->Prop where
 |any(s:BA)(n f t a:Nat):PP w P (.mk 15 s n [] f t a) (.iface 337<|.agg #[Nv f,Nv t])
 |low(s:BA)(n f t a:Nat)(hs:BQ s):PP w P (.mk 1 s n [] f t a) (.iface 356<|.agg #[Nv f,Nv t,.string s])
 |num(s:BA)(n f t a:Nat):PP w P (.mk 3 s n [] f t a) (.iface 326<|.agg #[Nv f,Nv t,Nv n])
 |word(s:BA)(n f t a:Nat)(hs:s.toList=gd.toList\/s.toList=dH.toList):PP w P (.mk 4 s n [] f t a) (.iface 321<|.agg #[Nv f,Nv t,.bool<|s.toList==[116,114,117,101]])
 |unit(s:BA)(n f t a:Nat):PP w P (.mk 5 s n [] f t a) (.iface 324<|.agg #[Nv f,Nv t])
 |pr(s:BA)(n:Nat)(x y:Nd)(f t a:Nat)(vx vy:Value)(hx:PP w P x vx)(hy:PP w P y vy):PP w P (.mk 6 s n [x,y] f t a) (.iface 328<|.agg #[Nv f,Nv t,vx,vy])
 |up(s:BA)(n:Nat)(L:List Nd)(f t a y:Nat)(sa:Option Addr)(sc:Nat)(vs:Nat->Value)(hu:nY s)(hy:y=a+s.size)(aN:L=[]\/∃g,sa=some ⟨g,0,none⟩/\P g/\g<w.heap.size/\∀i,i<L.length->w.cell? ⟨g,i,none⟩=some (vs i))(hr:∀i(h:i<L.length),PP w P L[i]<|vs i):
  PP w P (.mk 2 s n L f t a) (.iface 307<|.agg #[Nv f,Nv t,Nv a,Nv y,.string s,.slice sa L.length sc])
inductive PE(w:World)(P:Nat->Prop):Nd->Value->Prop where
 |low(s:BA)(n f t a:Nat)(hs:BQ s):PE w P (.mk 1 s n [] f t a) (.iface 356<|.agg #[Nv f,Nv t,.string s])
 |up(s:BA)(n f t a:Nat)(hs:nY s):PE w P (.mk 2 s n [] f t a) (.iface 390<|.agg #[Nv f,Nv t,.string s])
 |num(s:BA)(n f t a:Nat):PE w P (.mk 3 s n [] f t a) (.iface 326<|.agg #[Nv f,Nv t,Nv n])
 |word(s:BA)(n f t a:Nat)(hs:s.toList=gd.toList\/s.toList=dH.toList):PE w P (.mk 4 s n [] f t a) (.iface 321<|.agg #[Nv f,Nv t,.bool<|s.toList==[116,114,117,101]])
 |unit(s:BA)(n f t a:Nat):PE w P (.mk 5 s n [] f t a) (.iface 324<|.agg #[Nv f,Nv t])
 |pr(s:BA)(n:Nat)(x y:Nd)(f t a:Nat)(vx vy:Value)(hx:PE w P x vx)(hy:PE w P y vy):PE w P (.mk 6 s n [x,y] f t a) (.iface 309<|.agg #[Nv f,Nv t,vx,vy])
 |of(s:BA)(n:Nat)(x y:Nd)(f t a:Nat)(vx vy:Value)(hx:PE w P x vx)(hy:PT w P y vy):PE w P (.mk 14 s n [x,y] f t a) (.iface 311<|.agg #[Nv f,Nv t,vx,vy])
 |op(s:BA)(n:Nat)(x y:Nd)(f t a:Nat)(vx vy:Value)(hs:s=kq\/s=fe\/s=gM\/s=eQ)(hx:PE w P x vx)(hy:PE w P y vy):PE w P (.mk 7 s n [x,y] f t a) (.iface 297<|.agg #[Nv f,Nv t,.string s,vx,vy])
 |call(s:BA)(n:Nat)(x y:Nd)(f t a:Nat)(vx vy:Value)(hx:PE w P x vx)(hy:PE w P y vy):PE w P (.mk 8 s n [x,y] f t a) (.iface 319<|.agg #[Nv f,Nv t,vx,vy])
 |fn(s:BA)(n:Nat)(x:Nd)(f t a y:Nat)(vx:Value)(hs:BQ s)(hy:y=a+s.size)(hx:PE w P x vx):PE w P (.mk 9 s n [x] f t a) (.iface 313<|.agg #[Nv f,Nv t,Nv a,Nv y,.string s,vx])
 |lt(c:Nat)(s:BA)(n:Nat)(x z:Nd)(f t a y:Nat)(vx vz:Value)(hc:c=10\/c=11)(hs:BQ s)(hy:y=a+s.size)(hx:PE w P x vx)(hz:PE w P z vz):PE w P (.mk c s n [x,z] f t a) (.iface 315<|.agg #[Nv f,Nv t,.bool<|c==11,Nv a,Nv y,.string s,vx,vz])
 |ite(s:BA)(n:Nat)(x y z:Nd)(f t a:Nat)(vx vy vz:Value)(hx:PE w P x vx)(hy:PE w P y vy)(hz:PE w P z vz):PE w P (.mk 12 s n [x,y,z] f t a) (.iface 317<|.agg #[Nv f,Nv t,vx,vy,vz])
 |mt(s:BA)(n:Nat)(x:Nd)(A:List (Nd×Nd))(f t a:Nat)(vx:Value)(g sc:Nat)(vp ve:Nat->Value)(h0:A≠[])(hg:P g)(hz:g<w.heap.size)(hc:∀i,i<A.length->(∃u v,w.cell? ⟨g,i*4,none⟩=some (Iv u)/\w.cell? ⟨g,i*4+1,none⟩=some (Iv v))/\w.cell? ⟨g,i*4+2,none⟩=some (vp i)/\w.cell? ⟨g,i*4+3,none⟩=some (ve i))(hx:PE w P x vx)(hp:∀i(h:i<A.length),PP w P A[i].1<|vp i)(he:∀i(h:i<A.length),PE w P A[i].2<|ve i):
  PE w P (.mk 13 s n (x::aU A) f t a) (.iface 201<|.agg #[Nv f,Nv t,vx,.slice (some ⟨g,0,none⟩) A.length sc])
section
variable {Q:Nat->Prop} {nd:Nd} {v:Value}
theorem PP.move(h:PP w P nd v)(hs:w.heap.size<=w'.heap.size)(hb:∀b,P b->b<w.heap.size->w'.heap[b]? =w.heap[b]?)(hq:∀b,P b->b<w.heap.size->Q b):PP w' Q nd v:=by
 induction h with
 |any s n f t a=>exact .any s n f t a|low s n f t a h=>exact .low s n f t a h|num s n f t a=>exact .num s n f t a|word s n f t a h=>exact .word s n f t a h|unit s n f t a=>exact .unit s n f t a|pr s n x y f t a vx vy _ _ dR im=>exact .pr s n x y f t a vx vy dR im|up s n L f t a y sa sc vs hu hy aN hr ih=>
  refine .up s n L f t a y sa sc vs hu hy ?_ ih;obtain h0|⟨g,h1,hP,hz,hc⟩:=aN
  .exact j9 h0
  .refine qe ⟨g,h1,hq g hP hz,jm hz hs,λi hi=>?_⟩;rw[qi (a:=⟨g,i,none⟩) (w:=w)<|hb g hP hz];exact hc i hi
def PP.af(h:PP w P nd v)(hb:Bq w w'):PP w' P nd v:=h.move hb.size (λb _ hz=>hb.block b hz)<|λ_ p _=>p
def PP.wide(h:PP w P nd v)(hq:∀b,P b->Q b):PP w Q nd v:=h.move (br _) (λ_ _ _=>rfl)<|λb p _=>hq b p
def PP.iface(h:PP w P nd v):∃t x,v=.iface t (.agg x):=by cases h<;>exact⟨_,_,rfl⟩
theorem PE.move(h:PE w P nd v)(hs:w.heap.size<=w'.heap.size)(hb:∀b,P b->b<w.heap.size->w'.heap[b]? =w.heap[b]?)(hq:∀b,P b->b<w.heap.size->Q b):PE w' Q nd v:=by
 induction h with
 |low s n f t a h=>exact .low s n f t a h|up s n f t a h=>exact .up s n f t a h|num s n f t a=>exact .num s n f t a|word s n f t a h=>exact .word s n f t a h|unit s n f t a=>exact .unit s n f t a|pr s n x y f t a vx vy _ _ dR im=>exact .pr s n x y f t a vx vy dR im|of s n x y f t a vx vy _ hy dR=>exact .of s n x y f t a vx vy dR (hy.move hs hb hq)|op s n x y f t a vx vy ho _ _ dR im=>exact .op s n x y f t a vx vy ho dR im|call s n x y f t a vx vy _ _ dR im=>exact .call s n x y f t a vx vy dR im|fn s n x f t a y vx h1 h2 _ ih=>exact .fn s n x f t a y vx h1 h2 ih|lt c s n x z f t a y vx vz h1 h2 h3 _ _ dR Yd=>exact .lt c s n x z f t a y vx vz h1 h2 h3 dR Yd|ite s n x y z f t a vx vy vz _ _ _ dR im Yd=>exact .ite s n x y z f t a vx vy vz dR im Yd|mt s n x A f t a vx g sc vp ve h0 hg hz hc _ hp _ dR ihe=>
  have c:∀j,w'.cell? ⟨g,j,none⟩=w.cell? ⟨g,j,none⟩:=λj=>qi (a:=⟨g,j,none⟩)<|hb g hg hz;refine .mt s n x A f t a vx g sc vp ve h0 (hq g hg hz) (jm hz hs) (λi hi=>?_) dR (λi hi=>(hp i hi).move hs hb hq) ihe;rw[c,c,c,c];exact hc i hi
def PE.af(h:PE w P nd v)(hb:Bq w w'):PE w' P nd v:=h.move hb.size (λb _ hz=>hb.block b hz)<|λ_ p _=>p
def PE.wide(h:PE w P nd v)(hq:∀b,P b->Q b):PE w Q nd v:=h.move (br _) (λ_ _ _=>rfl)<|λb p _=>hq b p
def PE.iface(h:PE w P nd v):∃t x,v=.iface t (.agg x):=by cases h<;>exact⟨_,_,rfl⟩
end
def eW s n:=∀(w:World)(N rb sb:Nat)(m:MV)(k:Nat),SX w N rb sb m s k->(ja s 0).length<=k+n->
 Cq 249 #[rp rb] w (ap PE N rb sb m s (bO (ja s 0) n k) w)
def BO s n:=∀(w:World)(N rb sb:Nat)(m:MV)(k:Nat),SX w N rb sb m s k->(ja s 0).length<=k+n->
 Cq 253 #[rp rb] w (ap PP N rb sb m s (du (ja s 0) n k) w)
def np rb f:Cq 203 #[rp rb,oY f rb] w λe w'=>∃x y,e=.returned (UO x y)/\w.heap.size<=x/\w.heap.size<=y/\Bx w' x #[rp rb]/\Bx w' y #[oY f rb]/\Bq w w':=by
 go_enter func203,ntmps203
 go_wp2
 go_ret;refine⟨w.heap.size,w.heap.size+1,rfl,br _,Nat.le_succ _,(Bx.new w #[rp rb] _).alloc _,?_,(bw _).alloc ag _⟩;have:=Bx.new (w.alloc<|Cv #[rp rb] 153) #[oY f rb] 355;simpa using this
def Zp rb:(Cq 126 #[rp rb] w λe w'=>∃b,e=.returned (Mv b)/\w.heap.size<=b/\MS j6 w' b (Jj rb)/\Bq w w')/\
 Cq 127 #[rp rb] w λe w'=>∃b,e=.returned (Mv b)/\w.heap.size<=b/\MS j6 w' b (Qx rb)/\Bq w w':=by
 have H:=Ma.new (w:=w);have HB:=(qk w.heap.size w).alloc (br _)<|.map #[] 0;have jB:= @run_makeMap jv;refine⟨?_,?_⟩;all_goals
  first|go_enter func126,ntmps126|go_enter func127,ntmps127
  go_wp2_with((refine aV _ rfl _ _ _ _ (j9 rfl) (KL.str jx) (by first|exact Tryz.underlying232|exact jy) _ _ rfl H _ _ rfl rfl trivial (λ_ _=>trivial) ?_;clear H;intro w' H' O';have H:=ai H';have HB:=ai<|One.below HB O' qbr;clear H' O'));go_ret;exact⟨_,rfl,br _,H,HB⟩
def Zq rb:(Cq 128 #[rp rb] w λe w'=>∃b x,e=.returned (Mv b)/\w.heap.size<=b/\w.heap.size<=x/\Bx w' x #[rp rb]/\MS j6 w' b (s_ rb x)/\Bq w w')/\
 Cq 129 #[rp rb] w λe w'=>∃b x,e=.returned (Mv b)/\w.heap.size<=b/\w.heap.size<=x/\Bx w' x #[rp rb]/\MS j6 w' b (rG rb x)/\Bq w w':=by
 have H:Hid (MS Sv ((w.alloc<|Cv #[rp rb] 153).alloc<|.map #[] 0) (w.heap.size+1) []):=ai (by have:=Ma.new (w:=w.alloc<|Cv #[rp rb] 153);simpa using this);have HB:=ai<|((qk w.heap.size w).alloc (br _)<|Cv #[rp rb] 153).alloc ag<|.map #[] 0;have B0:=ai<|(Bx.new w #[rp rb] 153).alloc<|.map #[] 0;have⟨c0,f0,z0⟩:=uh B0;have jB:= @run_makeMap jv;refine⟨?_,?_⟩;all_goals
  first|go_enter func128,ntmps128|go_enter func129,ntmps129
  go_wp2_with((refine aV _ rfl _ _ _ _ (j9 rfl) (KL.str jx) (by first|exact jy|exact j5) _ _ rfl H _ _ rfl rfl trivial (λ_ _=>trivial) ?_;clear H;intro w' H' O';have H:=ai H';have HB:=ai<|One.below HB O' ag;have B0:=ai<|B0.one O' ag;have⟨c0,f0,z0⟩:=uh B0;clear H' O'));go_ret;exact⟨_,_,rfl,ag,br _,B0,H,HB⟩
def Zr rb:(Cq 131 #[rp rb] w λe w'=>∃b x0 y0,e=.returned (Mv b)/\w.heap.size<=b/\Bx w' x0 #[rp rb]/\Bx w' y0 #[oY 204 rb]/\w.heap.size<=x0/\w.heap.size<=y0/\MS j6 w' b [(eQ,UO x0 y0)]/\Bq w w')/\
 Cq 133 #[rp rb] w λe w'=>∃b x0 y0,e=.returned (Mv b)/\w.heap.size<=b/\Bx w' x0 #[rp rb]/\Bx w' y0 #[oY 206 rb]/\w.heap.size<=x0/\w.heap.size<=y0/\MS j6 w' b [(gM,UO x0 y0)]/\Bq w w':=by
 have H:=Ma.new (w:=w);have HB:=(qk w.heap.size w).alloc (br _)<|.map #[] 0;have jB:= @run_makeMap jv;refine⟨?_,?_⟩;all_goals
  first|go_enter func131,ntmps131|go_enter func133,ntmps133
  go_wp2_with fail;first|refine(np rb 204).mono ?_|refine(np rb 206).mono ?_
  intro e w1 hp;obtain⟨x0,y0,rfl,hlx,Zs,X0,Y0,hb⟩:=hp;have lx0:=jm H.lt hlx;have ly0:=jm H.lt Zs;have H:=H.below hb;have HB:=HB.trans<|hb.mono HB.size;go_wp2_with(refine aV _ rfl _ _ _ _ (j9 rfl) (KL.str jx) jz _ _ rfl H _ _ rfl rfl trivial (λ_ _=>trivial) ?_;clear H;intro w' H' O';have H:=ai H';have HB:=ai<|One.below HB O' qbr;have X0:=ai<|X0.one O'<|jp lx0;have Y0:=ai<|Y0.one O'<|jp ly0;clear H' O');go_ret;exact⟨_,_,_,rfl,br _,X0,Y0,jq lx0,jq ly0,H,HB⟩
def Nq rb:Cq 132 #[rp rb] w λe w'=>∃b x0 y0 x1 y1,e=.returned (Mv b)/\w.heap.size<=b/\Bx w' x0 #[rp rb]/\Bx w' y0 #[oY 205 rb]/\w.heap.size<=x0/\w.heap.size<=y0/\Bx w' x1 #[rp rb]/\Bx w' y1 #[oY 205 rb]/\w.heap.size<=x1/\w.heap.size<=y1/\MS j6 w' b [(kq,UO x0 y0),(fe,UO x1 y1)]/\Bq w w':=by
 have H:=Ma.new (w:=w);have HB:=(Below.refl w.heap.size w).alloc (br _)<|.map #[] 0;have jB:= @run_makeMap Tryz.prog;go_enter func132,ntmps132;go_wp2_with fail;refine(np rb 205).mono ?_;intro e w1 hp;obtain⟨x0,y0,rfl,hlx,Zs,hx,hy,hb⟩:=hp;have lx0:=Nat.lt_of_lt_of_le H.lt hlx;have ly0:=Nat.lt_of_lt_of_le H.lt Zs;have X0:=ai hx;have Y0:=ai hy;have H:=H.below hb;have HB:=HB.trans<|hb.mono HB.size;go_wp2_with(refine aV _ rfl _ _ _ _ (Or.inl rfl) (KL.str Tryz.underlying227) Tryz.underlying236 _ _ rfl H _ _ rfl rfl trivial (λ_ _=>trivial) ?_;clear H;intro w' H' O';have H:=ai H';have HB:=ai<|One.below HB O' qbr;have X0:=ai<|X0.one O'<|Nat.ne_of_gt lx0;have Y0:=ai<|Y0.one O'<|Nat.ne_of_gt ly0;clear H' O');refine(np rb 205).mono ?_;intro e w2 hp;obtain⟨x1,y1,rfl,hlx,Zs,X1,Y1,hb⟩:=hp;have lx1:=Nat.lt_of_lt_of_le H.lt hlx;have ly1:=Nat.lt_of_lt_of_le H.lt Zs;have X0:=X0.below hb;have Y0:=Y0.below hb;have H:=H.below hb;have HB:=HB.trans<|hb.mono HB.size
 go_wp2_with(refine aV _ rfl _ _ _ _ (j9 rfl) (KL.str jx) jz _ _ rfl H _ _ rfl rfl trivial (λ_ _=>trivial) ?_;clear H;intro w' H' O';have H:=ai H';have HB:=ai<|One.below HB O' qbr;have X0:=ai<|X0.one O'<|jp lx0;have Y0:=ai<|Y0.one O'<|jp ly0;have X1:=ai<|X1.one O'<|jp lx1;have Y1:=ai<|Y1.one O'<|jp ly1;clear H' O');go_ret;exact⟨_,_,_,_,_,rfl,br _,X0,Y0,jq lx0,jq ly0,X1,Y1,jq lx1,jq ly1,H,HB⟩
def qO w rb(ms:List (Nat×List (BA×Value)))(bs:List (Nat×Array Value)):=
 (∀p∈ms,p.1≠rb/\MS j6 w p.1 p.2)/\∀q∈bs,q.1≠rb/\Bx w q.1 q.2
section
variable {ms:List (Nat×List (BA×Value))} {bs:List (Nat×Array Value)}
def qO.ke(h:qO w rb ms bs)(hk:Ke rb w w'):qO w' rb ms bs:=
 ⟨λp q=>⟨(h.1 p q).1,(h.1 p q).2.same<|hk.block _ (h.1 p q).2.lt (h.1 p q).1⟩,λp q=>⟨(h.2 p q).1,(h.2 p q).2.ke hk (h.2 p q).1⟩⟩
def qO.m(h:qO w rb ms bs){b}(hn:rb<b)(hm:MS j6 w b L):qO w rb ((b,L)::ms) bs:=by grind[qO,bs,MS]
def qO.b(h:qO w rb ms bs){b}(hn:rb<b)(hm:Bx w b C):qO w rb ms ((b,C)::bs):=by grind[qO,bs]
def qO.map(h:qO w rb ms bs){b}(hm:(b,L)∈ms):ph w w.heap.size rb (Mv b) L:=⟨b,rfl,(h.1 _ hm).2.lt,(h.1 _ hm).1,(h.1 _ hm).2⟩
def qO.box(h:qO w rb ms bs){b}(hm:(b,C)∈bs):gT w w.heap.size rb b C:=⟨(h.2 _ hm).2.z,(h.2 _ hm).1,(h.2 _ hm).2⟩
end
def ajl s w e w':=
 Bq w w'/\(((aD s 0).kind≠6/\e=.returned (rp w.heap.size)/\∃N sb m,Bx w' w.heap.size (rdC s (aD s 0) 0 m sb)/\Env w' N w.heap.size sb m)\/((aD s 0).kind=6/\e=bW (dM<|aD s 0)))
def Fi rb:Cq 130 #[rp rb] w λe w'=>∃b,e=.returned (Mv b)/\w.heap.size<=b/\MS j6 w' b (smL rb)/\Bq w w':=BZ _
def Jn(h:Laid w)s(hs:s.size<=1000):Cq 96 #[.string s] w (ajl s w):=by
 have B:=ai<|Bx.new w (zRd s) 238;have HB:=(Below.refl w.heap.size w).alloc (br _)<|Cv (zRd s) 238;have HL:=ai h;have HH:qO (w.alloc<|Cv (zRd s) 238) w.heap.size [] []:=⟨λp q=>absurd q ag,λp q=>absurd q ag⟩;have⟨c,f,z⟩:=uh B;have E:∀W,Laid W->Cq 134 #[Sv s,Iv 0] W (eI (aD s 0) W):=λW hW=>Jf hW s 0 (Nat.zero_le _) hs;have df:∀W:World,Bq w W->Laid W:=λW h=>HL.af h;have hz:=HL.hz;unfold ajl;generalize aD s 0=T at E⊢;go_enter func96,ntmps96;go_wp2_with fail;have zb0:=B.z;refine(Zp w.heap.size).1.mono ?_;intro e w1 hp;obtain⟨b0,rfl,le0,hM,hb⟩:=hp;have HH:=(HH.ke<|Ke.of hb).m (Nat.lt_of_lt_of_le zb0 le0) hM;have HB:=HB.trans<|hb.mono HB.size;have B:=ai<|B.below hb;have⟨c,f,z⟩:=uh B;go_wp2_with fail;have B:=ai<|B.aP 6 (Mv b0) (#[Sv s,Iv 0,Iv 0,Sv ⟨#[]⟩,Sv ⟨#[]⟩,Iv 0,Mv b0,.map none,.map none,.map none,.map none,.map none,.map none,.map none]) rfl ag;have HB:=HB.setCell (p:=⟨w.heap.size,6,none⟩) (br _)<|Mv b0;have HH:=HH.ke<|Ke.Je _ _ 6<|Mv b0;have zb1:=B.z;refine(Zp w.heap.size).2.mono ?_;intro e w1 hp;obtain⟨b1,rfl,le1,hM,hb⟩:=hp;have HH:=(HH.ke<|Ke.of hb).m (Nat.lt_of_lt_of_le zb1 le1) hM;have HB:=HB.trans<|hb.mono HB.size;have B:=ai<|B.below hb;have⟨c,f,z⟩:=uh B;go_wp2_with fail
 have B:=ai<|B.aP 7 (Mv b1) (#[Sv s,Iv 0,Iv 0,Sv ⟨#[]⟩,Sv ⟨#[]⟩,Iv 0,Mv b0,Mv b1,.map none,.map none,.map none,.map none,.map none,.map none]) rfl ag;have HB:=HB.setCell (p:=⟨w.heap.size,7,none⟩) (br _)<|Mv b1;have HH:=HH.ke<|qf _ _ 7<|Mv b1;have zb2:=B.z;refine(Zq w.heap.size).1.mono ?_;intro e w1 hp;obtain⟨b2,x2,rfl,le2,lx2,hx,hM,hb⟩:=hp;have HH:=((HH.ke<|qg hb).m (jm zb2 le2) hM).b (jm zb2 lx2) hx;have HB:=HB.trans<|hb.mono HB.size;have B:=ai<|B.below hb;have⟨c,f,z⟩:=uh B;go_wp2_with fail;have B:=ai<|B.aP 8 (Mv b2) (#[Sv s,Iv 0,Iv 0,Sv ⟨#[]⟩,Sv ⟨#[]⟩,Iv 0,Mv b0,Mv b1,Mv b2,.map none,.map none,.map none,.map none,.map none]) rfl ag;have HB:=HB.setCell (p:=⟨w.heap.size,8,none⟩) (br _)<|Mv b2;have HH:=HH.ke<|qf _ _ 8<|Mv b2;have zb3:=B.z;refine(Zq w.heap.size).2.mono ?_;intro e w1 hp;obtain⟨b3,x3,rfl,le3,lx3,hx,hM,hb⟩:=hp;have HH:=((HH.ke<|qg hb).m (jm zb3 le3) hM).b (jm zb3 lx3) hx;have HB:=HB.trans<|hb.mono HB.size;have B:=ai<|B.below hb;have⟨c,f,z⟩:=uh B;go_wp2_with fail;have B:=ai<|B.aP 9 (Mv b3) (#[Sv s,Iv 0,Iv 0,Sv ⟨#[]⟩,Sv ⟨#[]⟩,Iv 0,Mv b0,Mv b1,Mv b2,Mv b3,.map none,.map none,.map none,.map none]) rfl ag;have HB:=HB.setCell (p:=⟨w.heap.size,9,none⟩) (br _)<|Mv b3;have HH:=HH.ke<|qf _ _ 9<|Mv b3;have zb4:=B.z
 refine(Fi w.heap.size).mono ?_;intro e w1 hp;obtain⟨b4,rfl,le4,hM,hb⟩:=hp;have HH:=(HH.ke<|qg hb).m (jm zb4 le4) hM;have HB:=HB.trans<|hb.mono HB.size;have B:=ai<|B.below hb;have⟨c,f,z⟩:=uh B;go_wp2_with fail;have B:=ai<|B.aP 10 (Mv b4) (#[Sv s,Iv 0,Iv 0,Sv ⟨#[]⟩,Sv ⟨#[]⟩,Iv 0,Mv b0,Mv b1,Mv b2,Mv b3,Mv b4,.map none,.map none,.map none]) rfl ag;have HB:=HB.setCell (p:=⟨w.heap.size,10,none⟩) (br _)<|Mv b4;have HH:=HH.ke<|qf _ _ 10<|Mv b4;have zb5:=B.z;refine(Zr w.heap.size).1.mono ?_;intro e w1 hp;obtain⟨b5,x5,y5,rfl,le5,hx,hy,lx,ly,hM,hb⟩:=hp;have HH:=(((HH.ke<|qg hb).m (jm zb5 le5) hM).b (jm zb5 lx) hx).b (jm zb5 ly) hy;have HB:=HB.trans<|hb.mono HB.size;have B:=ai<|B.below hb;have⟨c,f,z⟩:=uh B;go_wp2_with fail;have B:=ai<|B.aP 11 (Mv b5) (#[Sv s,Iv 0,Iv 0,Sv ⟨#[]⟩,Sv ⟨#[]⟩,Iv 0,Mv b0,Mv b1,Mv b2,Mv b3,Mv b4,Mv b5,.map none,.map none]) rfl ag;have HB:=HB.setCell (p:=⟨w.heap.size,11,none⟩) (br _)<|Mv b5;have HH:=HH.ke<|qf _ _ 11<|Mv b5;have zb6:=B.z;refine(Nq w.heap.size).mono ?_;intro e w1 hp;obtain⟨b6,x6,y6,u6,v6,rfl,le6,hx,hy,lx,ly,hu,hv,lu,lv,hM,hb⟩:=hp
 have HH:=(((((HH.ke<|qg hb).m (jm zb6 le6) hM).b (jm zb6 lx) hx).b (jm zb6 ly) hy).b (jm zb6 lu) hu).b (jm zb6 lv) hv;have HB:=HB.trans<|hb.mono HB.size;have B:=ai<|B.below hb;have⟨c,f,z⟩:=uh B;go_wp2_with fail;have B:=ai<|B.aP 12 (Mv b6) (#[Sv s,Iv 0,Iv 0,Sv ⟨#[]⟩,Sv ⟨#[]⟩,Iv 0,Mv b0,Mv b1,Mv b2,Mv b3,Mv b4,Mv b5,Mv b6,.map none]) rfl ag;have HB:=HB.setCell (p:=⟨w.heap.size,12,none⟩) (br _)<|Mv b6;have HH:=HH.ke<|qf _ _ 12<|Mv b6;have zb7:=B.z;refine(Zr w.heap.size).2.mono ?_;intro e w1 hp;obtain⟨b7,x7,y7,rfl,le7,hx,hy,lx,ly,hM,hb⟩:=hp;have HH:=(((HH.ke<|qg hb).m (jm zb7 le7) hM).b (jm zb7 lx) hx).b (jm zb7 ly) hy;have HB:=HB.trans<|hb.mono HB.size;have B:=ai<|B.below hb;have⟨c,f,z⟩:=uh B;go_wp2_with fail;have B:=ai<|B.aP 13 (Mv b7) (#[Sv s,Iv 0,Iv 0,Sv ⟨#[]⟩,Sv ⟨#[]⟩,Iv 0,Mv b0,Mv b1,Mv b2,Mv b3,Mv b4,Mv b5,Mv b6,Mv b7]) rfl ag;have HB:=HB.setCell (p:=⟨w.heap.size,13,none⟩) (br _)<|Mv b7;have HH:=HH.ke<|qf _ _ 13<|Mv b7;refine(E _<|df _ HB).mono ?_;intro e w9 hp;by_cases hk:T.kind=6
 .obtain⟨rfl,hb⟩:=hp.bad hk;have HB:=HB.trans<|hb.mono HB.size;exact⟨rfl,HB,qe ⟨hk,by rw[ae9 T hk];rfl⟩⟩
 .obtain⟨rfl,hb⟩:=hp.ok hk;have HB:=HB.trans<|hb.mono HB.size;have B:=ai<|B.below hb;have HH:=HH.ke<|qg hb;have⟨c,f,z⟩:=uh B
  go_wp2
  go_ret;have eA:=(((HB.setCell (p:=⟨w.heap.size,1,none⟩) (br _)<|Nv T.ak).setCell (p:=⟨w.heap.size,2,none⟩) (br _)<|Nv T.to).setCell (p:=⟨w.heap.size,3,none⟩) (br _)<|Sv<|aw T).setCell (p:=⟨w.heap.size,4,none⟩) (br _)<|Sv T.text;have Bs:=((((HH.ke<|qf _ _ 1<|Nv T.ak).ke<|qf _ _ 2<|Nv T.to).ke<|qf _ _ 3<|Sv<|aw T).ke<|qf _ _ 4<|Sv T.text);have B2:=B.Zc (Nv T.ak) (Nv T.to) (Sv<|aw T)<|Sv T.text;generalize(((w9.setCell ⟨w.heap.size,1,none⟩<|Nv T.ak).setCell ⟨w.heap.size,2,none⟩<|Nv T.to).setCell ⟨w.heap.size,3,none⟩<|Sv<|aw T).setCell ⟨w.heap.size,4,none⟩ (Sv T.text)=W at eA Bs B2⊢;have sm4:=Bs.map (b:=b4) (L:=smL w.heap.size)<|jk _<|jk _<|jk _<|jl _;obtain⟨_,q1,q2,q3,q4⟩:=sm4
  cases q1
  refine⟨eA,j9 ⟨hk,rfl,W.heap.size,b4,⟨Mv b0,Mv b1,Mv b2,Mv b3,Mv b5,Mv b6,Mv b7⟩,B2,q4,df _ eA,hz,B2.z,q2,q3,br _,?_⟩⟩
  exact⟨Bs.map<|jk _<|jk _<|jk _<|jk _<|jk _<|jk _<|jk _<|jl _,Bs.map<|jk _<|jk _<|jk _<|jk _<|jk _<|jk _<|jl _,⟨x2,Bs.box<|jk _<|jk _<|jk _<|jk _<|jk _<|jk _<|jk _<|jk _<|jk _<|jl _,Bs.map<|jk _<|jk _<|jk _<|jk _<|jk _<|jl _⟩,⟨x3,Bs.box<|jk _<|jk _<|jk _<|jk _<|jk _<|jk _<|jk _<|jk _<|jl _,Bs.map<|jk _<|jk _<|jk _<|jk _<|jl _⟩,⟨x5,y5,Bs.box<|jk _<|jk _<|jk _<|jk _<|jk _<|jk _<|jk _<|jl _,Bs.box<|jk _<|jk _<|jk _<|jk _<|jk _<|jk _<|jl _,Bs.map<|jk _<|jk _<|jl _⟩,⟨x6,y6,u6,v6,Bs.box<|jk _<|jk _<|jk _<|jk _<|jk _<|jl _,Bs.box<|jk _<|jk _<|jk _<|jk _<|jl _,Bs.box<|jk _<|jk _<|jk _<|jl _,Bs.box<|jk _<|jk _<|jl _,Bs.map<|jk _<|jl _⟩,⟨x7,y7,Bs.box<|jk _<|jl _,Bs.box<|jl _,Bs.map<|jl _⟩⟩
end
def Jo w e s:Bq w (Lib.bytesWorld w e s):=by
 refine⟨?_,?_,?_,by rw[Lib.bytesWorld_size];omega,λb hb=>Lib.bytesWorld_at_old w e s b hb⟩;all_goals(simp[Lib.bytesWorld,World.freeze];try rfl)
def adi s(h:adh s):Cq 274 #[.string s] w λe w'=>e=.returned (.tuple #[Nv<|yQ s,.nilIface])/\Bq w w':=by
 obtain⟨h0,h9,hd⟩:=h;have hcv:=Lib.run_convert_string_bytes (P:=Tryz.prog) w 9 108 5 s Tryz.underlying9 Tryz.underlying108 Tryz.underlying5;have hb:=Jo w 5 s;have b8:=λj hj=>Lib.bytesWorld_cell w 5 s j hj;have l0:(0:Int)<(s.size:Int):=ae;have l1:(s.size:Int)<19:=ae;have a0:=hd 0 h0;rw[Pu.o_ h0]at a0;simp only[Pu.dV,Bool.and_eq_true,Nat.ble_eq]at a0;have e1:((s[0].toNat:Int)==45)=false:=bP;have e2:((s[0].toNat:Int)==43)=false:=bP;generalize Lib.bytesWorld w 5 s=W at hcv hb b8;generalize grownCap w s.size 0 5=C at hcv;go_enter func274,ntmps274
 go_wp2
 go_loop[6,49] (λn i=>∃k:Nat,k<=s.size/\i=Nv k/\n=Nv (xH s k)) (λ_ i=>s.size-(intOf i).toNat)
 case atStart=>exact⟨0,ae,rfl,rfl⟩
 case round=>
  obtain⟨k,h1,rfl,rfl⟩:=hrel;have hn:=adj s k ae;by_cases ha:k<s.size
  .have hc:=b8 k ha;have dk:=hd k ha;have ek:s.data.toList.getD k 0=s[k]:=by
    rw[List.getD_eq_getElem?_getD,List.getElem?_eq_getElem<|by simpa using ha];rfl
   rw[ek]at hc;rw[jh ha]at dk;simp only[jf,qh,Nat.ble_eq]at dk;have bz:(k:Int)<(s.size:Int):=ae;clear b8
   go_wp2
   refine⟨⟨k+1,ae,jT,congrArg (Value.int .i64) ?_⟩,by simp[intOf];omega⟩;simp only[xH,jh ha];omega
  .have bz:decide ((k:Int)<(s.size:Int))=false:=bP;clear b8
   go_wp2
   go_ret2;have ek:k=s.size:=ae;refine⟨?_,hb⟩;show Rv (.tuple #[Nv<|xH s k,Zv])=_;rw[yQ];rw[show min s.size 9=k by omega]
def agV w:(binOp .neq 290 .nilIface .nilIface).run jv w=.ok (.bool false) w:=qkr
def agW s(h:adh s):Cq 252 #[.string s] w λe w'=>e=.returned (.tuple #[Nv<|yQ s,.nilIface])/\Bq w w':=by
 have HC:=adi (w:=w) s h;have hn:=agV;go_enter func252,ntmps252;go_wp2_with fail;refine HC.mono ?_;rintro e w1⟨rfl,hb⟩
 go_wp2
 go_ret2;exact⟨rfl,hb⟩
section
open Go.ChangeMaps
section
variable {m:MV}
def SX.set(h:SX w N rb sb m s k){b:Nat}(hb:N<=b)j v:SX (w.setCell ⟨b,j,none⟩ v) N rb sb m s k:=
 h.move C9 λc hc=>ql _ _ _ _ (by show c≠b;omega)
def SX.UM(h:SX w N rb sb m s k){b:Nat}(hb:N<=b)v0 v1 v2:SX (((w.setCell ⟨b,0,none⟩ v0).setCell ⟨b,1,none⟩ v1).setCell ⟨b,2,none⟩ v2) N rb sb m s k:=((h.set hb 0 v0).set hb 1 v1).set hb 2 v2
def Zt(h:SX w N rb sb m s k)(hs:s.size<=1000)(h7:(tk (ja s 0) k).kind≠7):Cq 136 #[rp rb] w (ap (Is<|tkA<|tk (ja s 0) k) N rb sb m s (.ok ((),k+1)) w):=
 (zX h.rd hs<|pd s k h.lt).mono λe w' hp=>by
  have lU:cx rb sb m s (tk (ja s 0) k) (dF<|tk (ja s 0) k) w e w':=hp;exact lU.x (R:=Is<|tkA<|tk (ja s 0) k) h h7 rfl
def UP(h:SX w N rb sb m s k)(hs:s.size<=1000)(h4:(tk (ja s 0) k).kind=4):Cq 97 #[rp rb,.string Nn] w (ap (Is<|tkA<|tk (ja s 0) k) N rb sb m s (.ok ((),k+1)) w):=by
 have hk:=Zm (eM s k h.lt) h.ok;rw[h4]at hk;refine(kO h.rd hs (pd s k h.lt) Nn<|by simpa using hk).mono λe w' hp=>?_;have lU:cx rb sb m s (tk (ja s 0) k) (dF<|tk (ja s 0) k) w e w':=hp;exact lU.x (R:=Is<|tkA<|tk (ja s 0) k) h ae rfl
def tj{k}(h:(tk T k).kind=n):db T n k=.ok (tk T k,k+1):=by grind[tk,db]
def tn{k}c(h:bH (tk T k)=c):cE (tk T k)=.mk c (tk T k).text (eG<|tk T k) [] (tk T k).ak (tk T k).to (tk T k).ak:=by rw[cE];rw[h]
def UQ(h:SX w N rb sb m s k)(hs:s.size<=1000):Cq 185 #[rp rb] w (ap Np N rb sb m s (db (ja s 0) 1 k) w):=by
 have hz:=h.z;have hN:=h.ev.hN;have⟨b0,B0⟩:=sd w zNm 356;have HC:=uJ (h.af b0) hs 1 Fh<|Or.inl ⟨rfl,rfl⟩;go_enter func185,ntmps185;go_wp2_with fail;refine HC.mono ?_;intro e w1 hp
 cases hA:fin (ja s 0) (db (ja s 0) 1 k)with
 |error f=>
  obtain⟨rfl,hb⟩:=hp.bad hA;exact⟨rfl,ap.fail ((qg b0).trans hb) hA⟩
 |ok r=>
 obtain⟨t,k1⟩:=r;obtain⟨v,rfl,hb,hS,hR⟩:=hp.ok hA
 cases hR
 have B1:=ai<|(B0.xG hb ae).alloc<|Cv #[Nv t.ak,Nv t.to,Sv t.text] 133;have K1:=((qg b0).trans hb).fC<|bw<|Cv #[Nv t.ak,Nv t.to,Sv t.text] 133;have S1:=hS.af<|bw<|Cv #[Nv t.ak,Nv t.to,Sv t.text] 133;have bz:=hb.size;simp at bz;have⟨c,f,z⟩:=uh B1;go_wp2_with fail;have⟨cF,fF,zF⟩:=B1.oZ rfl (Nv t.ak) (Nv t.to) (Sv t.text);exact bodyPost_ret (v:=nmA t) (by simp[results,Tryz.results185,go_sem,cF]) rfl (ap.done (uN hA).1 (K1.sZ (br _) _ _ _) (S1.UM hN _ _ _) rfl)
def tq{p:Prop}(h:p:=by
 obtain⟨rfl,hb⟩:=hp.bad<|dc _ h6
 exact⟨rfl,ap.fail hb<|dc _ h6⟩):p:=h
def afa(h:SX w N rb sb m s k)(hs:s.size<=1000)(hk:(tk (ja s 0) k).kind=2):(Cq 186 #[rp rb] w<|ap PE N rb sb m s (.ok (cE<|tk (ja s 0) k,k+1)) w)/\
 Cq 195 #[rp rb] w (ap PP N rb sb m s (.ok (cE<|tk (ja s 0) k,k+1)) w):=by
 have hi:=oX s k h.lt;have ho:=eM s k h.lt;have HC:=uJ h hs 2 I4<|qe ⟨rfl,rfl⟩;have WS:=hY;refine⟨?_,?_⟩;all_goals
  first|go_enter func186,ntmps186|go_enter func195,ntmps195
  go_wp2_with fail;refine HC.mono ?_;intro e w1 hp;have hm:=tj hk;rw[hm]at hp;by_cases h6:(tk (ja s 0)<|k+1).kind=6
  .exact tq
  obtain⟨v,rfl,hb,hS,hR⟩:=hp.ok<|lA _ h6
  cases hR
  have K1:=hb.fC<|bw<|Cv #[Nv (tk (ja s 0) k).ak,Nv (tk (ja s 0) k).to,Sv (tk (ja s 0) k).text] 133;have S1:=hS.af<|bw<|Cv #[Nv (tk (ja s 0) k).ak,Nv (tk (ja s 0) k).to,Sv (tk (ja s 0) k).text] 133
  go_wp2
  go_ret;refine ap.done rfl K1 S1 ?_;rw[tn 2 (by rw[bH];simp[hk])];first|exact .up _ _ _ _ _ (ho.v2 hk)|exact .up _ _ [] _ _ _ _ none 0 (λ_=>Zv) (ho.v2 hk) hi.sp (j9 rfl) (λi hi=>by simp at hi)
def Nr(h:SX w N rb sb m s k)(hs:s.size<=1000)(hk:bh (tk (ja s 0) k) yU=true):Cq 193 #[rp rb] w (ap PP N rb sb m s (.ok (cE<|tk (ja s 0) k,k+1)) w):=by
 have hi:=oX s k h.lt;have ho:=eM s k h.lt;have HC:=Zn h hs yU aH;have WS:=hY;go_enter func193,ntmps193;go_wp2_with fail;refine HC.mono ?_;intro e w1 hp;have hm:bu (Pu.bG s 0) yU k=.ok ((),k+1):=by rw[bu];rw[if_pos hk]
 rw[hm]at hp;by_cases h6:(tk (ja s 0)<|k+1).kind=6
 .exact tq
 obtain⟨v,rfl,K1,S1,hR⟩:=hp.ok<|lA _ h6
 cases hR
 go_wp2
 go_ret;refine ap.done rfl K1 S1 ?_;have h5:=pi hk;rw[tn 15 (by rw[bH];rw[if_neg ae,if_neg ae,if_neg ae,if_neg ae,if_neg (by rw[Jp,Di];rw[Qz]at hk;simp at hk;simp[hk.2]),if_pos hk])];exact .any _ _ _ _ _
def QA{p:Prop}(h:p:=by
 obtain⟨rfl,hb⟩:=hp.bad<|dc _ h6
 exact⟨rfl,ap.fail ((qg b0).trans hb)<|dc _ h6⟩):p:=h
def adk(h:SX w N rb sb m s k)(hs:s.size<=1000)(hk:bh (tk (ja s 0) k) gd=true\/bh (tk (ja s 0) k) dH=true):Cq 190 #[rp rb] w (ap (Is<|.agg #[Nv (tk (ja s 0) k).ak,Nv (tk (ja s 0) k).to,.bool<|(aw<|tk (ja s 0) k).toList==[116,114,117,101]]) N rb sb m s (.ok ((),k+1)) w):=by
 have hz:=h.z;have hN:=h.ev.hN;have hi:=oX s k h.lt;have⟨b0,B0⟩:=sd w #[Iv 0,Iv 0,.bool false] 321;have HC:=Zt (h.af b0) hs (by obtain hk|hk:=hk<;>exact Jk hk);go_enter func190,ntmps190;go_wp2_with fail;refine HC.mono ?_;intro e w1 hp;by_cases h6:(tk (Pu.bG s 0)<|k+1).kind=6
 .exact QA
 obtain⟨v,rfl,hb,hS,hR⟩:=hp.ok<|lA _ h6
 cases hR
 have B1:=ai<|(B0.xG hb ae).alloc<|Cv #[Nv (tk (ja s 0) k).ak,Nv (tk (ja s 0) k).to,Sv<|aw<|tk (ja s 0) k,Sv (tk (ja s 0) k).text] 229;have K1:=((qg b0).trans hb).fC<|bw<|Cv #[Nv (tk (ja s 0) k).ak,Nv (tk (ja s 0) k).to,Sv<|aw<|tk (ja s 0) k,Sv (tk (ja s 0) k).text] 229;have S1:=hS.af<|bw<|Cv #[Nv (tk (ja s 0) k).ak,Nv (tk (ja s 0) k).to,Sv<|aw<|tk (ja s 0) k,Sv (tk (ja s 0) k).text] 229;have bz:=hb.size;simp at bz;have⟨c,f,z⟩:=uh B1;go_wp2_with fail;have⟨cF,fF,zF⟩:=B1.oZ rfl (Nv (tk (ja s 0) k).ak) (Nv (tk (ja s 0) k).to) (.bool<|(aw<|tk (ja s 0) k).toList==[116,114,117,101]);exact bodyPost_ret (v:=Av #[Nv (tk (ja s 0) k).ak,Nv (tk (ja s 0) k).to,.bool<|(aw<|tk (ja s 0) k).toList==[116,114,117,101]]) (by simp[results,Tryz.results190,go_sem,cF]) rfl (ap.done rfl (K1.sZ (br _) _ _ _) (S1.UM hN _ _ _) rfl)
def Zu(h:SX w N rb sb m s k)(hs:s.size<=1000)(hk:(tk (ja s 0) k).kind=4):Cq 188 #[rp rb] w (ap (Is<|.agg #[Nv (tk (ja s 0) k).ak,Nv (tk (ja s 0) k).to,Nv<|yQ (tk (ja s 0) k).text]) N rb sb m s (.ok ((),k+1)) w):=by
 have hz:=h.z;have hN:=h.ev.hN;have hi:=oX s k h.lt;have⟨b0,B0⟩:=sd w #[Iv 0,Iv 0,Iv 0] 326;have HC:=UP (h.af b0) hs hk;go_enter func188,ntmps188;go_wp2_with fail;refine HC.mono ?_;intro e w1 hp;by_cases h6:(tk (Pu.bG s 0)<|k+1).kind=6
 .exact QA
 obtain⟨v,rfl,hb,hS,hR⟩:=hp.ok<|lA _ h6
 cases hR
 have B1:=ai<|(B0.xG hb ae).alloc<|Cv #[Nv (tk (ja s 0) k).ak,Nv (tk (ja s 0) k).to,Sv<|aw<|tk (ja s 0) k,Sv (tk (ja s 0) k).text] 229;have B2:=ai<|Bx.new w1 #[Nv (tk (ja s 0) k).ak,Nv (tk (ja s 0) k).to,Sv<|aw<|tk (ja s 0) k,Sv (tk (ja s 0) k).text] 229;have K1:=((qg b0).trans hb).fC<|bw<|Cv #[Nv (tk (ja s 0) k).ak,Nv (tk (ja s 0) k).to,Sv<|aw<|tk (ja s 0) k,Sv (tk (ja s 0) k).text] 229;have S1:=hS.af<|bw<|Cv #[Nv (tk (ja s 0) k).ak,Nv (tk (ja s 0) k).to,Sv<|aw<|tk (ja s 0) k,Sv (tk (ja s 0) k).text] 229;have bz:=hb.size;simp at bz;have⟨c,f,z⟩:=uh B1;have⟨c2,f2,z2⟩:=uh B2;go_wp2_with fail;refine(agW _<|hi.v4 hk).mono ?_;rintro e w2⟨rfl,hb⟩;have B1:=ai<|B1.below hb;have B2:=ai<|B2.below hb;have K1:=K1.fC hb;have S1:=S1.af hb;have⟨c,f,z⟩:=uh B1;have⟨c2,f2,z2⟩:=uh B2;go_wp2_with fail;have⟨cF,fF,zF⟩:=B1.oZ rfl (Nv (tk (ja s 0) k).ak) (Nv (tk (ja s 0) k).to) (Nv<|yQ (tk (ja s 0) k).text);exact bodyPost_ret (v:=Av #[Nv (tk (ja s 0) k).ak,Nv (tk (ja s 0) k).to,Nv<|yQ (tk (ja s 0) k).text]) (by simp[results,Tryz.results188,go_sem,cF]) rfl (ap.done rfl (K1.sZ (br _) _ _ _) (S1.UM hN _ _ _) rfl)
end
section
variable {m:MV}
def Fk(h:bh t gd=true\/bh t dH=true):bH t=4:=by
 have h5:t.kind=5:=by obtain h|h:=h<;>exact pi h
 rw[bH];rw[if_neg ae,if_neg ae,if_neg ae,if_neg ae,if_pos h]
def adl(h:bh t gd=true\/bh t dH=true):t.text.toList=gd.toList\/t.text.toList=dH.toList:=by
 obtain h|h:=h
 .left;rw[bh]at h;simp only[qh,beq_iff_eq]at h;exact h.2
 .right;rw[bh]at h;simp only[qh,beq_iff_eq]at h;exact h.2
def Zw(h:SX w N rb sb m s k)(hs:s.size<=1000)(hk:(tk (ja s 0) k).kind=1)x(hx:Bx w x #[rp rb]):
 Cq 184 #[Pv x] w (ap PE N rb sb m s (.ok (cE<|tk (ja s 0) k,k+1)) w)/\
 Cq 194 #[Pv x] w (ap PP N rb sb m s (.ok (cE<|tk (ja s 0) k,k+1)) w):=by
 have hi:=oX s k h.lt;have HC:=UQ h hs;obtain⟨c0,f0,z0⟩:=hx;refine⟨?_,?_⟩;all_goals
  first|go_enter func184,ntmps184|go_enter func194,ntmps194
  go_wp2_with fail;refine HC.mono ?_;intro e w1 hp;rw[tj hk]at hp;by_cases h6:(tk (ja s 0)<|k+1).kind=6
  .exact tq
  obtain⟨v,rfl,K1,S1,hR⟩:=hp.ok<|lA _ h6
  cases hR
  go_wp2
  go_ret;refine ap.done rfl K1 S1 ?_;rw[tn 1 (by rw[bH];simp[hk])];exact .low _ _ _ _ _<|hi.v1 hk
def Zx(h:SX w N rb sb m s k)(hs:s.size<=1000)(hk:(tk (ja s 0) k).kind=4)x(hx:Bx w x #[rp rb]):
 Cq 187 #[Pv x] w (ap PE N rb sb m s (.ok (cE<|tk (ja s 0) k,k+1)) w)/\
 Cq 196 #[Pv x] w (ap PP N rb sb m s (.ok (cE<|tk (ja s 0) k,k+1)) w):=by
 have hi:=oX s k h.lt;have HC:=Zu h hs hk;obtain⟨c0,f0,z0⟩:=hx;refine⟨?_,?_⟩;all_goals
  first|go_enter func187,ntmps187|go_enter func196,ntmps196
  go_wp2_with fail;refine HC.mono ?_;intro e w1 hp;by_cases h6:(tk (ja s 0)<|k+1).kind=6
  .exact tq
  obtain⟨v,rfl,K1,S1,hR⟩:=hp.ok<|lA _ h6
  cases hR
  go_wp2
  go_ret;refine ap.done rfl K1 S1 ?_;rw[tn 3 (by rw[bH];simp[hk]),show eG (tk (ja s 0) k)=yQ (tk (ja s 0) k).text by rw[eG];simp[hk]];exact .num _ _ _ _ _
def yh(h:SX w N rb sb m s k)(hs:s.size<=1000)(hk:bh (tk (ja s 0) k) gd=true\/bh (tk (ja s 0) k) dH=true)x(hx:Bx w x #[rp rb]):
 Cq 189 #[Pv x] w (ap PE N rb sb m s (.ok (cE<|tk (ja s 0) k,k+1)) w)/\
 Cq 191 #[Pv x] w (ap PE N rb sb m s (.ok (cE<|tk (ja s 0) k,k+1)) w)/\
 Cq 197 #[Pv x] w (ap PP N rb sb m s (.ok (cE<|tk (ja s 0) k,k+1)) w)/\
 Cq 198 #[Pv x] w (ap PP N rb sb m s (.ok (cE<|tk (ja s 0) k,k+1)) w):=by
 have hi:=oX s k h.lt;have HC:=adk h hs hk;obtain⟨c0,f0,z0⟩:=hx;refine⟨?_,?_,?_,?_⟩;all_goals
  first|go_enter func189,ntmps189|go_enter func191,ntmps191|go_enter func197,ntmps197|go_enter func198,ntmps198
  go_wp2_with fail;refine HC.mono ?_;intro e w1 hp;by_cases h6:(tk (ja s 0)<|k+1).kind=6
  .exact tq
  obtain⟨v,rfl,K1,S1,hR⟩:=hp.ok<|lA _ h6
  cases hR
  go_wp2
  go_ret;refine ap.done rfl K1 S1 ?_;rw[tn 4<|Fk hk,p7 (by obtain hk|hk:=hk<;>exact pi hk)];exact .word _ _ _ _ _<|adl hk
end
def uO(h:t.kind=6)sort:aO t sort=false:=by
 have h0:bH t=0:=by rw[bH];simp[h,eD h]
 rw[aO];rw[eD h,h0];repeat' split
 all_goals rfl
def nu p q sort:aR T (aJ T p q sort):=λk h=>by rw[aJ];rw[uO h];rfl
def wi p q sort f a:aR T (kB T p q sort f a):=λk h=>by
 rw[kB];rw[eD h,eD h];rw[if_neg ag,if_neg ag];exact Jh T _ k h
theorem jH(sm:M Nd)(sort:Nat):∀f x,aR T<|cQ T sm sort f x
 |0,x=>λk h=>dc _ h|f+1,x=>λk h=>by unfold cQ;rw[uO h];exact dc _ h
def Jq(hs:aR T sm):aR T (gh T sm sort):=λk h=>by
 rw[gh];rw[if_neg<|by simp[h]];exact hs k h
def p9:∀n,aR T<|du T n
 |0=>λk h=>rfl|n+1=>Jq<|nu _ _ _
def pk{p:M Nd}(hp:aR T p)sort f:aR T (g_ T p q sort f):=λk h=>by
 rw[g_];rw[eD h,if_neg ag];exact b_ (hp k h) λa=>wi _ _ _ _ a
def wj(sm:M Nd)(fr:Nat):∀f x,aR T<|gi T sm fr f x
 |0,x=>λk h=>dc _ h|f+1,x=>λk h=>by unfold gi;rw[uO h];exact dc _ h
def po(sm:M Nd)(fr:Nat):∀f x,aR T<|gQ T sm fr f x
 |0,x=>λk h=>dc _ h|f+1,x=>λk h=>by unfold gQ;rw[eD h];exact dc _ h
def rN(sm:M Nd)(fr:Nat):∀f x,aR T<|n8 T sm fr f x
 |0,x=>λk h=>dc _ h|f+1,x=>λk h=>by unfold n8;rw[eD h,eD h,if_neg ag];exact dc _ h
def nB(hs:aR T sm):aR T (dn T sm):=λk h=>b_ (hs k h) λa=>wj _ _ _ a
def rO(hs:aR T sm):aR T (eU T sm):=λk h=>b_ (hs k h) λa=>po _ _ _ a
def Dj(hs:aR T sm):aR T (sJ T sm):=λk h=>b_ (hs k h) λa=>rN _ _ _ a
def Jr sum fr(x:Nd):=λk1=>if bh (tk T k1) eQ=true then aq sum (λy k'=>.ok (.mk 7 eQ 0 [x,y] fr (aS T k') fr,k')) (k1+1)else .ok (x,k1)
def wo sum fr x:aR T (Jr (T:=T) sum fr x):=λk h=>by rw[Jr];rw[eD h];exact dc _ h
def adm sum k:mi T sum k=aq sum (Jr (T:=T) sum (tk T k).ak) k:=rfl
def Nt{sum}(hs:aR T sum):aR T (mi T sum):=λk h=>b_ (hs k h) λa=>wo _ _ a
def nC:∀n,aR T<|bO T n
 |0=>λk h=>rfl|n+1=>λk h=>by
  unfold bO;rw[eD h,eD h,eD h,eD h];exact Nt (Dj<|rO<|nB<|nu _ _ _) k h
def UR e:aR T (oM T e):=λk h=>by
 rw[oM,aq];rw[show bu T En k=.error (dM<|tk T k) by rw[bu];rw[eD h];rfl];rfl
def qX:M Unit:=λk=>.ok ((),k+1)
def uP{p:M Nd}(h:bh (tk T k) nh=true):aJ T p q sort k=aq (bu T nh) (λ_=>g_ T p q sort (tk T k).ak) k:=by
 have h':=h;rw[aJ,aq,bu];rw[if_pos (by rw[aO];simp[h']),if_pos h',if_pos h]
def z_{p:M Nd}(h1:sort≠1)(h:bh (tk T k) kx=true):g_ T p q sort f k=aq qX (λ_ j=>.ok (.mk 5 ls 0 [] f (aS T j) f,j)) k:=by
 rw[g_];rw[if_pos ⟨h1,h⟩];rfl
def Aa{p:M Nd}(h:bh (tk T k) kx=false):g_ T p q sort f k=aq p (kB T p q sort f) k:=by
 rw[g_];rw[if_neg<|by simp[h]]
def pq{p:M Nd}(h:bh (tk T k) rP=true):kB T p q sort f a k=aq qX (λ_=>aq p λb=>aq (bu T kx) λ_ j=>.ok (.mk 6 ls 0 [a,b] f (aS T j) f,j)) k:=by rw[kB];rw[if_pos h];rfl
def Js{p:M Nd}(h0:bh (tk T k) rP=false)(h:bh (tk T k) Fm=true):kB T p q 3 f a k=aq qX (λ_=>aq q λb=>aq (bu T kx) λ_ j=>.ok (.mk 14 ls 0 [a,b] f (aS T j) f,j)) k:=by rw[kB];rw[if_neg<|by simp[h0],if_pos ⟨rfl,h⟩];rfl
def wu{p:M Nd}(h0:bh (tk T k) rP=false)(h:sort=3->bh (tk T k) Fm=false):kB T p q sort f a k=aq (bu T kx) (λ_ j=>.ok (a,j)) k:=by
 rw[kB];rw[if_neg<|by simp[h0],if_neg (by rintro⟨h1,h2⟩;rw[h h1]at h2;cases h2)];rfl
def adn(h:db (ja s 0) 1 k=.ok (t,k'))(hk:k<(ja s 0).length):BQ t.text/\t.to=t.ak+t.text.size:=by
 rw[db]at h;split at h
 .rename_i hq
  cases h
  have:=oX s k hk;exact⟨this.v1<|by simpa using hq,this.sp⟩
 .cases h
def Zy{p:Prop}(h:p:=by intros;repeat' (first|exact Jl _|exact rM _ _|exact nC _|exact p9 _|exact rI _ _ (by decide)|exact UR _|exact M_ _|exact Dg _ _|exact Nu hT0 _|exact Fo hT0|exact Nw _ _ _|exact jU|exact λq h=>wj _ _ _ _ q h|exact λq h=>po _ _ _ _ q h|exact λq h=>rN _ _ _ _ q h|exact wi _ _ _ _ _|exact pk (p9 _) _ _|exact pk (Dg _ _) _ _|exact pk (nC _) _ _|refine fO ?_ λ_=>?_)):p:=h
def Mov{α:Type}(R:World->(Nat->Prop)->α->Value->Prop):=∀w w' P Q a v,R w P a v->w.heap.size<=w'.heap.size->(∀b,P b->b<w.heap.size->w'.heap[b]? =w.heap[b]?)->(∀b,P b->b<w.heap.size->Q b)->R w' Q a v
structure cM{γ:Type}N rb sb m s r w0 xb C(g:M γ)(P:World->Prop)k w:Prop where
 sx:SX w N rb sb m s k
 ke:Ke rb w0 w
 eq:r=g k
 lv:∀w',w.heap.size<=w'.heap.size->(∀b,b<w.heap.size->b≠rb->b≠xb->w'.heap[b]? =w.heap[b]?)->P w'
 rz:rb<w0.heap.size/\N<=w0.heap.size
 xz:xb<w.heap.size
 bx:xb=rb\/N<=xb/\w0.heap.size<=xb/\Bx w xb C
section
variable {m:MV} {r:Except Fl (γ×Nat)} {P Q:World->Prop} {g g':M γ} {f:FuncId}
def cM.p(H:cM N rb sb m s r w0 xb C g P k w):P w:=H.lv w (br _) λ_ _ _ _=>rfl
def cM.mv(H:cM N rb sb m s r w0 xb C g P k w)(q:Ke rb w w')(S:SX w' N rb sb m s k')(e:r=g' k'):cM N rb sb m s r w0 xb C g' P k' w':=
 ⟨S,H.ke.trans q,e,λw2 a b=>H.lv w2 (jo q.size a) λc c1 c2 c3=>(b c (jm c1 q.size) c2 c3).trans<|q.block c c1 c2,H.rz,jm H.xz q.size,H.bx.imp id λ⟨a,b,c⟩=>⟨a,b,c.xG q (by have:=H.rz.1;omega)⟩⟩
def cM.af(H:cM N rb sb m s r w0 xb C g P k w)(hb:Bq w w'):cM N rb sb m s r w0 xb C g P k w':=H.mv (qg hb) (H.sx.af hb) H.eq
def cM.drew(H:cM N rb sb m s r w0 xb C g P k w):cM N rb sb m s r w0 xb C g P k w.drew:=H.af (qk _ _).drew
def cM.re(H:cM N rb sb m s r w0 xb C g P k w)(h:g k=g' k):cM N rb sb m s r w0 xb C g' P k w:=H.mv (Ke.refl _ _) H.sx<|H.eq.trans h
def cM.add(H:cM N rb sb m s r w0 xb C g P k w)(h:∀w',w.heap.size<=w'.heap.size->(∀b,b<w.heap.size->b≠rb->b≠xb->w'.heap[b]? =w.heap[b]?)->Q w'):cM N rb sb m s r w0 xb C g (λw=>P w/\Q w) k w:=⟨H.sx,H.ke,H.eq,λw' a b=>⟨H.lv w' a b,h w' a b⟩,H.rz,H.xz,H.bx⟩
def cM.box{t:TypeId}(H:cM N rb sb m s r w0 xb C g P k w):cM N rb sb m s r w0 xb C g (λv=>P v/\Bx v w.heap.size D) k (w.alloc<|.cells D t):=
 (H.af<|bw _).add λw' a b=>(Bx.new w D t).same a (b _ ag (by have:=H.rz.1;have:=H.ke.size;omega) (by have:=H.xz;omega))
def cM.own{t:TypeId}(H:cM N rb sb m s r w0 rb C g P k w):cM N rb sb m s r w0 w.heap.size D g P k (w.alloc<|.cells D t):=
 have K:=H.af<|bw<|Cv D t
 ⟨K.sx,K.ke,K.eq,λw' a b=>H.lv w' (jo ag a) λc c1 c2 _=>(b c bP c2 ae).trans<|(bw _).block c c1,H.rz,ag,.inr ⟨H.sx.ev.hN,H.ke.size,Bx.new w D t⟩⟩
def cM.put(H:cM N rb sb m s r w0 xb C g P k w)(o:xb≠rb)(B:Bx w' xb D)(q:One xb w w'):cM N rb sb m s r w0 xb D g P k w':=by
 obtain h|⟨b1,b2,b3⟩:=H.bx
 .exact absurd h o
 have K:=H.ke;have z:=q.size;exact⟨H.sx.move ae λb p=>q.block b ae,⟨q.os.trans K.os,q.tape.trans K.tape,q.output.trans K.output,by rw[z];exact K.size,λb z n=>(q.block b ae).trans<|K.block b z n⟩,H.eq,λw2 a b=>H.lv w2 ae λc c1 c2 c3=>(b c ae c2 c3).trans<|q.block c c3,H.rz,B.z,.inr ⟨b1,b2,B⟩⟩
def cW{w0 w}{b}{v}(h:One b w0 w):One b w0 (w.setCell ⟨b,j,none⟩ v):=⟨h.os,h.tape,h.output,by simpa[World.setCell]using h.size,λi hi=>(ql _ _ _ _ hi).trans<|h.block i hi⟩
def cM.bo(H:cM N rb sb m s r w0 xb C g P k w)(o:xb≠rb):Bx w xb C:=(H.bx.resolve_left o).2.2
def cM.at(h:SX w N rb sb m s k)(e:r=g k):cM N rb sb m s r w rb #[] g (λ_=>True) k w:=⟨h,Ke.refl _ _,e,λ_ _ _=>trivial,⟨h.z,h.ev.hN⟩,h.z,.inl rfl⟩
def cM.zN{R}{mm}{g:α->M γ}(h:SX w N rb sb m s k)(e:r=aq mm g k)(c:cM N rb sb m s r w rb #[] (aq mm g) (λ_=>True) k w->Cq f args w (ap R N rb sb m s r w)):Cq f args w (ap R N rb sb m s r w):=
 c (.at h e)
def cM.imp(H:cM N rb sb m s r w0 xb C g P k w)(h:∀w,P w->Q w):cM N rb sb m s r w0 xb C g Q k w:=⟨H.sx,H.ke,H.eq,λw' a b=>h _<|H.lv w' a b,H.rz,H.xz,H.bx⟩
theorem cM.aZ{R}{mm}{g}{a:α}(H:cM N rb sb m s r w0 xb C (aq mm g) P k w)(h:ap R N rb sb m s (mm k) w e w')(hA:fin (ja s 0) (mm k)=.ok (a,k'))(mv:Mov R:=by first|exact λ_ _ _ _ _ _ h _ _ _=>h|exact λ_ _ _ _ _ _ h a b c=>h.move a b c):∃v,e=.returned v/\cM N rb sb m s r w0 xb C (g a) (λw'=>P w'/\R w' (λb=>w0.heap.size<=b) a v) k' w'/\R w' (λb=>w.heap.size<=b) a v:=by
 have⟨v,e1,hb,S,V⟩:=h.ok hA;exact⟨v,e1,(H.mv hb S<|H.eq.trans<|nj hA).add λw2 a1 b1=>mv _ _ _ _ _ _ V a1 (λb p z=>b1 b z (by have:=H.rz.1;have:=H.ke.size;have p':w.heap.size<=b:=p;omega) (by have:=H.xz;have p':w.heap.size<=b:=p;omega)) λb p _=>jo H.ke.size p,V⟩
def cM.lost{R}{R'}{mm}{g:α->M γ}{f:Fl}(H:cM N rb sb m s r w0 xb C (aq mm g) P k w)(h:ap R N rb sb m s (mm k) w e w')(hA:fin (ja s 0) (mm k)=.error f)(st:∀a,aR (ja s 0)<|g a:=by exact Zy):e=bW f/\ap R' N rb sb m s r w0 (bW f) w':=⟨(h.bad hA).1,ap.stop H.eq hA st<|H.ke.trans (h.bad hA).2⟩
def cM.call{R}{R'}{mm}{g:α->M γ}(H:cM N rb sb m s r w0 xb C (aq mm g) P k w)(hC:Cq f args w (ap R N rb sb m s (mm k) w))(ok:∀a k' v w',cM N rb sb m s r w0 xb C (g a) (λw'=>P w'/\R w' (λb=>w0.heap.size<=b) a v) k' w'->mm k=.ok (a,k')->R w' (λb=>w.heap.size<=b) a v->post (.returned v) w')(st:∀a,aR (ja s 0)<|g a:=by exact Zy)(bad:∀f' w',ap R' N rb sb m s r w0 (bW f') w'->post (bW f') w':=by exact λ_ _ h=>⟨rfl,h⟩)(mv:Mov R:=by first|exact λ_ _ _ _ _ _ h _ _ _=>h|exact λ_ _ _ _ _ _ h a b c=>h.move a b c):Cq f args w post:=
 hC.mono λe w' hp=>by
  cases hA:fin (ja s 0) (mm k)with
  |error f=>obtain⟨rfl,h⟩:=H.lost hp hA st;exact bad _ _ h
  |ok p=>obtain⟨v,rfl,H,V⟩:=H.aZ (a:=p.1) hp hA mv;exact ok _ _ v w' H (uN hA).1 V
def cM.take{R'}{g}(H:cM N rb sb m s r w0 xb C (aq (bu (ja s 0) c) g) P k w)(ok:∀w',cM N rb sb m s r w0 xb C (g ()) P (k+1) w'->post (.returned<|tkA<|tk (ja s 0) k) w')(hs:s.size<=1000:=by assumption)(hc:c.size<=5:=by decide)(st:∀a,aR (ja s 0)<|g a:=by exact Zy)(bad:∀f' w',ap R' N rb sb m s r w0 (bW f') w'->post (bW f') w':=by exact λ_ _ h=>⟨rfl,h⟩):Cq 97 #[rp rb,.string c] w post:=
 ap.go H.ke H.eq (Zn H.sx hs c hc) st bad λa k' v w' S K E q _ hb hR=>by
  cases hR
  cases bA _ _ _ _ q
  exact ok w'<|H.mv hb S E
def cM.BS{R'}{g}(H:cM N rb sb m s r w0 xb C (aq qX g) P k w)(hi:bh (tk (ja s 0) k) c=true)(ok:∀w',cM N rb sb m s r w0 xb C (g ()) P (k+1) w'->post (.returned<|.bool true) w')(hs:s.size<=1000:=by assumption)(hc:c.size<=5:=by decide)(st:∀a,aR (ja s 0)<|g a:=by exact Zy)(bad:∀f' w',ap R' N rb sb m s r w0 (bW f') w'->post (bW f') w':=by exact λ_ _ h=>⟨rfl,h⟩):Cq 104 #[rp rb,.string c] w post:=
 ap.go H.ke H.eq (agT H.sx hs c hc hi) st bad λa k' v w' S K E q _ hb hR=>by
  cases hR
  cases q
  exact ok w'<|H.mv hb S E
def cM.ET(H:cM N rb sb m s r w0 xb C g P k w)(hi:bh (tk (ja s 0) k) c=false)(ok:post (.returned<|.bool false) w)(hc:c.size<=5:=by decide):Cq 104 #[rp rb,.string c] w post:=
 (agU H.sx c hc hi).mono λ_ _⟨a,b⟩=>by subst a;subst b;exact ok
def cM.name{R'}{g}(H:cM N rb sb m s r w0 xb C (aq (db (ja s 0) 1) g) P k w)(ok:∀t w',cM N rb sb m s r w0 xb C (g t) P (k+1) w'->Hid (BQ t.text/\t.to=t.ak+t.text.size)->post (.returned<|nmA t) w')(hs:s.size<=1000:=by assumption)(st:∀a,aR (ja s 0)<|g a:=by exact Zy)(bad:∀f' w',ap R' N rb sb m s r w0 (bW f') w'->post (bW f') w':=by exact λ_ _ h=>⟨rfl,h⟩):Cq 141 #[rp rb,.string Fh] w post:=
 ap.go H.ke H.eq (uJ H.sx hs 1 Fh<|j9 ⟨rfl,rfl⟩) st bad λa k' v w' S K E q _ hb hR=>by
  have:=adn q H.sx.lt
  cases hR
  cases eH _ _ _ _ q
  exact ok a w' (H.mv hb S E) this
def cM.expr{R'}{g}(H:cM N rb sb m s r w0 xb C (aq (bO (ja s 0) n) g) P k w)(IH:eW s n)(ok:∀a k' t x w',cM N rb sb m s r w0 xb C (g a) (λw'=>P w'/\PE w' (λb=>w0.heap.size<=b) a (.iface t<|.agg x)) k' w'->k<k'->post (.returned<|.iface t<|.agg x) w')(hn:(ja s 0).length<=k+n:=by omega)(st:∀a,aR (ja s 0)<|g a:=by exact Zy)(bad:∀f' w',ap R' N rb sb m s r w0 (bW f') w'->post (bW f') w':=by exact λ_ _ h=>⟨rfl,h⟩):Cq 249 #[rp rb] w post:=
 H.call (IH _ _ _ _ _ _ H.sx hn) (λa k' v w' H q V=>by obtain⟨t,x,rfl⟩:=V.iface;exact ok a k' t x w' H<|kQ n _ _ _ q) st bad
def cM.wv{R'}{g}(H:cM N rb sb m s r w0 xb C (aq (du (ja s 0) n) g) P k w)(IH:BO s n)(ok:∀a k' t x w',cM N rb sb m s r w0 xb C (g a) (λw'=>P w'/\PP w' (λb=>w0.heap.size<=b) a (.iface t<|.agg x)) k' w'->k<=k'->post (.returned<|.iface t<|.agg x) w')(hn:(ja s 0).length<=k+n:=by omega)(st:∀a,aR (ja s 0)<|g a:=by exact Zy)(bad:∀f' w',ap R' N rb sb m s r w0 (bW f') w'->post (bW f') w':=by exact λ_ _ h=>⟨rfl,h⟩):Cq 253 #[rp rb] w post:=
 H.call (IH _ _ _ _ _ _ H.sx hn) (λa k' v w' H q V=>by obtain⟨t,x,rfl⟩:=V.iface;exact ok a k' t x w' H<|oW n _ _ _ q) st bad
def cM.since{i}(H:cM N rb sb m s r w0 xb C g P k w)(ok:∀w',cM N rb sb m s r w0 xb C g P k w'->post (.returned<|.agg #[Iv i,.int .i64 ((aS (ja s 0) k:Nat):Int)]) w'):Cq 105 #[rp rb,Iv i] w post:=
 (adg H.sx i).mono λ_ _⟨a,b⟩=>by subst a;exact ok _<|H.af b
def cM.done{R}{a}{v}(H:cM N rb sb m s r w0 xb C g P k w)(h:P w->R w (λb=>w0.heap.size<=b) a v)(he:g k=.ok (a,k):=by rfl):ap R N rb sb m s r w0 (.returned v) w:=
 ap.done (H.eq.trans he) H.ke H.sx (h H.p)
end
section
variable {m:MV}
def QB{p:Prop}(h:p:=by
 refine H.ET hm ?_;go_wp2_with fail;refine(H.re<|wu hm λh=>ae).take ?_;intro w5 H
 go_wp2
 go_ret
 exact H.done λ⟨_,A⟩=>A):p:=h
def Ab(hs:s.size<=1000)(IH:BO s n)(h:SX w N rb sb m s k)(hn:(ja s 0).length<=k+1+n)(ho:bh (tk (ja s 0) k) nh=true):
 Cq 199 #[rp rb] w (ap PP N rb sb m s (aJ (ja s 0) (du (ja s 0) n) (m_<|ja s 0) 2 k) w):=by
 have WS:=hY;have YN:=kM;refine cM.zN h (uP ho) λH=>?_;go_enter func199,ntmps199;go_wp2_with fail;refine H.take ?_;intro w1 H;go_wp2_with fail
 cases hc:bh (tk (ja s 0)<|k+1) kx
 .refine H.ET hc ?_;go_wp2_with fail;refine(H.re<|Aa hc).wv IH ?_;intro a k2 t2 x2 w2 H l2;go_wp2_with fail
  cases hm:bh (tk (ja s 0) k2) rP
  .exact QB
  .refine(H.re<|pq hm).BS hm ?_;intro w3 H;go_wp2_with fail;refine H.wv IH ?_;intro b k4 t4 x4 w4 H l4;go_wp2_with fail;refine H.take ?_;intro w5 H;go_wp2_with fail;refine H.since ?_;intro w6 H
   go_wp2
   go_ret;exact H.done λ⟨⟨_,A⟩,B⟩=>.pr _ _ _ _ _ _ _ _ _ A B
 .refine(H.re<|z_ aH hc).BS hc ?_;intro w2 H;go_wp2_with fail;refine H.since ?_;intro w3 H
  go_wp2
  go_ret;exact H.done λ_=>.unit _ _ _ _ _
end
abbrev EQ(α:Type):=World->(Nat->Prop)->α->(Nat->Value)->Prop
def gn{α:Type}(Q:EQ α):=∀(w w':World)(P P':Nat->Prop)(a:α)(c:Nat->Value),Q w P a c->w.heap.size<=w'.heap.size->(∀b,P b->b<w.heap.size->w'.heap[b]? =w.heap[b]?)->(∀b,P b->b<w.heap.size->P' b)->Q w' P' a c
def gR(cs:Nat->Nat->Value)(sz:Nat):Nat->List Value
 |0=>[]|n+1=>gR cs sz n++(qm sz).map (cs n)
def uQ cs sz n:(gR cs sz n).length=n*sz:=by
 induction n with
 |zero=>simp[gR]|succ n ih=>simp only[gR,ug,ih,List.length_map,List.length_range,jt]
def Zz cs sz:∀n i j,i<n->j<sz->(gR cs sz n)[i*sz+j]? =some (cs i j):=by
 intro n
 induction n with
 |zero=>intro i j h;omega|succ n ih=>
  intro i j hi hj;simp only[gR];by_cases h:i<n
  .have:i*sz+j<n*sz:=by
    have:(i+1)*sz<=n*sz:=ju _ h;rw[jt]at this;omega
   rw[List.getElem?_append_left (by rw[uQ];exact this)];exact ih i j h hj
  .have e:i=n:=ae;subst e;rw[List.getElem?_append_right (by rw[uQ];omega),uQ];rw[show i*sz+j-i*sz=j by omega];simp[hj]
def wC{cs ds:Nat->Nat->Value}{sz:Nat}:∀n,(∀i,i<n->cs i=ds i)->gR cs sz n=gR ds sz n
 |0,_=>rfl|n+1,h=>by simp only[gR];rw[wC n<|λi hi=>h i ae,h n ae]
def dC{α:Type}(Q:EQ α)et sz w base va vc(L:List α):=
 ∃cs:Nat->Nat->Value,w.ownsRow base et sz (.slice va L.length vc) L.length (gR cs sz L.length)/\∀i(h:i<L.length),Q w (λb=>base<=b/\b<w.heap.size/\(j7 va L.length vc).ownBlock≠some b) L[i]<|cs i
def RowV{α:Type}(Q:EQ α)sz w P L(v:Value):=
 ∃(va:Option Addr)(vc:Nat)(cs:Nat->Nat->Value),v=.slice va L.length vc/\(L=[]\/∃g,va=some ⟨g,0,none⟩/\P g/\g<w.heap.size/\∀i,i<L.length->∀j,j<sz->w.cell? ⟨g,i*sz+j,none⟩=some (cs i j))/\∀i(h:i<L.length),Q w P L[i]<|cs i
section
variable {Q:EQ α} {sz:Nat} {L:List α}
def dC.nil(Q:EQ α)et sz w base:dC Q et sz w base none 0 []:=⟨λ_ _=>.nilIface,World.ownsRow_nil _ _ _ _,λi h=>absurd h ag⟩
def dC.v(hQ:gn Q)(h:dC Q et sz w base va vc L):RowV Q sz w (λb=>base<=b) L (.slice va L.length vc):=by
 obtain⟨cs,ho,hr⟩:=h;refine⟨va,vc,cs,rfl,?_,λi hi=>hQ _ _ _ _ _ _ (hr i hi) (br _) (λ_ _ _=>rfl) λb p _=>p.1⟩;obtain⟨h1,h2⟩:=ho;obtain⟨_,hz⟩|⟨q,cap,l7,hv,hg,hh,_,_,_,ht⟩:=h2
 .grind
 .injection hv with e1 e2 e3;subst e1;refine qe ⟨q,rfl,hg,(Array.getElem?_eq_some_iff.1 hh).1,λi hi j hj=>?_⟩;have bz:i*sz+j<L.length*sz:=by
   have:(i+1)*sz<=L.length*sz:=ju _ hi;rw[jt]at this;omega
  rw[<-Zz cs sz L.length i j hi hj,<-ht];simp only[World.cell?,hh];rw[List.getElem?_take_of_lt bz];simp
def dC.od(hQ:gn Q)(h:dC Q et sz w base va vc L)(hs:w.heap.size<=w'.heap.size)(hb:∀b,base<=b->b<w.heap.size->w'.heap[b]? =w.heap[b]?):dC Q et sz w' base va vc L:=by
 obtain⟨cs,ho,hr⟩:=h;refine⟨cs,?_,λi hi=>hQ _ _ _ _ _ _ (hr i hi) hs (λb p z=>hb b p.1 z) λb p _=>⟨p.1,ae,p.2.2⟩⟩;obtain⟨h1,h2⟩:=ho;refine⟨h1,?_⟩;obtain h2|⟨q,cap,l7,hv,hg,hh,r⟩:=h2
 .exact j9 h2
 .refine qe ⟨q,cap,l7,hv,hg,?_,r⟩;rw[hb q hg (Array.getElem?_eq_some_iff.1 hh).1,hh]
def dC.block(h:dC Q et sz w base va vc L):∀b,(j7 va L.length vc).ownBlock=some b->base<=b/\b<w.heap.size:=by
 obtain⟨cs,ho,_⟩:=h;exact fK ho
def dC.one{q}{a}{c:Nat->Value}(hQ:gn Q)(hq:Q w (λb=>lo<=b) a c)(nN:base<=lo)(hb:lo<=w.heap.size)(hs:0<sz)C(hC:C=((qm sz).map c).toArray)(hqq:q=w.heap.size):dC Q et sz (w.alloc<|.cells C et) base (some ⟨q,0,none⟩) 1 [a]:=by
 subst hqq hC;refine⟨λ_=>c,⟨by simp[gR],qe ⟨w.heap.size,1,_,rfl,ae,(MapKept.heap_alloc w _).1,ag,Yf,ag,by simp[gR];exact List.take_of_length_le ag⟩⟩,λi hi=>?_⟩;have:i=0:=qBl;subst this;refine hQ _ _ _ _ _ _ hq ag (λb _ z=>Below.heap_alloc _ _ _ z) λb p z=>⟨jo nN p,bP,?_⟩;simp[Value.ownBlock];omega
def dC.push{w1}{q3 c3}{a}{c:Nat->Value}(hQ:gn Q){cs}(hP:∀i(h:i<L.length),Q w1 (λb=>base<=b/\b<w1.heap.size/\(j7 va L.length vc).ownBlock≠some b) L[i]<|cs i)(hq:Q w1 (λb=>lo<=b) a c)(qW:base<=lo)(hold:∀b,(j7 va L.length vc).ownBlock=some b->b<lo)(hW:Bq w1 W)(h3:w3.ownsRow base et sz (.slice (some ⟨q3,0,none⟩) (L.length+1) c3) (L.length+1) (gR cs sz L.length++(qm sz).map c))(hg:W.grownBy w3 (j7 va L.length vc).ownBlock)(UK:(j7 (some ⟨q3,0,none⟩) (L.length+1) c3).ownBlock=(j7 va L.length vc).ownBlock\/(j7 (some ⟨q3,0,none⟩) (L.length+1) c3).ownBlock=some W.heap.size):
 dC Q et sz w3 base (some ⟨q3,0,none⟩) c3 (L++[a]):=by
 have hlen:(L++[a]).length=L.length+1:=ag;have fW:=hg.size;have ZA:∀b,b<w1.heap.size->(Lv va L.length vc).ownBlock≠some b->w3.heap[b]? =w1.heap[b]? :=λb hb hn=>(hg.block b (jm hb hW.size)<|λe=>hn e.symm).trans<|hW.block b hb;have Bz:∀b,b<w1.heap.size->(Lv va L.length vc).ownBlock≠some b->(Lv (some ⟨q3,0,none⟩) (L.length+1) c3).ownBlock≠some b:=λb hb hn e=>by
  obtain g|g:=UK
  .exact hn (g▸e)
  .have q:=e.symm.trans g;simp at q;have:=hW.size;omega
 have hws:=hW.size;have Mt:∀i,i<L.length->(λi=>if i=L.length then c else cs i) i=cs i:=λi hi=>if_neg ae;refine⟨λi=>if i=L.length then c else cs i,?_,λi hi=>?_⟩
 .rw[hlen];show w3.ownsRow base et sz _ _<|gR _ sz L.length++(qm sz).map (if L.length=L.length then c else cs L.length);rw[if_pos rfl,wC (ds:=cs) L.length Mt];exact h3
 .rw[hlen];by_cases bz:i<L.length
  .rw[List.getElem_append_left bz];show Q w3 _ L[i]<|if i=L.length then c else cs i;rw[if_neg ae];exact hQ _ _ _ _ _ _ (hP i bz) ae (λb p z=>ZA b p.2.1 p.2.2) λb p z=>⟨p.1,ae,Bz b p.2.1 p.2.2⟩
  .have oj:i=L.length:=Hv;subst oj;have e1:(L++[a])[L.length]'hi=a:=ag;rw[e1];show Q w3 _ a<|if L.length=L.length then c else cs L.length;rw[if_pos rfl];have df:∀b,lo<=b->(Lv va L.length vc).ownBlock≠some b:=λb h1 e=>by have:=hold b e;omega
   exact hQ _ _ _ _ _ _ hq ae (λb p z=>ZA b z<|df b p) λb p z=>⟨jo qW p,ae,Bz b z<|df b p⟩
end
def Q1(R:World->(Nat->Prop)->Nd->Value->Prop):EQ Nd:=λw P a c=>R w P a<|c 0
def YT:gn (Q1 PT):=λ_ _ _ _ _ _ h h1 h2 h3=>PT.move h h1 h2 h3
section
variable {row:Option Nat} {m:MV}
def SX.grown(hg:W.grownBy w3 row)(h:SX W N rb sb m s k)(hr:∀j,row=some j->N<=j):SX w3 N rb sb m s k:=
 h.move hg.size λb hb=>hg.block b (jm hb h.ev.hN) λe=>by have:=hr b e.symm;omega
def eE{b}{mt ft}(h:MS j6 W b L)(hm:Tryz.prog.underlying mt=some (.map 227 ft))(hz:(zeroValue ft).run jv W=.ok .nilFunc W)x:
 (Instr.lookup mt (Mv b) (.string x) true).run jv W=.ok (lz (aZ x L) .nilFunc) W:=by
 have:=h.look (KL.str jx) hm hz x trivial (λ_ _=>trivial) true;rw[this]
 cases aZ x L<;>rfl
theorem Fp{x:BA}:∀{L:List (BA×Value)},(∀p∈L,p.1≠x)->aZ x L=none
 |[],_=>rfl|p::l,h=>by
  rw[aZ];rw[if_neg<|h p<|List.mem_cons_self ..];exact Fp λq hq=>h q<|List.mem_cons_of_mem _ hq
end
def tw(ho:gp t)(hs:sort=2\/sort=3)(hb:aO t sort=true):t.kind=1\/t.kind=2\/t.kind=4\/bh t gd=true\/bh t dH=true\/(sort=2/\bh t yU=true)\/bh t nh=true:=by
 by_cases h0:bh t nh=true
 .simp[h0]
 have h0':bh t yR=false:=by simpa using h0
 rw[aO]at hb;rw[h0']at hb;rw[bH]at hb;by_cases h1:t.kind=1
 .exact j9 h1
 by_cases h2:t.kind=2
 .omega
 by_cases h4:t.kind=4
 .omega
 by_cases h5:bh t gd=true
 .simp[h5]
 by_cases h6:bh t dH=true
 .simp[h6]
 by_cases h7:bh t yU=true
 .obtain rfl|rfl:=hs
  .simp[h7]
  .grind
 .exfalso;obtain rfl|rfl:=hs
  .grind
  .grind
def wE(hs:sort=2\/sort=3)(hb:aO t sort=false):t.kind≠1/\t.kind≠2/\t.kind≠4/\bh t gd=false/\bh t dH=false/\(sort=2->bh t yU=false)/\bh t nh=false:=by
 rw[aO]at hb;rw[Bool.or_eq_false_iff]at hb;obtain⟨h0,hb⟩:=hb;have key:∀c,c=1\/c=2\/c=3\/c=4->bH t≠c:=xC;refine⟨λe=>key 1 ag (by rw[bH];simp[e]),λe=>key 2 ag (by rw[bH];simp[e]),λe=>key 3 ag (by rw[bH];simp[e]),?_,?_,?_,h0⟩
 .cases h:bh t gd with
  |false=>rfl|true=>exact absurd (Fk<|j9 h)<|key 4 ag
 .cases h:bh t dH with
  |false=>rfl|true=>exact absurd (Fk<|qe h)<|key 4 ag
 .rintro rfl
  cases h:bh t yU with
  |false=>rfl|true=>
   have h5:=pi h;have:bH t=15:=by
    rw[bH];rw[if_neg ae,if_neg ae,if_neg ae,if_neg ae,if_neg (by rw[Jp,Di];rw[Qz]at h;simp at h;simp[h.2]),if_pos h]
   rw[this]at hb;simp at hb
def cy{p}(hb:aO (tk T k) sort=true)(ho:bh (tk T k) nh=false):aJ T p q sort k=.ok (cE<|tk T k,k+1):=by
 have ho':=ho;rw[aJ];rw[if_pos hb,if_neg<|by simp[ho']]
theorem afb{a b:BA}(h:a.toList=b.toList):a=b:=by
 rw[j8,j8]at h;exact ByteArray.ext<|Array.ext' h
def gq(h:bh t c=true):aw t=c:=by
 rw[p7<|pi h];rw[bh]at h;simp only[qh,beq_iff_eq]at h;exact afb h.2
def rQ(h5:t.kind=5)(h:bh t c=false):c≠t.text:=λe=>by
 subst e;rw[bh]at h;simp[h5]at h
def p_(h:t.kind≠5)c:bh t c=false:=by rw[bh];simp[h]
def tA{d}(h:bh t c=true)(hn:c.toList≠d.toList):bh t d=false:=by
 rw[bh]at h⊢;simp only[qh,beq_iff_eq]at h;simp[h.1,h.2,hn]
section
variable {m:MV}
def Uw(hs:s.size<=1000)(IH:BO s n)(h:SX w N rb sb m s k)(hn:(ja s 0).length<=k+1+n)(hb:aO (tk (ja s 0) k) 2=true){x}(hx:Bx w x #[rp rb]):
 (∃f,aZ (aw<|tk (ja s 0) k) (rG rb x)=some (oY f rb)/\(∀args w,(callFunc f args).run jv w=.ok (.enter f args) w)/\∀W,Bq w W->Cq f #[rp rb] W (ap PP N rb sb m s (aJ (ja s 0) (du (ja s 0) n) (m_<|ja s 0) 2 k) W))\/
 (∃f,aZ (aw<|tk (ja s 0) k) (rG rb x)=some (nk f x)/\(∀args w,(callFunc f args).run jv w=.ok (.enter f args) w)/\∀W,Bq w W->Cq f #[Pv x] W (ap PP N rb sb m s (aJ (ja s 0) (du (ja s 0) n) (m_<|ja s 0) 2 k) W)):=by
 have ho:=eM s k h.lt;obtain hk|hk|hk|hk|hk|⟨h9,hk⟩|hk:=tw ho aH hb
 .refine qe ⟨194,by rw[jK hk];rfl,λ_ _=>qkr,?_⟩;rw[cy hb<|p_ ae _];exact λW hW=>(Zw (h.af hW) hs hk x<|hx.below hW).2
 .refine j9 ⟨195,by rw[iq hk];rfl,λ_ _=>qkr,?_⟩;rw[cy hb<|p_ ae _];exact λW hW=>(afa (h.af hW) hs hk).2
 .refine qe ⟨196,by rw[jL hk];rfl,λ_ _=>qkr,?_⟩;rw[cy hb<|p_ ae _];exact λW hW=>(Zx (h.af hW) hs hk x<|hx.below hW).2
 .refine qe ⟨197,qBk,λ_ _=>qkr,?_⟩;rw[cy hb<|tA hk qAp];exact λW hW=>(yh (h.af hW) hs (j9 hk) x<|hx.below hW).2.2.1
 .refine qe ⟨198,qBk,λ_ _=>qkr,?_⟩;rw[cy hb<|tA hk qAp];exact λW hW=>(yh (h.af hW) hs (qe hk) x<|hx.below hW).2.2.2
 .refine j9 ⟨193,qBk,λ_ _=>qkr,?_⟩;rw[cy hb<|tA hk qAp];exact λW hW=>Nr (h.af hW) hs hk
 .refine j9 ⟨199,qBk,λ_ _=>qkr,λW hW=>Ab hs IH (h.af hW) hn hk⟩
def YL(h:SX w N rb sb m s k)(hb:aO (tk (ja s 0) k) 2=false)x:aZ (aw<|tk (ja s 0) k) (rG rb x)=none:=by
 have ho:=eM s k h.lt;have⟨n1,n2,n4,nt,nf,na,no⟩:=wE aH hb;obtain h'|h'|h'|h'|h'|h'|h':=ho.kd
 .exact absurd h' n1
 .exact absurd h' n2
 .rw[ir h'];rfl
 .exact absurd h' n4
 .rw[p7 h'];have hz:=ho.s5 h';have pN:∀c:BA,5<c.size->c≠(tk (ja s 0) k).text:=λc hc e=>by rw[e]at hc;omega
  refine Fp λp hp=>?_;simp only[rG,List.mem_cons,List.not_mem_nil,or_false]at hp;obtain rfl|rfl|rfl|rfl|rfl|rfl|rfl:=hp
  .exact rQ h' (na rfl)
  .exact pN Fh aH
  .exact pN I4 aH
  .exact pN Nn aH
  .exact rQ h' nt
  .exact rQ h' nf
  .exact rQ h' no
 .exact absurd h' h.ok
 .rw[jM h'];rfl
def ado w:(zeroValue 360).run jv w=.ok .nilFunc w:=qkr
end
theorem RowV.move{Q}{sz}{P'}{L:List α}{v:Value}(h:RowV Q sz w P L v)(hQ:gn Q)(hs:w.heap.size<=w'.heap.size)(hb:∀b,P b->b<w.heap.size->w'.heap[b]? =w.heap[b]?)(hq:∀b,P b->b<w.heap.size->P' b):RowV Q sz w' P' L v:=by
 obtain⟨va,vc,cs,hv,aN,hr⟩:=h;refine⟨va,vc,cs,hv,?_,λi hi=>hQ _ _ _ _ _ _ (hr i hi) hs hb hq⟩;obtain h0|⟨g,h1,h2,h3,h4⟩:=aN
 .exact j9 h0
 .refine qe ⟨g,h1,hq g h2 h3,jm h3 hs,λi hi j hj=>?_⟩;rw[qi (a:=⟨g,i*sz+j,none⟩) (w:=w)<|hb g h2 h3];exact h4 i hi j hj
section
variable {Q:EQ α} {sz:Nat} {m:MV} {r:Except Fl (γ×Nat)} {P:World->Prop} {g:M γ} {L:List α}
def EZ(I:List α->Prop)Q et sz N rb sb m s k w r(g:Nat->List α->Nat->M γ)gk(v:Value)wr:=
 ∃(kr:Nat)(L:List α)(f:Nat)(va:Option Addr)(vc tz:Nat),v=.slice va L.length vc/\I L/\cM N rb sb m s r w rb #[] (g f L tz) (λw'=>dC Q et sz w' w.heap.size va vc L) kr wr/\Hid (gk=(ja s 0).length-kr)/\k<=kr/\L.length<=kr/\(ja s 0).length<=kr+f
def cM.row(H:cM N rb sb m s r w0 xb C g P k w)(hQ:gn Q)(R:dC Q et sz w base va vc L)(hb:w0.heap.size<=base/\(xb=rb\/xb<base)):cM N rb sb m s r w0 xb C g (λw'=>dC Q et sz w' base va vc L) k w:=
 (H.add λw' a b=>R.od hQ a λc c1 c2=>b c c2 (by have:=H.rz;omega) (by have:=H.rz;omega)).imp λ_ h=>h.2
def cM.append{ops}{rest}{o}{ac}{K}{sO xO}{t bytes}{z}{D}{c}{a}{wr:World}(H:cM N rb sb m s r w0 xb C g P k w)(hT:(ja s 0).length<=1001)(hQ:gn Q)(inf:(Tryz.prog.info? et).map (λi=>(i.zero,i.size,i.bytes))=some (some z,sz,bytes))(ut:Tryz.prog.underlying t=some (.slice et))(R:dC Q et sz w base va vc L)(hr:base<=wr.heap.size)(hb:∀b,(j7 va L.length vc).ownBlock=some b->b<wr.heap.size)(V:Q w (λb=>wr.heap.size<=b) a c)(hl:L.length<k)(h:∀q c' w3,cM N rb sb m s r w0 xb C g (λw'=>dC Q et sz w' base (some ⟨q,0,none⟩) c'<|L++[a]) k w3->wpList jv ops K rest (ac.put o.dst<|.slice (some ⟨q,0,none⟩) (L++[a]).length c') w3)(he:w0.heap.size<=base/\(xb=rb\/xb<base)/\base<=w.heap.size:=by exact⟨br _,.inl rfl,H.ke.size⟩)(hD:D=(qm sz).map c:=by rfl)(h1:∀u∈D,u.oneCell'=true:=by intro u hu;simp at hu;obtain rfl|rfl|rfl|rfl|rfl|rfl:=hu<;>rfl)(hz:z.cells.size=sz/\0<sz/\bytes<=1000:=by decide)(hgd:o.guard=none:=by rfl)(ho:o.op=.call {callee:=.builtin .append,args:=#[sO,xO],argTypes:=#[t,t]}:=by rfl)(hs:ac.eval sO=.slice va L.length vc:=by rfl)(hx:ac.eval xO=.slice (some ⟨w.heap.size,0,none⟩) 1 1:=by rfl):
 wpList jv ops K (o::rest) ac (w.alloc<|.cells D.toArray et):=by
 have⟨i0,yi,oh,m7,i_⟩:=info_parts inf;obtain⟨cs,HO,HP⟩:=R;have kl:=H.sx.lt;have hbw:Bq w (w.alloc<|Cv D.toArray et):=bw _;have Ja:=fK HO;refine wpList_append_own_at _ hgd sO xO t ho base et i0 _ sz bytes ut yi oh m7 i_ hz.1 hz.2.1 (Lv va L.length vc) L.length _ hs (jW HO hbw) ⟨w.heap.size,0,none⟩ 1 1 D hx (by rw[hD];simp) (oP _ _ _ _ ag) h1 Yf (jo (Nat.mul_le_mul_left _ hz.2.2) ae) bP ?_;intro v3 w3 O3 g3 n3 l3;obtain⟨q,c',rfl⟩:=tB O3 ae;have e:(L++[a]).length=L.length+1:=ag;have B:=H.af hbw;have rz:=H.rz;have G:cM N rb sb m s r w0 xb C g (λ_=>True) k w3:=⟨SX.grown g3 B.sx λj e=>by have:=Ja j e;omega,Ke.grown g3 B.ke λj e=>by have:=Ja j e;omega,H.eq,λ_ _ _=>trivial,H.rz,jm B.xz g3.size,B.bx.imp id λ⟨b1,b2,b3⟩=>⟨b1,b2,b3.grown g3 λj e=>by have:=Ja j e;omega⟩⟩;have:=h q c' w3<|G.row hQ (dC.push (w1:=w) (lo:=wr.heap.size) (c:=c) hQ HP V hr hb hbw (hD▸O3) g3 l3) ⟨he.1,he.2.1⟩;rw[e]at this;exact this
end
def adp:(Tryz.prog.info? 255).map (λi=>(i.zero,i.size,i.bytes))=some (some .nilIface,1,16):=qkr
def US:Tryz.prog.underlying 305=some (.slice 255):=qkr
def Jt:(Tryz.prog.info? 92).map (λi=>(i.zero,i.size,i.bytes))=some (some .nilIface,1,16):=qkr
def Ac:Tryz.prog.underlying 164=some (.slice 92):=qkr
def tC w:(zeroValue 355).run jv w=.ok .nilFunc w:=qkr
def Ju{x:Nd}(h:aO (tk T k) sort=false):cQ T sm sort f x k=.ok (x,k):=by
 cases f with
 |zero=>rfl|succ f=>unfold cQ;rw[h];rfl
def UT{x:Nd}(h:aO (tk T k) sort=true):cQ T sm sort (f+1) x k=aq sm (λy k'=>cQ T sm sort f (x.add y<|aS T k') k') k:=by
 show(if aO (tk T k) sort=true then _ else _)=_;rw[if_pos h]
def rJ{T:List jc}{sm:M Nd}{sort c:Nat}{nm:BA}{n fr at_:Nat}:∀f L k a k2,cQ T sm sort f (.mk c nm n L fr (aS T k) at_) k=.ok (a,k2)->∃L',a=.mk c nm n L' fr (aS T k2) at_
 |0,L,k,a,k2,h=>by cases h;exact⟨L,rfl⟩|f+1,L,k,a,k2,h=>by
  unfold cQ at h;split at h
  .have⟨y,k1,_,h2⟩:=aB h;exact rJ f (L++[y]) k1 a k2 h2
  .cases h;exact⟨L,rfl⟩
def EY(f:M α)k:f k=aq f (λa k=>.ok (a,k)) k:=by rw[aq];cases f k<;>rfl
def adq R nm w P(a:Nd)v:=∃L fr tz at_,a=.mk 2 nm 0 L fr tz at_/\RowV (Q1 R) 1 w P L v
def Tab N rb sb m s R(sm:M Nd)sort b w k:=∃L,MS j6 w b L/\
 (aO (tk (ja s 0) k) sort=true/\((∃F,aZ (aw<|tk (ja s 0) k) L=some (oY F rb)/\(∀args w,(callFunc F args).run jv w=.ok (.enter F args) w)/\∀W,Bq w W->Cq F #[rp rb] W (ap R N rb sb m s (sm k) W))\/
  (∃F x,aZ (aw<|tk (ja s 0) k) L=some (nk F x)/\(∀args w,(callFunc F args).run jv w=.ok (.enter F args) w)/\∀W,Bq w W->Cq F #[Pv x] W (ap R N rb sb m s (sm k) W)))\/
  aO (tk (ja s 0) k) sort=false/\aZ (aw<|tk (ja s 0) k) L=none)
section
variable {m:MV} {b:Nat} {p:M Nd}
def Jv(hF:mt=235\/mt=234\/mt=233)(hM:MS j6 w b L)x:(Instr.lookup mt (Mv b) (.string x) true).run jv w=.ok (lz (aZ x L) .nilFunc) w:=by
 obtain rfl|rfl|rfl:=hF
 .exact eE hM Tryz.underlying235 (agS w) x
 .exact eE hM j5 (ado w) x
 .exact eE hM jy (tC w) x
def afc{FO}(hF:FO=140/\mt=235\/FO=276/\mt=234\/FO=256/\mt=233)(hI:∀{w P a v},R w P a v->∃t x,v=.iface t (.agg x))(h:SX w N rb sb m s k)(Y:Tab N rb sb m s R (aJ (ja s 0) p q sort) sort b w k):
 Cq FO #[rp rb,Mv b] w (ap R N rb sb m s (aJ (ja s 0) p q sort k) w):=by
 obtain⟨L,hM,Y⟩:=Y;have hl:=Jv (mt:=mt) (by obtain h|h|h:=hF<;>simp[h.2]) hM (aw<|tk (ja s 0) k);have⟨c,f,z⟩:=h.bx;obtain⟨hb,⟨F,hg,ZB,HC⟩|⟨F,x,hg,ZB,HC⟩⟩|⟨hb,hg⟩:=Y;all_goals simp only[hg,lz]at hl
 all_goals clear hg hM
 all_goals obtain⟨rfl,rfl⟩|⟨rfl,rfl⟩|⟨rfl,rfl⟩:=hF
 all_goals(
  first
  |go_enter func140,ntmps140
  |go_enter func276,ntmps276
  |go_enter func256,ntmps256
  first
  |(go_wp2_with(go_at_call 135;refine(v9 h.rd).mono ?_;rintro e w1⟨rfl,QC⟩)
    refine⟨rfl,qg QC,?_⟩;rw[show aJ (ja s 0) p q sort k=.error (dM<|tk (ja s 0) k) by rw[aJ];rw[hb];rfl,dM,if_neg h.ok]
    rfl)
  |(go_wp2_with fail
    refine(HC _<|qk _ _).mono ?_;intro e w1 hp
    cases hA:fin (ja s 0) (aJ (ja s 0) p q sort k)with
    |error f'=>
     obtain⟨rfl,QC⟩:=hp.bad hA;exact⟨rfl,hp⟩
    |ok r=>
    obtain⟨a,k2⟩:=r;obtain⟨v,rfl,_,_,hR⟩:=hp.ok hA;obtain⟨tv,xv,rfl⟩:=hI hR
    go_wp2
    go_ret
    exact hp))
def YU{FM et}(hT:(ja s 0).length<=1001)(hF:FM=142/\mt=235/\et=92\/FM=277/\mt=234/\et=255)(hI:∀{w P a v},R w P a v->∃t x,v=.iface t (.agg x))(mv:Mov R)(lts:mQ sm)(D:∀w k',SX w N rb sb m s k'->k<=k'->Tab N rb sb m s R sm sort b w k')(h:SX w N rb sb m s k)nm(fr tz at_:Nat):
 Cq FM #[rp rb,Mv b] w (ap (adq R nm) N rb sb m s (cQ (ja s 0) sm sort (ja s 0).length (.mk 2 nm 0 [] fr tz at_) k) w):=by
 have mvs:gn (Q1 R):=λ_ _ _ _ _ _ h a b c=>mv _ _ _ _ _ _ h a b c;obtain⟨r,hr⟩:∃r,r=cQ (ja s 0) sm sort (ja s 0).length (.mk 2 nm 0 [] fr tz at_) k:=⟨_,rfl⟩;rw[<-hr];have H:=cM.at h hr
 replace D:=ai D
 have tl:=ai (λ(w:World)(L:List (BA×Value))(h:MS Sv w b L)=>Jv (mt:=mt) (by obtain h|h:=hF<;>simp[h.2.1]) h);clear h hr;obtain⟨rfl,rfl,he⟩|⟨rfl,rfl,he⟩:=hF
 all_goals(
  replace he:=ai he
  first
  |go_enter func142,ntmps142
  |go_enter func277,ntmps277
  go_wp2
  go_loopg[5] ((ja s 0).length-k) (λgk v wr=>EZ (λ_=>True) (Q1 R) et 1 N rb sb m s k w r (λf L tz=>cQ (ja s 0) sm sort f<|.mk 2 nm 0 L fr tz at_) gk v wr)
  case atStart=>exact⟨k,[],(ja s 0).length,none,0,tz,rfl,trivial,H.row mvs (dC.nil _ _ _ _ _) ⟨br _,.inl rfl⟩,ai rfl,br _,ag,ae⟩
  case round=>
   clear H;obtain rfl:=uh he;obtain⟨kr,L,f,va,vc,to',rfl,-,H,dv,hle,hLl,hfu⟩:=hrel;have⟨X,hM,Y⟩:=uh D _ _ H.sx hle;have hl:=uh tl _ _ hM<|aw<|tk (ja s 0) kr;have YX:=H.sx.lt;have zw:=H.ke.size;have YW:=H.p.block;have⟨c,ff,z⟩:=H.sx.bx;obtain⟨hb,Y⟩|⟨hb,hg⟩:=Y
   .obtain⟨f,rfl⟩:∃f',f=f'+1:=⟨f-1,ae⟩;obtain⟨F,hg,ZB,HC⟩|⟨F,x,hg,ZB,HC⟩:=Y
    all_goals(
     simp only[hg,lz]at hl;clear hg;go_wp2_with fail;refine(H.re<|UT hb).call (HC _<|qk _ _) ?_ (st:=λa q h=>jH _ _ _ _ q h) (mv:=mv);intro a k2 v w1 H q V;obtain⟨tv,xv,rfl⟩:=hI V;have l2:=lts _ _ _ q;clear HC ZB c ff z hl hM q;go_wp2_with(at_builtin;go_must(refine H.append (D:=[Fv tv<|Av xv]) (z:=Zv) (bytes:=16) hT mvs (by first|exact Jt|exact adp) (by first|exact Ac|exact US) H.p.1 zw (λb e=>(YW b e).2) (c:=λ_=>Fv tv<|Av xv) V ae ?_;intro q3 c3 w3 H));go_roundg((ja s 0).length-k2)
     case measure=>rw[uh dv];omega
     case rel=>exact⟨k2,L++[a],f,_,c3,_,ag,trivial,H.re rfl,ai rfl,ae,bP,ae⟩)
   .simp only[hg,lz]at hl
    go_wp2
    go_ret
    exact H.done (λR=>⟨L,_,_,_,rfl,R.v mvs⟩)<|Ju hb)
end
section
variable {m:MV} {b:Nat} {p:M Nd}
def I6{nm}(mv:Mov R):Mov (adq R nm):=λ_ _ _ _ _ _⟨L,a,b,c,d,e⟩x y z=>⟨L,a,b,c,d,e.move (λ_ _ _ _ _ _ h a b c=>mv _ _ _ _ _ _ h a b c) x y z⟩
def adq.sl{nm}{v}(h:adq R nm w P a v):∃va L vc,v=.slice va L vc:=by obtain⟨_,_,_,_,_,_,_,_,rfl,-⟩:=h;exact⟨_,_,_,rfl⟩
def YM{FH tt}(hs:s.size<=1000)(hT:(ja s 0).length<=1001)(hF:FH=253/\tt=307/\m.d=Mv b\/FH=103/\tt=166/\b=sb)(hI:∀{w P a v},R w P a v->∃t x,v=.iface t (.agg x))(mv:Mov R)(lts:mQ (aJ (ja s 0) p q sort))(D:∀w k',SX w N rb sb m s k'->k<=k'->Tab N rb sb m s R (aJ (ja s 0) p q sort) sort b w k')(h:SX w N rb sb m s k)(mk:∀{w P nm L v}{f t a y:Nat},nY nm->y=a+nm.size->RowV (Q1 R) 1 w P L v->R w P (.mk 2 nm 0 L f t a) (.iface tt<|.agg #[Nv f,Nv t,Nv a,Nv y,.string nm,v])):
 Cq FH #[rp rb] w (ap R N rb sb m s (gh (ja s 0) (aJ (ja s 0) p q sort) sort k) w):=by
 have ho:=eM s k h.lt;have ru:=(oX s k h.lt).sp;have hku:=Fg ho h.ok;rw[show I4.toList=[117,112,32,110,97,109,101]from toList_mk _]at hku;have⟨c,f,z⟩:=h.bx
 replace D:=ai D
 replace ru:=ai ru
 by_cases h2:(tk (ja s 0) k).kind=2
 .rw[h2]at hku;have⟨k1,e1,e2⟩:=Qv s k h.lt ae;have HE:gh (ja s 0) (aJ (ja s 0) p q sort) sort k=aq (db (ja s 0) 2) (λ_=>cQ (ja s 0) (aJ (ja s 0) p q sort) sort (ja s 0).length<|.mk 2 (tk (ja s 0) k).text 0 [] (tk (ja s 0) k).ak (aS (ja s 0)<|k+1) (tk (ja s 0) k).ak) k:=by
   unfold gh;rw[if_pos<|by simp[h2]];unfold aq;rw[ZC sort k h2,tj h2,e2];unfold cE bH eG;simp[h2]
  obtain⟨rfl,rfl,wF⟩|⟨rfl,rfl,rfl⟩:=hF
  all_goals(
   refine cM.zN h HE λH=>?_;clear HE e1 e2;first
   |go_enter func253,ntmps253
   |go_enter func103,ntmps103
   go_wp2_with fail;refine H.call (uJ h hs 2 I4<|qe ⟨rfl,rfl⟩) ?_ (st:=λ_=>jH _ _ _ _);intro t k1 v w1 H q V
   cases V
   rw[tj h2]at q
   cases q
   have H:=H.box (D:=#[Nv (tk (ja s 0) k).ak,Nv (tk (ja s 0) k).to,Sv (tk (ja s 0) k).text]) (t:=133);clear c f z;have⟨c,f,z⟩:=H.sx.bx;go_wp2_with fail;clear c f z;refine(H.re<|EY (cQ (ja s 0) (aJ (ja s 0) p q sort) sort (ja s 0).length<|.mk 2 (tk (ja s 0) k).text 0 [] (tk (ja s 0) k).ak (aS (ja s 0)<|k+1) (tk (ja s 0) k).ak)<|k+1).call (YU hT (by first|exact .inl ⟨rfl,rfl,rfl⟩|exact .inr ⟨rfl,rfl,rfl⟩) hI mv lts (λw k' S l=>uh D w k' S ae) H.sx _ _ _ _) ?_ (mv:=I6 mv);intro a k2 v w3 H q V;have⟨L',hL'⟩:=rJ _ _ _ _ _ q;subst hL';obtain⟨va,L,vc,rfl⟩:=V.sl;clear V q;have⟨⟨_,c3,f3,z3⟩,_⟩:=H.p
   go_wp2
   go_region_with(go_at_call 105;refine H.drew.since ?_;intro w4 H;have⟨⟨_,c4,f4,z4⟩,_⟩:=H.p)
   all_goals(
    go_wp2
    go_ret;refine H.done ?_;rintro⟨_,L1,fr,tz,at_,e,V⟩;injection e with _ _ _ e3 e4 e5 e6;subst e3 e4 e5 e6
    exact mk (ho.v2 h2) ru V))
 .rw[show((tk (ja s 0) k).kind==2)=false by simp[h2]]at hku;have HE:gh (ja s 0) (aJ (ja s 0) p q sort) sort k=(aJ (ja s 0) p q sort) k:=by unfold gh;rw[if_neg<|by simp[h2]]
  rw[HE];obtain⟨rfl,rfl,wF⟩|⟨rfl,rfl,rfl⟩:=hF
  all_goals(
   first
   |go_enter func253,ntmps253
   |go_enter func103,ntmps103
   go_wp2_with fail;refine(afc (by first|exact .inl ⟨rfl,rfl⟩|exact .inr<|.inl ⟨rfl,rfl⟩) hI h<|uh D _ _ h<|br _).mono ?_;intro e w1 hp
   cases hA:fin (ja s 0) ((aJ (ja s 0) p q sort) k)with
   |error f'=>
    obtain⟨rfl,QC⟩:=hp.bad hA;exact⟨rfl,hp⟩
   |ok r=>
   obtain⟨a,k2⟩:=r;obtain⟨v,rfl,_,_,hR⟩:=hp.ok hA;obtain⟨tv,xv,rfl⟩:=hI hR
   go_wp2
   go_ret
   exact hp)
end
abbrev C_ s n:=aJ (ja s 0) (fy (ja s 0) n) (fy (ja s 0) n) 1
def RowV.pt{L}{v}{nm}{t a y}(hu:nY nm)(hy:y=a+nm.size)(h:RowV (Q1 PT) 1 w P L v):PT w P (.mk 2 nm 0 L f t a) (.iface 166<|.agg #[Nv f,Nv t,Nv a,Nv y,.string nm,v]):=by
 obtain⟨va,vc,cs,rfl,aN,hr⟩:=h;exact .up nm 0 L f t a _ _ _ _ va vc (λi=>cs i 0) hu (aN.imp id λ⟨g,h1,h2,h3,h4⟩=>⟨g,h1,h2,h3,λi hi=>by simpa using h4 i hi 0 aH⟩) hr rfl (by rw[hy])
def ZD s n:=∀(w:World)(N rb sb:Nat)(m:MV)(k:Nat),SX w N rb sb m s k->(ja s 0).length<=k+n->Cq 70 #[rp rb] w (ap PT N rb sb m s (fy (ja s 0) n k) w)
section
variable {m:MV}
def Jw(hs:s.size<=1000)(IH:ZD s n)(h:SX w N rb sb m s k)(hn:(ja s 0).length<=k+1+n)(ho:bh (tk (ja s 0) k) nh=true):Cq 202 #[rp rb] w (ap PT N rb sb m s (C_ s n k) w):=by
 have WS:=hY;have YN:=kM;refine cM.zN h (uP ho) λH=>?_;go_enter func202,ntmps202;go_wp2_with fail;refine H.take ?_;intro w1 H;go_wp2_with fail;refine(H.re (g':=aq (fy (Pu.bG s 0) n)<|kB (Pu.bG s 0) (fy (Pu.bG s 0) n) (fy (Pu.bG s 0) n) 1 (tk (Pu.bG s 0) k).ak) (by rw[g_];rw[if_neg ag])).call (IH _ _ _ _ _ _ H.sx ae) ?_;intro a k2 v w2 H q V;obtain⟨t2,x2,rfl⟩:=V.iface;have l2:=dq (T:=(Pu.bG s 0)) n _ _ _ q;go_wp2_with fail
 cases hm:bh (tk (ja s 0) k2) rP
 .exact QB
 .refine(H.re<|pq hm).BS hm ?_;intro w3 H;go_wp2_with fail;refine H.call (IH _ _ _ _ _ _ H.sx ae) ?_;intro b k4 v w4 H q V;obtain⟨t4,x4,rfl⟩:=V.iface;go_wp2_with fail;refine H.take ?_;intro w5 H;go_wp2_with fail;refine H.since ?_;intro w6 H
  go_wp2
  go_ret;exact H.done λ⟨⟨_,A⟩,B⟩=>.pr _ _ _ _ _ _ _ _ _ _ _ A B
def ajh(hs:s.size<=1000)(IH:ZD s n)(h:SX w N rb sb m s k)(hn:(ja s 0).length<=k+1+n):Tab N rb sb m s PT (C_ s n) 1 sb w k:=by
 have ho:=eM s k h.lt;have ht:=pd s k h.lt;refine⟨smL rb,h.ev.sm,?_⟩
 cases hb:aO (tk (ja s 0) k) 1
 .exact .inr ⟨rfl,Zj ho h.ok hb⟩
 .refine .inl ⟨rfl,.inl ⟨_,adf ho h.ok hb,Zi _,λW hW=>?_⟩⟩;have h:=h.af hW;rw[fid];by_cases h3:(tk (ja s 0) k).kind=3
  .rw[if_pos h3,show C_ s n k=_ from v_ (j9 h3)];refine(UN h.rd hs ht h3 ho).mono λe w' q=>q.x h ae ?_;rw[show cE (tk (ja s 0) k)=.mk 16 (tk (ja s 0) k).text 0 [] (tk (ja s 0) k).ak (tk (ja s 0) k).to (tk (ja s 0) k).ak by rw[cE,bH,eG];simp[h3]];exact .var _ _ _ _ _ _ _ (ho.v3 h3) rfl (by rw[Qw s k h.lt])
  rw[if_neg h3];by_cases h2:(tk (ja s 0) k).kind=2
  .rw[if_pos h2,show C_ s n k=_ from v_ (qe h2)];refine(Nm h.rd hs ht h2).mono λe w' q=>q.x h ae ?_;rw[show cE (tk (ja s 0) k)=.mk 2 (tk (ja s 0) k).text 0 [] (tk (ja s 0) k).ak (tk (ja s 0) k).to (tk (ja s 0) k).ak by rw[cE,bH,eG];simp[h2]];exact .up _ _ [] _ _ _ _ _ _ _ none 0 (λ_=>Zv) (ho.v2 h2) (j9 rfl) (λi hi=>by simp at hi) rfl (by rw[Qw s k h.lt])
  rw[if_neg h2];rw[uM ho]at hb;exact Jw hs IH h hn (by simpa[h2,h3]using hb)
def Ny(hs:s.size<=1000)(hT:(ja s 0).length<=1001)(IH:ZD s n):ZD s (n+1):=by
 intro w N rb sb m k h hn;have sl:mQ (C_ s n):=cL (dq (T:=(Pu.bG s 0)) n) (dq n) 1;refine cM.zN (mm:=gh (Pu.bG s 0) (C_ s n) 1) (g:=lI (Pu.bG s 0) (fy (Pu.bG s 0) n) (tk (Pu.bG s 0) k).ak) h rfl λH=>?_;have⟨c,f,z⟩:=h.bx;go_enter func70,ntmps70;go_wp2_with fail;refine H.call (YM (R:=PT) hs hT (.inr ⟨rfl,rfl,rfl⟩) PT.iface (λ_ _ _ _ _ _ h a b c=>h.move a b c) sl (λw k' S l=>ajh hs IH S ae) h RowV.pt) ?_ (st:=λa=>wa _ _ _ a);intro a k2 v w1 H q V;obtain⟨tv,xv,rfl⟩:=V.iface;have l2:=uR sl 1 _ _ _ q;clear V q;go_wp2_with fail
 cases hc:bh (tk (ja s 0) k2) kG
 .refine H.ET hc ?_;have H:=H.re (g':=λk=>.ok (a,k)) (by rw[lI];rw[hc];rfl)
  go_wp2
  go_ret;exact H.done λh=>h.2
 .refine(H.re (g':=aq qX λ_=>aq (fy (ja s 0) n) λb k'=>.ok (.mk 17 ls 0 [a,b] (tk (ja s 0) k).ak (aS (ja s 0) k') (tk (ja s 0) k).ak,k')) (by rw[lI];rw[if_pos hc];rfl)).BS hc ?_;intro w3 H;go_wp2_with fail;refine H.call (IH _ _ _ _ _ _ H.sx ae) ?_;intro b k4 v w4 H q V;obtain⟨t4,x4,rfl⟩:=V.iface;go_wp2_with fail;refine H.since ?_;intro w5 H
  go_wp2
  go_ret;exact H.done λ⟨⟨_,A⟩,B⟩=>.fn _ _ _ _ _ _ _ _ _ _ _ A B
def YV(hs:s.size<=1000)(hT:(ja s 0).length<=1001):∀n,ZD s n
 |0=>λw N rb sb m k h hn=>by have:=h.lt;omega|n+1=>Ny hs hT<|YV hs hT n
def adr(hs:s.size<=1000)(hT:(ja s 0).length<=1001)(h:SX w N rb sb m s k)(hn:(ja s 0).length<=k+n):Cq 70 #[rp rb] w (ap PT N rb sb m s (fy (ja s 0) n k) w):=YV hs hT n _ _ _ _ _ _ h hn
end
end
end Go.Proofs.YtfnkchdeheeiiaaGreatDoor

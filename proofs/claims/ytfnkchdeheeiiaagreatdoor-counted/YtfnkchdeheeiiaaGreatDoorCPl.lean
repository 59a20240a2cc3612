import Derived.Test.YtfnkchdeheeiiaaGreatDoorCPf
import Derived.Test.YtfnkchdeheeiiaaGreatDoorCTo
set_option linter.all false
set_option maxRecDepth 100000
set_option maxHeartbeats 8000000
namespace Go.Proofs.YtfnkchdeheeiiaaGreatDoor
open Pu renaming bC->ja,Tok->jc,aE->jd,dH->jf,ni->jh,at_->ji,gu->jj
open _root_.List.Mem renaming tail->jk,head->jl
open _root_.Nat renaming lt_of_lt_of_le->jm,le_trans->jo,ne_of_gt->jp,le_of_lt->jq,succ_mul->jt,mul_le_mul_right->ju
open Go.Proofs.Tryz renaming prog->jv,underlying227->jx,underlying233->jy,underlying236->jz,underlying234->j3
open Go.Value renaming string->j5,slice->j6
open Go.ByteArray renaming toList_eq->j7
open Or renaming inl->j8,inr->j9
open Ke renaming FZ->qc,of->qd
open Bool renaming and_eq_true->qe
open Go.World renaming cell?_of_block->qf
open Go.RowKit.Below renaming refl->qg,heap_setCell->qh
open _root_.List renaming range->qi
open Go Go.RowKit Proofs.Tryz
variable {C D args:Array Value} {c s:BA} {e:Ending} {post:Ending->World->Prop} {L:List (BA×Value)} {T:List jc} {q sm:M Nd} {N base f j k k' lo mt n rb sb sort vc xb:Nat} {P:Nat->Prop} {a:Nd} {va:Option Addr} {t:jc} {α β γ:Type} {et:TypeId} {W w w' w0 w3:World} {R:World->(Nat->Prop)->Nd->Value->Prop}
section
open Go.ChangeMaps
def pK{r}{a:α}(h:fin T r=.ok (a,k)):r=.ok (a,k)/\(tk T k).kind≠6:=by
 unfold fin at h;split at h
 .cases h
 .grind
theorem cO(a:α)(h:(tk T k).kind=6):fin T (.ok (a,k))=.error (db<|tk T k):=by rw[fin];simp[h]
def ki(a:α)(h:(tk T k).kind≠6):fin T (.ok (a,k))=.ok (a,k):=by grind[tk,fin]
def aR{α:Type}(T:List jc)(g:M α):=∀k,(tk T k).kind=6->fin T (g k)=.error (db<|tk T k)
theorem mg{m}{g:α->M β}{a}(h:fin T (m k)=.ok (a,k')):aM m g k=g a k':=by grind[fin,aM]
def bT{m}{g:α->M β}{f}(h:fin T (m k)=.error f)(hs:∀a,aR T<|g a):fin T (aM m g k)=.error f:=by grind[fin,aR,aM]
theorem dY(h:t.kind=6)s:a_ t s=false:=by grind[a_]
def Vw(h:t.kind=6):aG t 1=false:=by grind[aG,bE,dY]
def pL(T:List jc)c:aR T (bt T c):=λk h=>by rw[bt];rw[dY h];rfl
theorem fq{m}{g:α->M β}(h:aR T m)(hg:∀a,aR T<|g a):aR T (aM m g):=λk hk=>bT (h k hk) hg
def Gd(T:List jc)mk:aR T (sE T mk):=fq (pL T _) λ_ k h=>cO _ h
def Gf(T:List jc)p q:aR T (aP T p q 1):=λk h=>by
 rw[aP];rw[Vw h];rfl
def ub(T:List jc)p f a:aR T (nk T p f a):=by grind[aR,nk,dY,cO]
def sS(T:List jc):∀n,aR T<|eH T n
 |0=>λk h=>rfl|n+1=>λk h=>by
  rw[eH];refine bT ?_<|λa=>ub T _ _ a;rw[jB];rw[if_neg<|by simp[h]];exact Gf T _ _ k h
def PT.iface{v}(h:PT w P a v):∃t x,v=.iface t (.agg x):=by
 cases h<;>exact⟨_,_,rfl⟩
def gK a b c d w:(Instr.field 229 (.agg #[a,b,c,d]) 0).run jv w=.ok (.agg #[a,b]) w:=qkr
def jI a b w:(Instr.field 131 (.agg #[a,b]) 0).run jv w=.ok a w:=qkr
abbrev CB:BA:=⟨#[108,111,119,32,110,97,109,101]⟩
abbrev Kq:BA:=⟨#[97,32,110,117,109,98,101,114]⟩
abbrev rp rb:=Pv rb
abbrev nM(f rb:Nat):Value:=.func (.func f) #[rp rb] #[]
abbrev mh(f b:Nat):Value:=.func (.func f) #[] #[Pv b]
abbrev Q5(b c:Nat):Value:=.func (.func 254) #[] #[Pv b,Pv c]
abbrev Gg rb:=[(ph,nM 178 rb),(sG,nM 179 rb)]
abbrev Np rb:=[(JW,nM 180 rb),(sG,nM 181 rb),(kIf,nM 182 rb),(sI,nM 183 rb)]
abbrev ry rb b:=[(CB,mh 184 b),(FY,nM 186 rb),(Kq,mh 187 b),(fJ,mh 189 b),(dz,mh 191 b),(l_,nM 192 rb)]
abbrev pM rb b:=[(wU,nM 193 rb),(CB,mh 194 b),(FY,nM 195 rb),(Kq,mh 196 b),(fJ,mh 197 b),(dz,mh 198 b),(l_,nM 199 rb)]
def nN w N rb v L:=∃b,v=Mv b/\b<N/\b≠rb/\MS j5 w b L
def gy w N rb b C:=b<N/\b≠rb/\Bx w b C
structure Maps w N rb(m:MV):Prop where
 d:nN w N rb m.a (Gg rb)
 wd:nN w N rb m.b (Np rb)
 at_:∃x,gy w N rb x #[rp rb]/\nN w N rb m.c (ry rb x)
 pl:∃x,gy w N rb x #[rp rb]/\nN w N rb m.d (pM rb x)
 cm:∃x y,gy w N rb x #[rp rb]/\gy w N rb y #[nM 204 rb]/\nN w N rb m.f [(du,Q5 x y)]
 sm:∃x y x' y',gy w N rb x #[rp rb]/\gy w N rb y #[nM 205 rb]/\gy w N rb x' #[rp rb]/\gy w N rb y' #[nM 205 rb]/\nN w N rb m.g [(gU,Q5 x y),(dP,Q5 x' y')]
 pr:∃x y,gy w N rb x #[rp rb]/\gy w N rb y #[nM 206 rb]/\nN w N rb m.h [(fG,Q5 x y)]
section
variable {m:MV}
theorem nN.move{v:Value}(h:nN w N rb v L)(hb:∀b,b<N->b≠rb->w'.heap[b]? =w.heap[b]?):nN w' N rb v L:=by
 obtain⟨b,h1,h2,h3,h4⟩:=h;exact⟨b,h1,h2,h3,h4.same<|hb b h2 h3⟩
theorem gy.move{b}(h:gy w N rb b C)(hs:w.heap.size<=w'.heap.size)(hb:∀b,b<N->b≠rb->w'.heap[b]? =w.heap[b]?):gy w' N rb b C:=
 ⟨h.1,h.2.1,h.2.2.same hs<|hb b h.1 h.2.1⟩
theorem Maps.move(h:Maps w N rb m)(hs:w.heap.size<=w'.heap.size)(hb:∀b,b<N->b≠rb->w'.heap[b]? =w.heap[b]?):Maps w' N rb m:=by
 obtain⟨d,wd,⟨x1,a1,a2⟩,⟨x2,b1,b2⟩,⟨x3,y3,c1,c2,c3⟩,⟨x4,y4,x5,y5,d1,d2,d3,d4,d5⟩,⟨x6,y6,e1,e2,e3⟩⟩:=h;exact⟨d.move hb,wd.move hb,⟨x1,a1.move hs hb,a2.move hb⟩,⟨x2,b1.move hs hb,b2.move hb⟩,⟨x3,y3,c1.move hs hb,c2.move hs hb,c3.move hb⟩,⟨x4,y4,x5,y5,d1.move hs hb,d2.move hs hb,d3.move hs hb,d4.move hs hb,d5.move hb⟩,⟨x6,y6,e1.move hs hb,e2.move hs hb,e3.move hb⟩⟩
structure Env w N rb sb m:Prop where
 sm:MS j5 w sb (smL rb)
 la:Laid w
 h2:3<=rb
 hr:rb<N
 hs:sb<N
 ne:sb≠rb
 hN:N<=w.heap.size
 mp:Maps w N rb m
theorem Env.move(h:Env w N rb sb m)(hs:w.heap.size<=w'.heap.size)(hb:∀b,b<N->b≠rb->w'.heap[b]? =w.heap[b]?):Env w' N rb sb m:=by
 have c:∀b o,b<3->w'.cell? ⟨b,o,none⟩=w.cell? ⟨b,o,none⟩:=λb o q=>qf (a:=⟨b,o,none⟩) (hb b (by have:=h.hr;have:=h.h2;omega) (by have:=h.h2;omega));exact⟨h.sm.same<|hb sb h.hs h.ne,⟨λj hj=>(c 2 j ae).trans<|h.la.words j hj,λj hj=>(c 0 j ae).trans<|h.la.signs j hj,jo h.la.hz hs⟩,h.h2,h.hr,h.hs,h.ne,jo h.hN hs,h.mp.move hs hb⟩
def Env.ke(h:Env w N rb sb m)(hk:Ke rb w w'):Env w' N rb sb m:=h.move hk.size λb hb hn=>hk.block b (jm hb h.hN) hn
end
structure SX w N rb sb m s k:Prop where
 bx:Bx w rb (rdC s (tk (ja s 0) k) (aF (ja s 0) k) m sb)
 ev:Env w N rb sb m
 lt:k<(ja s 0).length
 ok:(tk (ja s 0) k).kind≠6
def ap{α:Type}(R:World->(Nat->Prop)->α->Value->Prop)N rb sb m s r w e w':=
 Ke rb w w'/\match fin (ja s 0) r with
  |.error f=>e=bO f|.ok (a,k)=>∃v,e=.returned v/\SX w' N rb sb m s k/\R w' (λb=>w.heap.size<=b) a v
section
variable {R:World->(Nat->Prop)->α->Value->Prop} {m:MV}
def SX.rd(h:SX w N rb sb m s k):RD w rb sb m s (tk (ja s 0) k) (aF (ja s 0) k):=⟨h.bx,h.ev.sm,h.ev.ne,h.ev.la,h.ev.h2⟩
theorem SX.move(h:SX w N rb sb m s k)(hs:w.heap.size<=w'.heap.size)(hb:∀b,b<N->w'.heap[b]? =w.heap[b]?):SX w' N rb sb m s k:=
 ⟨h.bx.same hs<|hb rb h.ev.hr,h.ev.move hs<|λb q _=>hb b q,h.lt,h.ok⟩
def SX.af(h:SX w N rb sb m s k)(hb:Bq w w'):SX w' N rb sb m s k:=h.move hb.size λb q=>hb.block b<|jm q h.ev.hN
def SX.z(h:SX w N rb sb m s k):rb<w.heap.size:=h.bx.z
def SX.of(h:RD w rb sb m s (tk (ja s 0) k) (aF (ja s 0) k))(hE:Env w N rb sb m)(h1:k<(ja s 0).length)(h2:(tk (ja s 0) k).kind≠6):SX w N rb sb m s k:=⟨h.bx,hE,h1,h2⟩
def ap.ok{r}(h:ap R N rb sb m s r w e w'){a}(hr:fin (ja s 0) r=.ok (a,k)):∃v,e=.returned v/\Ke rb w w'/\SX w' N rb sb m s k/\R w' (λb=>w.heap.size<=b) a v:=by grind[ap,fin]
def ap.bad{r}(h:ap R N rb sb m s r w e w'){f:Fl}(hr:fin (ja s 0) r=.error f):e=bO f/\Ke rb w w':=by grind[ap,fin]
def ap.fail{r}{f:Fl}(hK:Ke rb w w')(h:fin (ja s 0) r=.error f):ap R N rb sb m s r w (bO f) w':=⟨hK,by rw[h]⟩
def ap.stop{r}{mm}{g:β->M α}{f:Fl}(hE:r=aM mm g j)(hA:fin (ja s 0) (mm j)=.error f)(iC:∀a,aR (ja s 0)<|g a)(hK:Ke rb w w'):ap R N rb sb m s r w (bO f) w':=
 ap.fail hK (by rw[hE,bT hA iC])
def ap.done{r}{a}{v:Value}(hE:r=.ok (a,k))(hK:Ke rb w w')(hS:SX w' N rb sb m s k)(hR:R w' (λb=>w.heap.size<=b) a v):ap R N rb sb m s r w (.returned v) w':=by
 refine⟨hK,?_⟩;rw[hE,ki _ hS.ok];exact⟨v,rfl,hS,hR⟩
def ap.go{f}{r}{mm}{g}{R':World->(Nat->Prop)->γ->Value->Prop}(hK:Hid (Ke rb w0 w))(hE:Hid (r=aM mm g j))(hC:Cq f args w (ap R N rb sb m s (mm j) w))(iC:∀a,aR (ja s 0)<|g a)(bad:∀f' w',ap R' N rb sb m s r w0 (bO f') w'->post (bO f') w')(ok:∀a k' v w',Hid (SX w' N rb sb m s k')->Hid (Ke rb w0 w')->Hid (r=g a k')->mm j=.ok (a,k')->w.heap.size<=w'.heap.size->Ke rb w w'->R w' (λb=>w.heap.size<=b) a v->post (.returned v) w'):Cq f args w post:=by
 refine hC.mono λe w' hp=>?_
 cases hA:fin (ja s 0) (mm j)with
 |error f'=>obtain⟨rfl,hb⟩:=hp.bad hA;exact bad f' w'<|ap.stop hE hA iC<|hK.trans hb
 |ok p=>obtain⟨a,k'⟩:=p;obtain⟨v,rfl,hb,hS,hR⟩:=hp.ok hA;exact ok a k' v w' hS (hK.trans hb) (hE.trans<|mg hA) (pK hA).1 hb.size hb hR
def ch.x{v:Value}(h:ch rb sb m s (tk (ja s 0) k) v w e w')(hX:SX w N rb sb m s k)(h7:(tk (ja s 0) k).kind≠7){a}(hR:R w' (λb=>w.heap.size<=b) a v):ap R N rb sb m s (.ok (a,k+1)) w e w':=by
 have⟨h1,h2,h3⟩:=Nn s k hX.lt h7;rw[ch]at h;rw[h2,<-h3]at h;refine⟨h.1,?_⟩;rw[fin];obtain⟨g1,g2,g3⟩|⟨g1,g2⟩:=h.2
 .simp only[if_neg g1];exact⟨v,g2,SX.of g3 (hX.ev.ke h.1) h1 g1,hR⟩
 .grind
theorem rA(h:fP t)(hk:t.kind≠6){kd}(hs:kd.size<=5):((aq t).toList==kd.toList)=a_ t kd:=by
 have hl:kd.toList.length<=5:=by rw[j7];simpa using hs
 have no:∀x:List UInt8,5<x.length->(x==kd.toList)=false:=λx hx=>by
  rw[beq_eq_false_iff_ne];intro e;rw[e]at hx;omega
 rw[a_];obtain h'|h'|h'|h'|h'|h'|h':=h.kd
 .rw[iL h',no _ qBe];simp[h']
 .rw[gO h',no _ qBe];simp[h']
 .rw[gP h',no _ qBe];simp[h']
 .rw[iM h',no _ qBe];simp[h']
 .rw[oI h'];simp[h']
 .exact absurd h' hk
 .rw[iN h',no _ qBe];simp[h']
def Nq{p:Prop}(h:p:=by
 obtain h'|h'|h'|h'|h'|h'|h':=h.kd
 .rw[iL h'];simp[h',j7]
 .rw[gO h'];simp[h',j7]
 .rw[gP h'];simp[h',j7]
 .rw[iM h'];simp[h',j7]
 .rw[lj h hk aK h'];simp[h']
 .exact absurd h' hk
 .rw[iN h'];simp[h',j7]):p:=h
def Vx(h:fP t)(hk:t.kind≠6):((aq t).toList==CB.toList)=(t.kind==1):=by
 exact Nq
def Vy(h:fP t)(hk:t.kind≠6):((aq t).toList==Kq.toList)=(t.kind==4):=by
 exact Nq
abbrev tkA(t:jc):Value:=.agg #[Nv t.al,Nv t.to,.string<|aq t,.string t.text]
abbrev nmA(t:jc):Value:=.agg #[Nv t.al,Nv t.to,.string t.text]
def Is{α:Type}u(_:World)(_:Nat->Prop)(_:α)(v:Value):=v=u
def Kr(_:World)(_:Nat->Prop)(t:jc)v:=v=nmA t
def Gh(h:a_ t c=true):t.kind≠7:=by grind[a_]
def Vz(h:SX w N rb sb m s k)(hs:s.size<=1000)c(hc:c.size<=5):Cq 97 #[rp rb,.string c] w (ap (Is<|tkA<|tk (ja s 0) k) N rb sb m s (bt (ja s 0) c k) w):=by
 have ho:=dX s k h.lt;have hk:=rA ho h.ok hc
 cases hi:a_ (tk (ja s 0) k) c with
 |true=>
  rw[hi]at hk;refine(hY h.rd hs (pd s k h.lt) c hk).mono λe w' hp=>?_;have kO:ch rb sb m s (tk (ja s 0) k) (dv<|tk (ja s 0) k) w e w':=hp;have:=kO.x (R:=Is<|tkA<|tk (ja s 0) k) h (Gh hi) (a:=()) rfl;rw[bt];rw[if_pos hi];exact this
 |false=>
  rw[hi]at hk;refine(vF h.rd c hk h.ok).mono ?_;rintro e w'⟨rfl,hK⟩;exact ap.fail hK (by rw[bt];rw[hi];rfl)
def aek(h:SX w N rb sb m s k)(hs:s.size<=1000)c(hc:c.size<=5)(hi:a_ (tk (ja s 0) k) c=true):Cq 104 #[rp rb,.string c] w (ap (Is<|.bool true) N rb sb m s (.ok ((),k+1)) w):=by
 have ho:=dX s k h.lt;have hk:=rA ho h.ok hc;rw[hi]at hk;refine(Vr h.rd hs (pd s k h.lt) c hk).mono λe w' hp=>?_;have kO:ch rb sb m s (tk (ja s 0) k) (.bool true) w e w':=hp;exact kO.x (R:=Is<|.bool true) h (Gh hi) rfl
def ael(h:SX w N rb sb m s k)c(hc:c.size<=5)(hi:a_ (tk (ja s 0) k) c=false):Cq 104 #[rp rb,.string c] w λe w'=>e=.returned (.bool false)/\w=w':=
 (aao h.rd c (by rw[rA (dX s k h.lt) h.ok hc];exact hi)).mono λe w' q=>⟨q.1,q.2.symm⟩
def sT(h:SX w N rb sb m s k)(hs:s.size<=1000)n c(hc:n=1/\c=CB\/n=2/\c=FY):Cq 141 #[rp rb,.string c] w (ap Kr N rb sb m s (di (ja s 0) n k) w):=by
 have ho:=dX s k h.lt;have hk:((aq<|tk (ja s 0) k).toList==c.toList)=((tk (ja s 0) k).kind==n):=by
  obtain⟨rfl,rfl⟩|⟨rfl,rfl⟩:=hc
  .exact Vx ho h.ok
  .exact CA ho h.ok
 cases hi:((tk (ja s 0) k).kind==n)with
 |true=>
  rw[hi]at hk;have hn:(tk (ja s 0) k).kind=n:=qBl;refine(Kn h.rd hs (pd s k h.lt) c hk).mono λe w' hp=>?_;have:=hp.x (R:=Kr) h (by obtain⟨rfl,_⟩|⟨rfl,_⟩:=hc<;>omega) (a:=tk (ja s 0) k) rfl;rw[di];rw[if_pos hi];exact this
 |false=>
  rw[hi]at hk;refine(aap h.rd c hk h.ok).mono ?_;rintro e w'⟨rfl,hK⟩;exact ap.fail hK (by rw[di];rw[hi];rfl)
def aar(h:SX w N rb sb m s k)i:Cq 105 #[rp rb,Iv i] w λe w'=>e=.returned (.agg #[Iv i,.int .i64 ((aF (ja s 0) k:Nat):Int)])/\Bq w w':=aan h.rd i
def Gi(g:Nat->α):aR T λk=>.ok (g k,k):=λ_ h=>cO _ h
theorem pN(T:List jc)n(hn:n≠6):aR T (di T n):=λk h=>by rw[di];rw[if_neg (by simp[h];omega)];rfl
end
def zM(s:BA):=∃x r,s.toList=x::r/\Pu.gI x.toNat=true
def aac s:=0<s.size/\s.size<=9/\∀i,i<s.size->jf (ji s i)=true
structure acq(t:jc):Prop where
 sp:t.to=t.al+t.text.size
 v1:t.kind=1->zM t.text
 v4:t.kind=4->aac t.text
def oE{p}:∀(d i j:Nat),j-i=d->i<=j->j<jd s p i->p (ji s j)=true:=by
 have hp6:∀i,i<jd s p i->i<s.size/\p (ji s i)=true:=λi h=>by
  by_cases hi:i<s.size
  .cases q:p (ji s i)with
   |true=>exact⟨hi,rfl⟩|false=>rw[Pu.rB hi q]at h;omega
  .rw[Pu.lp ae]at h;omega
 intro d
 induction d with
 |zero=>grind|succ d ih=>
  intro i j h1 h2 h3;have bA:i<jd s p i:=ae;have⟨g1,g2⟩:=hp6 i bA;rw[Pu.fh g1 g2]at h3;exact ih (i+1) j ae ae h3
def UJ s i e j(he:e<=s.size)(hj:i+j<e):ji (s.extract i e) j=ji s (i+j):=by
 have h1:j<(s.extract i e).size:=qBo;rw[jh h1,jh ae];rw[ByteArray.getElem_extract]
def ED s i(hi:i<s.size):acq (Pu.cN s i):=by
 have ht:=Pu.k9 s i hi;revert ht;rw[Pu.cN];have ex:∀k b:Nat,i<b->b<=s.size->(jj s i k b).to=(jj s i k b).al+(jj s i k b).text.size:=λk b h1 h2=>by
  show b=i+(s.extract i b).size;rw[ByteArray.size_extract];omega
 repeat' split
 all_goals intro ht
 all_goals refine⟨ex _ _ ht.1 ht.2,?_,?_⟩
 all_goals intro q
 all_goals try(exfalso;simp[jj]at q;done)
 .rename_i h1 _;exact⟨_,_,iH hi ht.1,by rw[<-jh hi];exact h1⟩
 .rename_i h4 h5;have hto:jd s jf (i+1)<=s.size:=ht.2;have bA:i<jd s jf (i+1):=ht.1;have eG:(s.extract i<|jd s jf<|i+1).size=jd s jf (i+1)-i:=qBo;refine⟨by show 0<(s.extract i _).size;omega,by show(s.extract i _).size<=9;omega,λj hj=>?_⟩;have hj':j<(s.extract i<|jd s jf<|i+1).size:=hj;show jf (ji (s.extract i _) j)=true;rw[UJ s i _ j hto ae]
  cases j with
  |zero=>exact h4|succ j=>exact oE j (i+1) (i+(j+1)) ae ae ae
def nO s k(hk:k<(ja s 0).length):acq (tk (ja s 0) k):=by
 rw[iK s k hk];rw[aC];split
 .rename_i h;exact ED s _ h
 .exact⟨by simp[Pu.dT];rfl,qBr,qBr⟩
inductive PP(w:World)(P:Nat->Prop):Nd->Value->Prop where
 |any(s:BA)(n f t a:Nat):PP w P (.mk 15 s n [] f t a) (.iface 337<|.agg #[Nv f,Nv t])
 |low(s:BA)(n f t a:Nat)(hs:zM s):PP w P (.mk 1 s n [] f t a) (.iface 356<|.agg #[Nv f,Nv t,.string s])
 |num(s:BA)(n f t a:Nat):PP w P (.mk 3 s n [] f t a) (.iface 326<|.agg #[Nv f,Nv t,Nv n])
 |word(s:BA)(n f t a:Nat)(hs:s.toList=fJ.toList\/s.toList=dz.toList):PP w P (.mk 4 s n [] f t a) (.iface 321<|.agg #[Nv f,Nv t,.bool<|s.toList==[116,114,117,101]])
 |unit(s:BA)(n f t a:Nat):PP w P (.mk 5 s n [] f t a) (.iface 324<|.agg #[Nv f,Nv t])
 |pr(s:BA)(n:Nat)(x y:Nd)(f t a:Nat)(vx vy:Value)(hx:PP w P x vx)(hy:PP w P y vy):PP w P (.mk 6 s n [x,y] f t a) (.iface 328<|.agg #[Nv f,Nv t,vx,vy])
 |up(s:BA)(n:Nat)(L:List Nd)(f t a y:Nat)(sa:Option Addr)(sc:Nat)(vs:Nat->Value)(hu:mN s)(hy:y=a+s.size)(aN:L=[]\/∃g,sa=some ⟨g,0,none⟩/\P g/\g<w.heap.size/\∀i,i<L.length->w.cell? ⟨g,i,none⟩=some (vs i))(hr:∀i(h:i<L.length),PP w P L[i]<|vs i):
  PP w P (.mk 2 s n L f t a) (.iface 307<|.agg #[Nv f,Nv t,Nv a,Nv y,.string s,.slice sa L.length sc])
inductive PE(w:World)(P:Nat->Prop):Nd->Value->Prop where
 |low(s:BA)(n f t a:Nat)(hs:zM s):PE w P (.mk 1 s n [] f t a) (.iface 356<|.agg #[Nv f,Nv t,.string s])
 |up(s:BA)(n f t a:Nat)(hs:mN s):PE w P (.mk 2 s n [] f t a) (.iface 390<|.agg #[Nv f,Nv t,.string s])
 |num(s:BA)(n f t a:Nat):PE w P (.mk 3 s n [] f t a) (.iface 326<|.agg #[Nv f,Nv t,Nv n])
 |word(s:BA)(n f t a:Nat)(hs:s.toList=fJ.toList\/s.toList=dz.toList):PE w P (.mk 4 s n [] f t a) (.iface 321<|.agg #[Nv f,Nv t,.bool<|s.toList==[116,114,117,101]])
 |unit(s:BA)(n f t a:Nat):PE w P (.mk 5 s n [] f t a) (.iface 324<|.agg #[Nv f,Nv t])
 |pr(s:BA)(n:Nat)(x y:Nd)(f t a:Nat)(vx vy:Value)(hx:PE w P x vx)(hy:PE w P y vy):PE w P (.mk 6 s n [x,y] f t a) (.iface 309<|.agg #[Nv f,Nv t,vx,vy])
 |of(s:BA)(n:Nat)(x y:Nd)(f t a:Nat)(vx vy:Value)(hx:PE w P x vx)(hy:PT w P y vy):PE w P (.mk 14 s n [x,y] f t a) (.iface 311<|.agg #[Nv f,Nv t,vx,vy])
 |op(s:BA)(n:Nat)(x y:Nd)(f t a:Nat)(vx vy:Value)(hs:s=gU\/s=dP\/s=fG\/s=du)(hx:PE w P x vx)(hy:PE w P y vy):PE w P (.mk 7 s n [x,y] f t a) (.iface 297<|.agg #[Nv f,Nv t,.string s,vx,vy])
 |call(s:BA)(n:Nat)(x y:Nd)(f t a:Nat)(vx vy:Value)(hx:PE w P x vx)(hy:PE w P y vy):PE w P (.mk 8 s n [x,y] f t a) (.iface 319<|.agg #[Nv f,Nv t,vx,vy])
 |fn(s:BA)(n:Nat)(x:Nd)(f t a y:Nat)(vx:Value)(hs:zM s)(hy:y=a+s.size)(hx:PE w P x vx):PE w P (.mk 9 s n [x] f t a) (.iface 313<|.agg #[Nv f,Nv t,Nv a,Nv y,.string s,vx])
 |lt(c:Nat)(s:BA)(n:Nat)(x z:Nd)(f t a y:Nat)(vx vz:Value)(hc:c=10\/c=11)(hs:zM s)(hy:y=a+s.size)(hx:PE w P x vx)(hz:PE w P z vz):PE w P (.mk c s n [x,z] f t a) (.iface 315<|.agg #[Nv f,Nv t,.bool<|c==11,Nv a,Nv y,.string s,vx,vz])
 |ite(s:BA)(n:Nat)(x y z:Nd)(f t a:Nat)(vx vy vz:Value)(hx:PE w P x vx)(hy:PE w P y vy)(hz:PE w P z vz):PE w P (.mk 12 s n [x,y,z] f t a) (.iface 317<|.agg #[Nv f,Nv t,vx,vy,vz])
 |mt(s:BA)(n:Nat)(x:Nd)(A:List (Nd×Nd))(f t a:Nat)(vx:Value)(g sc:Nat)(vp ve:Nat->Value)(h0:A≠[])(hg:P g)(hz:g<w.heap.size)(hc:∀i,i<A.length->(∃u v,w.cell? ⟨g,i*4,none⟩=some (Iv u)/\w.cell? ⟨g,i*4+1,none⟩=some (Iv v))/\w.cell? ⟨g,i*4+2,none⟩=some (vp i)/\w.cell? ⟨g,i*4+3,none⟩=some (ve i))(hx:PE w P x vx)(hp:∀i(h:i<A.length),PP w P A[i].1<|vp i)(he:∀i(h:i<A.length),PE w P A[i].2<|ve i):
  PE w P (.mk 13 s n (x::aT A) f t a) (.iface 201<|.agg #[Nv f,Nv t,vx,.slice (some ⟨g,0,none⟩) A.length sc])
section
variable {Q:Nat->Prop} {nd:Nd} {v:Value}
theorem PP.move(h:PP w P nd v)(hs:w.heap.size<=w'.heap.size)(hb:∀b,P b->b<w.heap.size->w'.heap[b]? =w.heap[b]?)(hq:∀b,P b->b<w.heap.size->Q b):PP w' Q nd v:=by
 induction h with
 |any s n f t a=>exact .any s n f t a|low s n f t a h=>exact .low s n f t a h|num s n f t a=>exact .num s n f t a|word s n f t a h=>exact .word s n f t a h|unit s n f t a=>exact .unit s n f t a|pr s n x y f t a vx vy _ _ dA gi=>exact .pr s n x y f t a vx vy dA gi|up s n L f t a y sa sc vs hu hy aN hr ih=>
  refine .up s n L f t a y sa sc vs hu hy ?_ ih;obtain h0|⟨g,h1,hP,hz,hc⟩:=aN
  .exact j8 h0
  .refine j9 ⟨g,h1,hq g hP hz,jm hz hs,λi hi=>?_⟩;rw[qf (a:=⟨g,i,none⟩) (w:=w)<|hb g hP hz];exact hc i hi
def PP.af(h:PP w P nd v)(hb:Bq w w'):PP w' P nd v:=h.move hb.size (λb _ hz=>hb.block b hz)<|λ_ p _=>p
def PP.wide(h:PP w P nd v)(hq:∀b,P b->Q b):PP w Q nd v:=h.move (br _) (λ_ _ _=>rfl)<|λb p _=>hq b p
def PP.iface(h:PP w P nd v):∃t x,v=.iface t (.agg x):=by cases h<;>exact⟨_,_,rfl⟩
theorem PE.move(h:PE w P nd v)(hs:w.heap.size<=w'.heap.size)(hb:∀b,P b->b<w.heap.size->w'.heap[b]? =w.heap[b]?)(hq:∀b,P b->b<w.heap.size->Q b):PE w' Q nd v:=by
 induction h with
 |low s n f t a h=>exact .low s n f t a h|up s n f t a h=>exact .up s n f t a h|num s n f t a=>exact .num s n f t a|word s n f t a h=>exact .word s n f t a h|unit s n f t a=>exact .unit s n f t a|pr s n x y f t a vx vy _ _ dA gi=>exact .pr s n x y f t a vx vy dA gi|of s n x y f t a vx vy _ hy dA=>exact .of s n x y f t a vx vy dA (hy.move hs hb hq)|op s n x y f t a vx vy ho _ _ dA gi=>exact .op s n x y f t a vx vy ho dA gi|call s n x y f t a vx vy _ _ dA gi=>exact .call s n x y f t a vx vy dA gi|fn s n x f t a y vx h1 h2 _ ih=>exact .fn s n x f t a y vx h1 h2 ih|lt c s n x z f t a y vx vz h1 h2 h3 _ _ dA UY=>exact .lt c s n x z f t a y vx vz h1 h2 h3 dA UY|ite s n x y z f t a vx vy vz _ _ _ dA gi UY=>exact .ite s n x y z f t a vx vy vz dA gi UY|mt s n x A f t a vx g sc vp ve h0 hg hz hc _ hp _ dA ihe=>
  have c:∀j,w'.cell? ⟨g,j,none⟩=w.cell? ⟨g,j,none⟩:=λj=>qf (a:=⟨g,j,none⟩)<|hb g hg hz;refine .mt s n x A f t a vx g sc vp ve h0 (hq g hg hz) (jm hz hs) (λi hi=>?_) dA (λi hi=>(hp i hi).move hs hb hq) ihe;rw[c,c,c,c];exact hc i hi
def PE.af(h:PE w P nd v)(hb:Bq w w'):PE w' P nd v:=h.move hb.size (λb _ hz=>hb.block b hz)<|λ_ p _=>p
def PE.wide(h:PE w P nd v)(hq:∀b,P b->Q b):PE w Q nd v:=h.move (br _) (λ_ _ _=>rfl)<|λb p _=>hq b p
def PE.iface(h:PE w P nd v):∃t x,v=.iface t (.agg x):=by cases h<;>exact⟨_,_,rfl⟩
end
def eP s n:=∀(w:World)(N rb sb:Nat)(m:MV)(k:Nat),SX w N rb sb m s k->(ja s 0).length<=k+n->
 Cq 249 #[rp rb] w (ap PE N rb sb m s (bP (ja s 0) n k) w)
def zN s n:=∀(w:World)(N rb sb:Nat)(m:MV)(k:Nat),SX w N rb sb m s k->(ja s 0).length<=k+n->
 Cq 253 #[rp rb] w (ap PP N rb sb m s (eh (ja s 0) n k) w)
def mi rb f:Cq 203 #[rp rb,nM f rb] w λe w'=>∃x y,e=.returned (Q5 x y)/\w.heap.size<=x/\w.heap.size<=y/\Bx w' x #[rp rb]/\Bx w' y #[nM f rb]/\Bq w w':=by
 go_enter func203,ntmps203
 go_wp2
 go_ret;refine⟨w.heap.size,w.heap.size+1,rfl,br _,Nat.le_succ _,(Bx.new w #[rp rb] _).alloc _,?_,(bw _).alloc ag _⟩;have:=Bx.new (w.alloc<|Cv #[rp rb] 153) #[nM f rb] 355;simpa using this
def VA rb:(Cq 126 #[rp rb] w λe w'=>∃b,e=.returned (Mv b)/\w.heap.size<=b/\MS j5 w' b (Gg rb)/\Bq w w')/\
 Cq 127 #[rp rb] w λe w'=>∃b,e=.returned (Mv b)/\w.heap.size<=b/\MS j5 w' b (Np rb)/\Bq w w':=by
 have H:=Ma.new (w:=w);have HB:=(qg w.heap.size w).alloc (br _)<|.map #[] 0;have iE:= @run_makeMap jv;refine⟨?_,?_⟩;all_goals
  first|go_enter func126,ntmps126|go_enter func127,ntmps127
  go_wp2_with((refine aU _ rfl _ _ _ _ (j8 rfl) (KL.str jx) (by first|exact Tryz.underlying232|exact jy) _ _ rfl H _ _ rfl rfl trivial (λ_ _=>trivial) ?_;clear H;intro w' H' O';have H:=ai H';have HB:=ai<|One.below HB O' qbr;clear H' O'));go_ret;exact⟨_,rfl,br _,H,HB⟩
def VB rb:(Cq 128 #[rp rb] w λe w'=>∃b x,e=.returned (Mv b)/\w.heap.size<=b/\w.heap.size<=x/\Bx w' x #[rp rb]/\MS j5 w' b (ry rb x)/\Bq w w')/\
 Cq 129 #[rp rb] w λe w'=>∃b x,e=.returned (Mv b)/\w.heap.size<=b/\w.heap.size<=x/\Bx w' x #[rp rb]/\MS j5 w' b (pM rb x)/\Bq w w':=by
 have H:Hid (MS Sv ((w.alloc<|Cv #[rp rb] 153).alloc<|.map #[] 0) (w.heap.size+1) []):=ai (by have:=Ma.new (w:=w.alloc<|Cv #[rp rb] 153);simpa using this);have HB:=ai<|((qg w.heap.size w).alloc (br _)<|Cv #[rp rb] 153).alloc ag<|.map #[] 0;have B0:=ai<|(Bx.new w #[rp rb] 153).alloc<|.map #[] 0;have⟨c0,f0,z0⟩:=uh B0;have iE:= @run_makeMap jv;refine⟨?_,?_⟩;all_goals
  first|go_enter func128,ntmps128|go_enter func129,ntmps129
  go_wp2_with((refine aU _ rfl _ _ _ _ (j8 rfl) (KL.str jx) (by first|exact jy|exact j3) _ _ rfl H _ _ rfl rfl trivial (λ_ _=>trivial) ?_;clear H;intro w' H' O';have H:=ai H';have HB:=ai<|One.below HB O' ag;have B0:=ai<|B0.one O' ag;have⟨c0,f0,z0⟩:=uh B0;clear H' O'));go_ret;exact⟨_,_,rfl,ag,br _,B0,H,HB⟩
def VC rb:(Cq 131 #[rp rb] w λe w'=>∃b x0 y0,e=.returned (Mv b)/\w.heap.size<=b/\Bx w' x0 #[rp rb]/\Bx w' y0 #[nM 204 rb]/\w.heap.size<=x0/\w.heap.size<=y0/\MS j5 w' b [(du,Q5 x0 y0)]/\Bq w w')/\
 Cq 133 #[rp rb] w λe w'=>∃b x0 y0,e=.returned (Mv b)/\w.heap.size<=b/\Bx w' x0 #[rp rb]/\Bx w' y0 #[nM 206 rb]/\w.heap.size<=x0/\w.heap.size<=y0/\MS j5 w' b [(fG,Q5 x0 y0)]/\Bq w w':=by
 have H:=Ma.new (w:=w);have HB:=(qg w.heap.size w).alloc (br _)<|.map #[] 0;have iE:= @run_makeMap jv;refine⟨?_,?_⟩;all_goals
  first|go_enter func131,ntmps131|go_enter func133,ntmps133
  go_wp2_with fail;first|refine(mi rb 204).mono ?_|refine(mi rb 206).mono ?_
  intro e w1 hp;obtain⟨x0,y0,rfl,hlx,VD,X0,Y0,hb⟩:=hp;have lx0:=jm H.lt hlx;have ly0:=jm H.lt VD;have H:=H.below hb;have HB:=HB.trans<|hb.mono HB.size;go_wp2_with(refine aU _ rfl _ _ _ _ (j8 rfl) (KL.str jx) jz _ _ rfl H _ _ rfl rfl trivial (λ_ _=>trivial) ?_;clear H;intro w' H' O';have H:=ai H';have HB:=ai<|One.below HB O' qbr;have X0:=ai<|X0.one O'<|jp lx0;have Y0:=ai<|Y0.one O'<|jp ly0;clear H' O');go_ret;exact⟨_,_,_,rfl,br _,X0,Y0,jq lx0,jq ly0,H,HB⟩
def Ks rb:Cq 132 #[rp rb] w λe w'=>∃b x0 y0 x1 y1,e=.returned (Mv b)/\w.heap.size<=b/\Bx w' x0 #[rp rb]/\Bx w' y0 #[nM 205 rb]/\w.heap.size<=x0/\w.heap.size<=y0/\Bx w' x1 #[rp rb]/\Bx w' y1 #[nM 205 rb]/\w.heap.size<=x1/\w.heap.size<=y1/\MS j5 w' b [(gU,Q5 x0 y0),(dP,Q5 x1 y1)]/\Bq w w':=by
 have H:=Ma.new (w:=w);have HB:=(Below.refl w.heap.size w).alloc (br _)<|.map #[] 0;have iE:= @run_makeMap Tryz.prog;go_enter func132,ntmps132;go_wp2_with fail;refine(mi rb 205).mono ?_;intro e w1 hp;obtain⟨x0,y0,rfl,hlx,VD,hx,hy,hb⟩:=hp;have lx0:=Nat.lt_of_lt_of_le H.lt hlx;have ly0:=Nat.lt_of_lt_of_le H.lt VD;have X0:=ai hx;have Y0:=ai hy;have H:=H.below hb;have HB:=HB.trans<|hb.mono HB.size;go_wp2_with(refine aU _ rfl _ _ _ _ (Or.inl rfl) (KL.str Tryz.underlying227) Tryz.underlying236 _ _ rfl H _ _ rfl rfl trivial (λ_ _=>trivial) ?_;clear H;intro w' H' O';have H:=ai H';have HB:=ai<|One.below HB O' qbr;have X0:=ai<|X0.one O'<|Nat.ne_of_gt lx0;have Y0:=ai<|Y0.one O'<|Nat.ne_of_gt ly0;clear H' O');refine(mi rb 205).mono ?_;intro e w2 hp;obtain⟨x1,y1,rfl,hlx,VD,X1,Y1,hb⟩:=hp;have lx1:=Nat.lt_of_lt_of_le H.lt hlx;have ly1:=Nat.lt_of_lt_of_le H.lt VD;have X0:=X0.below hb;have Y0:=Y0.below hb;have H:=H.below hb;have HB:=HB.trans<|hb.mono HB.size
 go_wp2_with(refine aU _ rfl _ _ _ _ (j8 rfl) (KL.str jx) jz _ _ rfl H _ _ rfl rfl trivial (λ_ _=>trivial) ?_;clear H;intro w' H' O';have H:=ai H';have HB:=ai<|One.below HB O' qbr;have X0:=ai<|X0.one O'<|jp lx0;have Y0:=ai<|Y0.one O'<|jp ly0;have X1:=ai<|X1.one O'<|jp lx1;have Y1:=ai<|Y1.one O'<|jp ly1;clear H' O');go_ret;exact⟨_,_,_,_,_,rfl,br _,X0,Y0,jq lx0,jq ly0,X1,Y1,jq lx1,jq ly1,H,HB⟩
def oZ w rb(ms:List (Nat×List (BA×Value)))(bs:List (Nat×Array Value)):=
 (∀p∈ms,p.1≠rb/\MS j5 w p.1 p.2)/\∀q∈bs,q.1≠rb/\Bx w q.1 q.2
section
variable {ms:List (Nat×List (BA×Value))} {bs:List (Nat×Array Value)}
def oZ.ke(h:oZ w rb ms bs)(hk:Ke rb w w'):oZ w' rb ms bs:=
 ⟨λp q=>⟨(h.1 p q).1,(h.1 p q).2.same<|hk.block _ (h.1 p q).2.lt (h.1 p q).1⟩,λp q=>⟨(h.2 p q).1,(h.2 p q).2.ke hk (h.2 p q).1⟩⟩
def oZ.m(h:oZ w rb ms bs){b}(hn:rb<b)(hm:MS j5 w b L):oZ w rb ((b,L)::ms) bs:=by grind[oZ,bs,MS]
def oZ.b(h:oZ w rb ms bs){b}(hn:rb<b)(hm:Bx w b C):oZ w rb ms ((b,C)::bs):=by grind[oZ,bs]
def oZ.map(h:oZ w rb ms bs){b}(hm:(b,L)∈ms):nN w w.heap.size rb (Mv b) L:=⟨b,rfl,(h.1 _ hm).2.lt,(h.1 _ hm).1,(h.1 _ hm).2⟩
def oZ.box(h:oZ w rb ms bs){b}(hm:(b,C)∈bs):gy w w.heap.size rb b C:=⟨(h.2 _ hm).2.z,(h.2 _ hm).1,(h.2 _ hm).2⟩
end
def agK s w e w':=
 Bq w w'/\(((aC s 0).kind≠6/\e=.returned (rp w.heap.size)/\∃N sb m,Bx w' w.heap.size (rdC s (aC s 0) 0 m sb)/\Env w' N w.heap.size sb m)\/((aC s 0).kind=6/\e=bO (db<|aC s 0)))
def CC rb:Cq 130 #[rp rb] w λe w'=>∃b,e=.returned (Mv b)/\w.heap.size<=b/\MS j5 w' b (smL rb)/\Bq w w':=zK _
def ud(h:Laid w)s(hs:s.size<=1000):Cq 96 #[.string s] w (agK s w):=by
 have B:=ai<|Bx.new w (zRd s) 238;have HB:=(Below.refl w.heap.size w).alloc (br _)<|Cv (zRd s) 238;have HL:=ai h;have HH:oZ (w.alloc<|Cv (zRd s) 238) w.heap.size [] []:=⟨λp q=>absurd q ag,λp q=>absurd q ag⟩;have⟨c,f,z⟩:=uh B;have E:∀W,Laid W->Cq 134 #[Sv s,Iv 0] W (eD (aC s 0) W):=λW hW=>F_ hW s 0 (Nat.zero_le _) hs;have dw:∀W:World,Bq w W->Laid W:=λW h=>HL.af h;have hz:=HL.hz;unfold agK;generalize aC s 0=T at E⊢;go_enter func96,ntmps96;go_wp2_with fail;have zb0:=B.z;refine(VA w.heap.size).1.mono ?_;intro e w1 hp;obtain⟨b0,rfl,le0,hM,hb⟩:=hp;have HH:=(HH.ke<|Ke.of hb).m (Nat.lt_of_lt_of_le zb0 le0) hM;have HB:=HB.trans<|hb.mono HB.size;have B:=ai<|B.below hb;have⟨c,f,z⟩:=uh B;go_wp2_with fail;have B:=ai<|B.aO 6 (Mv b0) (#[Sv s,Iv 0,Iv 0,Sv ⟨#[]⟩,Sv ⟨#[]⟩,Iv 0,Mv b0,.map none,.map none,.map none,.map none,.map none,.map none,.map none]) rfl ag;have HB:=HB.setCell (p:=⟨w.heap.size,6,none⟩) (br _)<|Mv b0;have HH:=HH.ke<|Ke.FZ _ _ 6<|Mv b0;have zb1:=B.z;refine(VA w.heap.size).2.mono ?_;intro e w1 hp;obtain⟨b1,rfl,le1,hM,hb⟩:=hp;have HH:=(HH.ke<|Ke.of hb).m (Nat.lt_of_lt_of_le zb1 le1) hM;have HB:=HB.trans<|hb.mono HB.size;have B:=ai<|B.below hb;have⟨c,f,z⟩:=uh B;go_wp2_with fail
 have B:=ai<|B.aO 7 (Mv b1) (#[Sv s,Iv 0,Iv 0,Sv ⟨#[]⟩,Sv ⟨#[]⟩,Iv 0,Mv b0,Mv b1,.map none,.map none,.map none,.map none,.map none,.map none]) rfl ag;have HB:=HB.setCell (p:=⟨w.heap.size,7,none⟩) (br _)<|Mv b1;have HH:=HH.ke<|qc _ _ 7<|Mv b1;have zb2:=B.z;refine(VB w.heap.size).1.mono ?_;intro e w1 hp;obtain⟨b2,x2,rfl,le2,lx2,hx,hM,hb⟩:=hp;have HH:=((HH.ke<|qd hb).m (jm zb2 le2) hM).b (jm zb2 lx2) hx;have HB:=HB.trans<|hb.mono HB.size;have B:=ai<|B.below hb;have⟨c,f,z⟩:=uh B;go_wp2_with fail;have B:=ai<|B.aO 8 (Mv b2) (#[Sv s,Iv 0,Iv 0,Sv ⟨#[]⟩,Sv ⟨#[]⟩,Iv 0,Mv b0,Mv b1,Mv b2,.map none,.map none,.map none,.map none,.map none]) rfl ag;have HB:=HB.setCell (p:=⟨w.heap.size,8,none⟩) (br _)<|Mv b2;have HH:=HH.ke<|qc _ _ 8<|Mv b2;have zb3:=B.z;refine(VB w.heap.size).2.mono ?_;intro e w1 hp;obtain⟨b3,x3,rfl,le3,lx3,hx,hM,hb⟩:=hp;have HH:=((HH.ke<|qd hb).m (jm zb3 le3) hM).b (jm zb3 lx3) hx;have HB:=HB.trans<|hb.mono HB.size;have B:=ai<|B.below hb;have⟨c,f,z⟩:=uh B;go_wp2_with fail;have B:=ai<|B.aO 9 (Mv b3) (#[Sv s,Iv 0,Iv 0,Sv ⟨#[]⟩,Sv ⟨#[]⟩,Iv 0,Mv b0,Mv b1,Mv b2,Mv b3,.map none,.map none,.map none,.map none]) rfl ag;have HB:=HB.setCell (p:=⟨w.heap.size,9,none⟩) (br _)<|Mv b3;have HH:=HH.ke<|qc _ _ 9<|Mv b3;have zb4:=B.z
 refine(CC w.heap.size).mono ?_;intro e w1 hp;obtain⟨b4,rfl,le4,hM,hb⟩:=hp;have HH:=(HH.ke<|qd hb).m (jm zb4 le4) hM;have HB:=HB.trans<|hb.mono HB.size;have B:=ai<|B.below hb;have⟨c,f,z⟩:=uh B;go_wp2_with fail;have B:=ai<|B.aO 10 (Mv b4) (#[Sv s,Iv 0,Iv 0,Sv ⟨#[]⟩,Sv ⟨#[]⟩,Iv 0,Mv b0,Mv b1,Mv b2,Mv b3,Mv b4,.map none,.map none,.map none]) rfl ag;have HB:=HB.setCell (p:=⟨w.heap.size,10,none⟩) (br _)<|Mv b4;have HH:=HH.ke<|qc _ _ 10<|Mv b4;have zb5:=B.z;refine(VC w.heap.size).1.mono ?_;intro e w1 hp;obtain⟨b5,x5,y5,rfl,le5,hx,hy,lx,ly,hM,hb⟩:=hp;have HH:=(((HH.ke<|qd hb).m (jm zb5 le5) hM).b (jm zb5 lx) hx).b (jm zb5 ly) hy;have HB:=HB.trans<|hb.mono HB.size;have B:=ai<|B.below hb;have⟨c,f,z⟩:=uh B;go_wp2_with fail;have B:=ai<|B.aO 11 (Mv b5) (#[Sv s,Iv 0,Iv 0,Sv ⟨#[]⟩,Sv ⟨#[]⟩,Iv 0,Mv b0,Mv b1,Mv b2,Mv b3,Mv b4,Mv b5,.map none,.map none]) rfl ag;have HB:=HB.setCell (p:=⟨w.heap.size,11,none⟩) (br _)<|Mv b5;have HH:=HH.ke<|qc _ _ 11<|Mv b5;have zb6:=B.z;refine(Ks w.heap.size).mono ?_;intro e w1 hp;obtain⟨b6,x6,y6,u6,v6,rfl,le6,hx,hy,lx,ly,hu,hv,lu,lv,hM,hb⟩:=hp
 have HH:=(((((HH.ke<|qd hb).m (jm zb6 le6) hM).b (jm zb6 lx) hx).b (jm zb6 ly) hy).b (jm zb6 lu) hu).b (jm zb6 lv) hv;have HB:=HB.trans<|hb.mono HB.size;have B:=ai<|B.below hb;have⟨c,f,z⟩:=uh B;go_wp2_with fail;have B:=ai<|B.aO 12 (Mv b6) (#[Sv s,Iv 0,Iv 0,Sv ⟨#[]⟩,Sv ⟨#[]⟩,Iv 0,Mv b0,Mv b1,Mv b2,Mv b3,Mv b4,Mv b5,Mv b6,.map none]) rfl ag;have HB:=HB.setCell (p:=⟨w.heap.size,12,none⟩) (br _)<|Mv b6;have HH:=HH.ke<|qc _ _ 12<|Mv b6;have zb7:=B.z;refine(VC w.heap.size).2.mono ?_;intro e w1 hp;obtain⟨b7,x7,y7,rfl,le7,hx,hy,lx,ly,hM,hb⟩:=hp;have HH:=(((HH.ke<|qd hb).m (jm zb7 le7) hM).b (jm zb7 lx) hx).b (jm zb7 ly) hy;have HB:=HB.trans<|hb.mono HB.size;have B:=ai<|B.below hb;have⟨c,f,z⟩:=uh B;go_wp2_with fail;have B:=ai<|B.aO 13 (Mv b7) (#[Sv s,Iv 0,Iv 0,Sv ⟨#[]⟩,Sv ⟨#[]⟩,Iv 0,Mv b0,Mv b1,Mv b2,Mv b3,Mv b4,Mv b5,Mv b6,Mv b7]) rfl ag;have HB:=HB.setCell (p:=⟨w.heap.size,13,none⟩) (br _)<|Mv b7;have HH:=HH.ke<|qc _ _ 13<|Mv b7;refine(E _<|dw _ HB).mono ?_;intro e w9 hp;by_cases hk:T.kind=6
 .obtain⟨rfl,hb⟩:=hp.bad hk;have HB:=HB.trans<|hb.mono HB.size;exact⟨rfl,HB,j9 ⟨hk,by rw[aco T hk];rfl⟩⟩
 .obtain⟨rfl,hb⟩:=hp.ok hk;have HB:=HB.trans<|hb.mono HB.size;have B:=ai<|B.below hb;have HH:=HH.ke<|qd hb;have⟨c,f,z⟩:=uh B
  go_wp2
  go_ret;have ed:=(((HB.setCell (p:=⟨w.heap.size,1,none⟩) (br _)<|Nv T.al).setCell (p:=⟨w.heap.size,2,none⟩) (br _)<|Nv T.to).setCell (p:=⟨w.heap.size,3,none⟩) (br _)<|Sv<|aq T).setCell (p:=⟨w.heap.size,4,none⟩) (br _)<|Sv T.text;have yS:=((((HH.ke<|qc _ _ 1<|Nv T.al).ke<|qc _ _ 2<|Nv T.to).ke<|qc _ _ 3<|Sv<|aq T).ke<|qc _ _ 4<|Sv T.text);have B2:=B.Vp (Nv T.al) (Nv T.to) (Sv<|aq T)<|Sv T.text;generalize(((w9.setCell ⟨w.heap.size,1,none⟩<|Nv T.al).setCell ⟨w.heap.size,2,none⟩<|Nv T.to).setCell ⟨w.heap.size,3,none⟩<|Sv<|aq T).setCell ⟨w.heap.size,4,none⟩ (Sv T.text)=W at ed yS B2⊢;have sm4:=yS.map (b:=b4) (L:=smL w.heap.size)<|jk _<|jk _<|jk _<|jl _;obtain⟨_,q1,q2,q3,q4⟩:=sm4
  cases q1
  refine⟨ed,j8 ⟨hk,rfl,W.heap.size,b4,⟨Mv b0,Mv b1,Mv b2,Mv b3,Mv b5,Mv b6,Mv b7⟩,B2,q4,dw _ ed,hz,B2.z,q2,q3,br _,?_⟩⟩
  exact⟨yS.map<|jk _<|jk _<|jk _<|jk _<|jk _<|jk _<|jk _<|jl _,yS.map<|jk _<|jk _<|jk _<|jk _<|jk _<|jk _<|jl _,⟨x2,yS.box<|jk _<|jk _<|jk _<|jk _<|jk _<|jk _<|jk _<|jk _<|jk _<|jl _,yS.map<|jk _<|jk _<|jk _<|jk _<|jk _<|jl _⟩,⟨x3,yS.box<|jk _<|jk _<|jk _<|jk _<|jk _<|jk _<|jk _<|jk _<|jl _,yS.map<|jk _<|jk _<|jk _<|jk _<|jl _⟩,⟨x5,y5,yS.box<|jk _<|jk _<|jk _<|jk _<|jk _<|jk _<|jk _<|jl _,yS.box<|jk _<|jk _<|jk _<|jk _<|jk _<|jk _<|jl _,yS.map<|jk _<|jk _<|jl _⟩,⟨x6,y6,u6,v6,yS.box<|jk _<|jk _<|jk _<|jk _<|jk _<|jl _,yS.box<|jk _<|jk _<|jk _<|jk _<|jl _,yS.box<|jk _<|jk _<|jk _<|jl _,yS.box<|jk _<|jk _<|jl _,yS.map<|jk _<|jl _⟩,⟨x7,y7,yS.box<|jk _<|jl _,yS.box<|jl _,yS.map<|jl _⟩⟩
end
def Gk w e s:Bq w (Lib.bytesWorld w e s):=by
 refine⟨?_,?_,?_,by rw[Lib.bytesWorld_size];omega,λb hb=>Lib.bytesWorld_at_old w e s b hb⟩;all_goals(simp[Lib.bytesWorld,World.freeze];try rfl)
def aas s(h:aac s):Cq 274 #[.string s] w λe w'=>e=.returned (.tuple #[Nv<|wQ s,.nilIface])/\Bq w w':=by
 obtain⟨h0,h9,hd⟩:=h;have hcv:=Lib.run_convert_string_bytes (P:=Tryz.prog) w 9 108 5 s Tryz.underlying9 Tryz.underlying108 Tryz.underlying5;have hb:=Gk w 5 s;have bU:=λj hj=>Lib.bytesWorld_cell w 5 s j hj;have l0:(0:Int)<(s.size:Int):=ae;have l1:(s.size:Int)<19:=ae;have a0:=hd 0 h0;rw[Pu.ni h0]at a0;simp only[Pu.dH,Bool.and_eq_true,Nat.ble_eq]at a0;have e1:((s[0].toNat:Int)==45)=false:=bQ;have e2:((s[0].toNat:Int)==43)=false:=bQ;generalize Lib.bytesWorld w 5 s=W at hcv hb bU;generalize grownCap w s.size 0 5=C at hcv;go_enter func274,ntmps274
 go_wp2
 go_loop[6,49] (λn i=>∃k:Nat,k<=s.size/\i=Nv k/\n=Nv (uT s k)) (λ_ i=>s.size-(intOf i).toNat)
 case atStart=>exact⟨0,ae,rfl,rfl⟩
 case round=>
  obtain⟨k,h1,rfl,rfl⟩:=hrel;have hn:=aat s k ae;by_cases ha:k<s.size
  .have hc:=bU k ha;have dk:=hd k ha;have ek:s.data.toList.getD k 0=s[k]:=by
    rw[List.getD_eq_getElem?_getD,List.getElem?_eq_getElem<|by simpa using ha];rfl
   rw[ek]at hc;rw[jh ha]at dk;simp only[jf,qe,Nat.ble_eq]at dk;have bA:(k:Int)<(s.size:Int):=ae;clear bU
   go_wp2
   refine⟨⟨k+1,ae,iF,congrArg (Value.int .i64) ?_⟩,by simp[intOf];omega⟩;simp only[uT,jh ha];omega
  .have bA:decide ((k:Int)<(s.size:Int))=false:=bQ;clear bU
   go_wp2
   go_ret2;have ek:k=s.size:=ae;refine⟨?_,hb⟩;show Rv (.tuple #[Nv<|uT s k,Zv])=_;rw[wQ];rw[show min s.size 9=k by omega]
def aem w:(binOp .neq 290 .nilIface .nilIface).run jv w=.ok (.bool false) w:=qkr
def aen s(h:aac s):Cq 252 #[.string s] w λe w'=>e=.returned (.tuple #[Nv<|wQ s,.nilIface])/\Bq w w':=by
 have HC:=aas (w:=w) s h;have hn:=aem;go_enter func252,ntmps252;go_wp2_with fail;refine HC.mono ?_;rintro e w1⟨rfl,hb⟩
 go_wp2
 go_ret2;exact⟨rfl,hb⟩
section
open Go.ChangeMaps
section
variable {m:MV}
def SX.set(h:SX w N rb sb m s k){b:Nat}(hb:N<=b)j v:SX (w.setCell ⟨b,j,none⟩ v) N rb sb m s k:=
 h.move xH λc hc=>qh _ _ _ _ (by show c≠b;omega)
def SX.zL(h:SX w N rb sb m s k){b:Nat}(hb:N<=b)v0 v1 v2:SX (((w.setCell ⟨b,0,none⟩ v0).setCell ⟨b,1,none⟩ v1).setCell ⟨b,2,none⟩ v2) N rb sb m s k:=((h.set hb 0 v0).set hb 1 v1).set hb 2 v2
def VE(h:SX w N rb sb m s k)(hs:s.size<=1000)(h7:(tk (ja s 0) k).kind≠7):Cq 136 #[rp rb] w (ap (Is<|tkA<|tk (ja s 0) k) N rb sb m s (.ok ((),k+1)) w):=
 (xI h.rd hs<|pd s k h.lt).mono λe w' hp=>by
  have kO:ch rb sb m s (tk (ja s 0) k) (dv<|tk (ja s 0) k) w e w':=hp;exact kO.x (R:=Is<|tkA<|tk (ja s 0) k) h h7 rfl
def Q6(h:SX w N rb sb m s k)(hs:s.size<=1000)(h4:(tk (ja s 0) k).kind=4):Cq 97 #[rp rb,.string Kq] w (ap (Is<|tkA<|tk (ja s 0) k) N rb sb m s (.ok ((),k+1)) w):=by
 have hk:=Vy (dX s k h.lt) h.ok;rw[h4]at hk;refine(hY h.rd hs (pd s k h.lt) Kq<|by simpa using hk).mono λe w' hp=>?_;have kO:ch rb sb m s (tk (ja s 0) k) (dv<|tk (ja s 0) k) w e w':=hp;exact kO.x (R:=Is<|tkA<|tk (ja s 0) k) h ae rfl
def rC{k}(h:(tk T k).kind=n):di T n k=.ok (tk T k,k+1):=by grind[tk,di]
def rD{k}c(h:bE (tk T k)=c):cu (tk T k)=.mk c (tk T k).text (eC<|tk T k) [] (tk T k).al (tk T k).to (tk T k).al:=by rw[cu];rw[h]
def Q7(h:SX w N rb sb m s k)(hs:s.size<=1000):Cq 185 #[rp rb] w (ap Kr N rb sb m s (di (ja s 0) 1 k) w):=by
 have hz:=h.z;have hN:=h.ev.hN;have⟨b0,B0⟩:=mM w zNm 356;have HC:=sT (h.af b0) hs 1 CB<|Or.inl ⟨rfl,rfl⟩;go_enter func185,ntmps185;go_wp2_with fail;refine HC.mono ?_;intro e w1 hp
 cases hA:fin (ja s 0) (di (ja s 0) 1 k)with
 |error f=>
  obtain⟨rfl,hb⟩:=hp.bad hA;exact⟨rfl,ap.fail ((qd b0).trans hb) hA⟩
 |ok r=>
 obtain⟨t,k1⟩:=r;obtain⟨v,rfl,hb,hS,hR⟩:=hp.ok hA
 cases hR
 have B1:=ai<|(B0.ri hb ae).alloc<|Cv #[Nv t.al,Nv t.to,Sv t.text] 133;have K1:=((qd b0).trans hb).eZ<|bw<|Cv #[Nv t.al,Nv t.to,Sv t.text] 133;have S1:=hS.af<|bw<|Cv #[Nv t.al,Nv t.to,Sv t.text] 133;have bA:=hb.size;simp at bA;have⟨c,f,z⟩:=uh B1;go_wp2_with fail;have⟨cF,fF,zF⟩:=B1.fN rfl (Nv t.al) (Nv t.to) (Sv t.text);exact bodyPost_ret (v:=nmA t) (by simp[results,Tryz.results185,go_sem,cF]) rfl (ap.done (pK hA).1 (K1.ru (br _) _ _ _) (S1.zL hN _ _ _) rfl)
def rE{p:Prop}(h:p:=by
 obtain⟨rfl,hb⟩:=hp.bad<|cO _ h6
 exact⟨rfl,ap.fail hb<|cO _ h6⟩):p:=h
def acr(h:SX w N rb sb m s k)(hs:s.size<=1000)(hk:(tk (ja s 0) k).kind=2):(Cq 186 #[rp rb] w<|ap PE N rb sb m s (.ok (cu<|tk (ja s 0) k,k+1)) w)/\
 Cq 195 #[rp rb] w (ap PP N rb sb m s (.ok (cu<|tk (ja s 0) k,k+1)) w):=by
 have hi:=nO s k h.lt;have ho:=dX s k h.lt;have HC:=sT h hs 2 FY<|j9 ⟨rfl,rfl⟩;have Th:=gK;refine⟨?_,?_⟩;all_goals
  first|go_enter func186,ntmps186|go_enter func195,ntmps195
  go_wp2_with fail;refine HC.mono ?_;intro e w1 hp;have hm:=rC hk;rw[hm]at hp;by_cases h6:(tk (ja s 0)<|k+1).kind=6
  .exact rE
  obtain⟨v,rfl,hb,hS,hR⟩:=hp.ok<|ki _ h6
  cases hR
  have K1:=hb.eZ<|bw<|Cv #[Nv (tk (ja s 0) k).al,Nv (tk (ja s 0) k).to,Sv (tk (ja s 0) k).text] 133;have S1:=hS.af<|bw<|Cv #[Nv (tk (ja s 0) k).al,Nv (tk (ja s 0) k).to,Sv (tk (ja s 0) k).text] 133
  go_wp2
  go_ret;refine ap.done rfl K1 S1 ?_;rw[rD 2 (by rw[bE];simp[hk])];first|exact .up _ _ _ _ _ (ho.v2 hk)|exact .up _ _ [] _ _ _ _ none 0 (λ_=>Zv) (ho.v2 hk) hi.sp (j8 rfl) (λi hi=>by simp at hi)
def Kt(h:SX w N rb sb m s k)(hs:s.size<=1000)(hk:a_ (tk (ja s 0) k) wU=true):Cq 193 #[rp rb] w (ap PP N rb sb m s (.ok (cu<|tk (ja s 0) k,k+1)) w):=by
 have hi:=nO s k h.lt;have ho:=dX s k h.lt;have HC:=Vz h hs wU aK;have Th:=gK;go_enter func193,ntmps193;go_wp2_with fail;refine HC.mono ?_;intro e w1 hp;have hm:bt (Pu.bC s 0) wU k=.ok ((),k+1):=by rw[bt];rw[if_pos hk]
 rw[hm]at hp;by_cases h6:(tk (ja s 0)<|k+1).kind=6
 .exact rE
 obtain⟨v,rfl,K1,S1,hR⟩:=hp.ok<|ki _ h6
 cases hR
 go_wp2
 go_ret;refine ap.done rfl K1 S1 ?_;have h5:=nQ hk;rw[rD 15 (by rw[bE];rw[if_neg ae,if_neg ae,if_neg ae,if_neg ae,if_neg (by rw[Gl,AH];rw[Nr]at hk;simp at hk;simp[hk.2]),if_pos hk])];exact .any _ _ _ _ _
def Nt{p:Prop}(h:p:=by
 obtain⟨rfl,hb⟩:=hp.bad<|cO _ h6
 exact⟨rfl,ap.fail ((qd b0).trans hb)<|cO _ h6⟩):p:=h
def aau(h:SX w N rb sb m s k)(hs:s.size<=1000)(hk:a_ (tk (ja s 0) k) fJ=true\/a_ (tk (ja s 0) k) dz=true):Cq 190 #[rp rb] w (ap (Is<|.agg #[Nv (tk (ja s 0) k).al,Nv (tk (ja s 0) k).to,.bool<|(aq<|tk (ja s 0) k).toList==[116,114,117,101]]) N rb sb m s (.ok ((),k+1)) w):=by
 have hz:=h.z;have hN:=h.ev.hN;have hi:=nO s k h.lt;have⟨b0,B0⟩:=mM w #[Iv 0,Iv 0,.bool false] 321;have HC:=VE (h.af b0) hs (by obtain hk|hk:=hk<;>exact Gh hk);go_enter func190,ntmps190;go_wp2_with fail;refine HC.mono ?_;intro e w1 hp;by_cases h6:(tk (Pu.bC s 0)<|k+1).kind=6
 .exact Nt
 obtain⟨v,rfl,hb,hS,hR⟩:=hp.ok<|ki _ h6
 cases hR
 have B1:=ai<|(B0.ri hb ae).alloc<|Cv #[Nv (tk (ja s 0) k).al,Nv (tk (ja s 0) k).to,Sv<|aq<|tk (ja s 0) k,Sv (tk (ja s 0) k).text] 229;have K1:=((qd b0).trans hb).eZ<|bw<|Cv #[Nv (tk (ja s 0) k).al,Nv (tk (ja s 0) k).to,Sv<|aq<|tk (ja s 0) k,Sv (tk (ja s 0) k).text] 229;have S1:=hS.af<|bw<|Cv #[Nv (tk (ja s 0) k).al,Nv (tk (ja s 0) k).to,Sv<|aq<|tk (ja s 0) k,Sv (tk (ja s 0) k).text] 229;have bA:=hb.size;simp at bA;have⟨c,f,z⟩:=uh B1;go_wp2_with fail;have⟨cF,fF,zF⟩:=B1.fN rfl (Nv (tk (ja s 0) k).al) (Nv (tk (ja s 0) k).to) (.bool<|(aq<|tk (ja s 0) k).toList==[116,114,117,101]);exact bodyPost_ret (v:=Av #[Nv (tk (ja s 0) k).al,Nv (tk (ja s 0) k).to,.bool<|(aq<|tk (ja s 0) k).toList==[116,114,117,101]]) (by simp[results,Tryz.results190,go_sem,cF]) rfl (ap.done rfl (K1.ru (br _) _ _ _) (S1.zL hN _ _ _) rfl)
def VG(h:SX w N rb sb m s k)(hs:s.size<=1000)(hk:(tk (ja s 0) k).kind=4):Cq 188 #[rp rb] w (ap (Is<|.agg #[Nv (tk (ja s 0) k).al,Nv (tk (ja s 0) k).to,Nv<|wQ (tk (ja s 0) k).text]) N rb sb m s (.ok ((),k+1)) w):=by
 have hz:=h.z;have hN:=h.ev.hN;have hi:=nO s k h.lt;have⟨b0,B0⟩:=mM w #[Iv 0,Iv 0,Iv 0] 326;have HC:=Q6 (h.af b0) hs hk;go_enter func188,ntmps188;go_wp2_with fail;refine HC.mono ?_;intro e w1 hp;by_cases h6:(tk (Pu.bC s 0)<|k+1).kind=6
 .exact Nt
 obtain⟨v,rfl,hb,hS,hR⟩:=hp.ok<|ki _ h6
 cases hR
 have B1:=ai<|(B0.ri hb ae).alloc<|Cv #[Nv (tk (ja s 0) k).al,Nv (tk (ja s 0) k).to,Sv<|aq<|tk (ja s 0) k,Sv (tk (ja s 0) k).text] 229;have B2:=ai<|Bx.new w1 #[Nv (tk (ja s 0) k).al,Nv (tk (ja s 0) k).to,Sv<|aq<|tk (ja s 0) k,Sv (tk (ja s 0) k).text] 229;have K1:=((qd b0).trans hb).eZ<|bw<|Cv #[Nv (tk (ja s 0) k).al,Nv (tk (ja s 0) k).to,Sv<|aq<|tk (ja s 0) k,Sv (tk (ja s 0) k).text] 229;have S1:=hS.af<|bw<|Cv #[Nv (tk (ja s 0) k).al,Nv (tk (ja s 0) k).to,Sv<|aq<|tk (ja s 0) k,Sv (tk (ja s 0) k).text] 229;have bA:=hb.size;simp at bA;have⟨c,f,z⟩:=uh B1;have⟨c2,f2,z2⟩:=uh B2;go_wp2_with fail;refine(aen _<|hi.v4 hk).mono ?_;rintro e w2⟨rfl,hb⟩;have B1:=ai<|B1.below hb;have B2:=ai<|B2.below hb;have K1:=K1.eZ hb;have S1:=S1.af hb;have⟨c,f,z⟩:=uh B1;have⟨c2,f2,z2⟩:=uh B2;go_wp2_with fail;have⟨cF,fF,zF⟩:=B1.fN rfl (Nv (tk (ja s 0) k).al) (Nv (tk (ja s 0) k).to) (Nv<|wQ (tk (ja s 0) k).text);exact bodyPost_ret (v:=Av #[Nv (tk (ja s 0) k).al,Nv (tk (ja s 0) k).to,Nv<|wQ (tk (ja s 0) k).text]) (by simp[results,Tryz.results188,go_sem,cF]) rfl (ap.done rfl (K1.ru (br _) _ _ _) (S1.zL hN _ _ _) rfl)
end
section
variable {m:MV}
def CF(h:a_ t fJ=true\/a_ t dz=true):bE t=4:=by
 have h5:t.kind=5:=by obtain h|h:=h<;>exact nQ h
 rw[bE];rw[if_neg ae,if_neg ae,if_neg ae,if_neg ae,if_pos h]
def aav(h:a_ t fJ=true\/a_ t dz=true):t.text.toList=fJ.toList\/t.text.toList=dz.toList:=by
 obtain h|h:=h
 .left;rw[a_]at h;simp only[qe,beq_iff_eq]at h;exact h.2
 .right;rw[a_]at h;simp only[qe,beq_iff_eq]at h;exact h.2
def VH(h:SX w N rb sb m s k)(hs:s.size<=1000)(hk:(tk (ja s 0) k).kind=1)x(hx:Bx w x #[rp rb]):
 Cq 184 #[Pv x] w (ap PE N rb sb m s (.ok (cu<|tk (ja s 0) k,k+1)) w)/\
 Cq 194 #[Pv x] w (ap PP N rb sb m s (.ok (cu<|tk (ja s 0) k,k+1)) w):=by
 have hi:=nO s k h.lt;have HC:=Q7 h hs;obtain⟨c0,f0,z0⟩:=hx;refine⟨?_,?_⟩;all_goals
  first|go_enter func184,ntmps184|go_enter func194,ntmps194
  go_wp2_with fail;refine HC.mono ?_;intro e w1 hp;rw[rC hk]at hp;by_cases h6:(tk (ja s 0)<|k+1).kind=6
  .exact rE
  obtain⟨v,rfl,K1,S1,hR⟩:=hp.ok<|ki _ h6
  cases hR
  go_wp2
  go_ret;refine ap.done rfl K1 S1 ?_;rw[rD 1 (by rw[bE];simp[hk])];exact .low _ _ _ _ _<|hi.v1 hk
def VJ(h:SX w N rb sb m s k)(hs:s.size<=1000)(hk:(tk (ja s 0) k).kind=4)x(hx:Bx w x #[rp rb]):
 Cq 187 #[Pv x] w (ap PE N rb sb m s (.ok (cu<|tk (ja s 0) k,k+1)) w)/\
 Cq 196 #[Pv x] w (ap PP N rb sb m s (.ok (cu<|tk (ja s 0) k,k+1)) w):=by
 have hi:=nO s k h.lt;have HC:=VG h hs hk;obtain⟨c0,f0,z0⟩:=hx;refine⟨?_,?_⟩;all_goals
  first|go_enter func187,ntmps187|go_enter func196,ntmps196
  go_wp2_with fail;refine HC.mono ?_;intro e w1 hp;by_cases h6:(tk (ja s 0)<|k+1).kind=6
  .exact rE
  obtain⟨v,rfl,K1,S1,hR⟩:=hp.ok<|ki _ h6
  cases hR
  go_wp2
  go_ret;refine ap.done rfl K1 S1 ?_;rw[rD 3 (by rw[bE];simp[hk]),show eC (tk (ja s 0) k)=wQ (tk (ja s 0) k).text by rw[eC];simp[hk]];exact .num _ _ _ _ _
def vG(h:SX w N rb sb m s k)(hs:s.size<=1000)(hk:a_ (tk (ja s 0) k) fJ=true\/a_ (tk (ja s 0) k) dz=true)x(hx:Bx w x #[rp rb]):
 Cq 189 #[Pv x] w (ap PE N rb sb m s (.ok (cu<|tk (ja s 0) k,k+1)) w)/\
 Cq 191 #[Pv x] w (ap PE N rb sb m s (.ok (cu<|tk (ja s 0) k,k+1)) w)/\
 Cq 197 #[Pv x] w (ap PP N rb sb m s (.ok (cu<|tk (ja s 0) k,k+1)) w)/\
 Cq 198 #[Pv x] w (ap PP N rb sb m s (.ok (cu<|tk (ja s 0) k,k+1)) w):=by
 have hi:=nO s k h.lt;have HC:=aau h hs hk;obtain⟨c0,f0,z0⟩:=hx;refine⟨?_,?_,?_,?_⟩;all_goals
  first|go_enter func189,ntmps189|go_enter func191,ntmps191|go_enter func197,ntmps197|go_enter func198,ntmps198
  go_wp2_with fail;refine HC.mono ?_;intro e w1 hp;by_cases h6:(tk (ja s 0)<|k+1).kind=6
  .exact rE
  obtain⟨v,rfl,K1,S1,hR⟩:=hp.ok<|ki _ h6
  cases hR
  go_wp2
  go_ret;refine ap.done rfl K1 S1 ?_;rw[rD 4<|CF hk,oI (by obtain hk|hk:=hk<;>exact nQ hk)];exact .word _ _ _ _ _<|aav hk
end
def sU(h:t.kind=6)sort:aG t sort=false:=by
 have h0:bE t=0:=by rw[bE];simp[h,dY h]
 rw[aG];rw[dY h,h0];repeat' split
 all_goals rfl
def mj p q sort:aR T (aP T p q sort):=λk h=>by rw[aP];rw[sU h];rfl
def ue p q sort f a:aR T (k_ T p q sort f a):=λk h=>by
 rw[k_];rw[dY h,dY h];rw[if_neg ag,if_neg ag];exact Gd T _ k h
theorem iO(sm:M Nd)(sort:Nat):∀f x,aR T<|eN T sm sort f x
 |0,x=>λk h=>cO _ h|f+1,x=>λk h=>by unfold eN;rw[sU h];exact cO _ h
def Gm(hs:aR T sm):aR T (jB T sm sort):=λk h=>by
 rw[jB];rw[if_neg<|by simp[h]];exact hs k h
def oJ:∀n,aR T<|eh T n
 |0=>λk h=>rfl|n+1=>Gm<|mj _ _ _
def nR{p:M Nd}(hp:aR T p)sort f:aR T (jA T p q sort f):=λk h=>by
 rw[jA];rw[dY h,if_neg ag];exact bT (hp k h) λa=>ue _ _ _ _ a
def uf(sm:M Nd)(fr:Nat):∀f x,aR T<|jC T sm fr f x
 |0,x=>λk h=>cO _ h|f+1,x=>λk h=>by unfold jC;rw[sU h];exact cO _ h
def nS(sm:M Nd)(fr:Nat):∀f x,aR T<|kg T sm fr f x
 |0,x=>λk h=>cO _ h|f+1,x=>λk h=>by unfold kg;rw[dY h];exact cO _ h
def pO(sm:M Nd)(fr:Nat):∀f x,aR T<|qU T sm fr f x
 |0,x=>λk h=>cO _ h|f+1,x=>λk h=>by unfold qU;rw[dY h,dY h,if_neg ag];exact cO _ h
def mn(hs:aR T sm):aR T (dr T sm):=λk h=>bT (hs k h) λa=>uf _ _ _ a
def pP(hs:aR T sm):aR T (fK T sm):=λk h=>bT (hs k h) λa=>nS _ _ _ a
def AK(hs:aR T sm):aR T (uV T sm):=λk h=>bT (hs k h) λa=>pO _ _ _ a
def Gn sum fr(x:Nd):=λk1=>if a_ (tk T k1) du=true then aM sum (λy k'=>.ok (.mk 7 du 0 [x,y] fr (aF T k') fr,k')) (k1+1)else .ok (x,k1)
def ug sum fr x:aR T (Gn (T:=T) sum fr x):=λk h=>by rw[Gn];rw[dY h];exact cO _ h
def aaw sum k:qV T sum k=aM sum (Gn (T:=T) sum (tk T k).al) k:=rfl
def Ku{sum}(hs:aR T sum):aR T (qV T sum):=λk h=>bT (hs k h) λa=>ug _ _ a
def mq:∀n,aR T<|bP T n
 |0=>λk h=>rfl|n+1=>λk h=>by
  unfold bP;rw[dY h,dY h,dY h,dY h];exact Ku (AK<|pP<|mn<|mj _ _ _) k h
def Q8 e:aR T (sF T e):=λk h=>by
 rw[sF,aM];rw[show bt T JW k=.error (db<|tk T k) by rw[bt];rw[dY h];rfl];rfl
def pi:M Unit:=λk=>.ok ((),k+1)
def sW{p:M Nd}(h:a_ (tk T k) l_=true):aP T p q sort k=aM (bt T l_) (λ_=>jA T p q sort (tk T k).al) k:=by
 have h':=h;rw[aP,aM,bt];rw[if_pos (by rw[aG];simp[h']),if_pos h',if_pos h]
def xL{p:M Nd}(h1:sort≠1)(h:a_ (tk T k) kG=true):jA T p q sort f k=aM pi (λ_ j=>.ok (.mk 5 iq 0 [] f (aF T j) f,j)) k:=by
 rw[jA];rw[if_pos ⟨h1,h⟩];rfl
def xM{p:M Nd}(h:a_ (tk T k) kG=false):jA T p q sort f k=aM p (k_ T p q sort f) k:=by
 rw[jA];rw[if_neg<|by simp[h]]
def nT{p:M Nd}(h:a_ (tk T k) pQ=true):k_ T p q sort f a k=aM pi (λ_=>aM p λb=>aM (bt T kG) λ_ j=>.ok (.mk 6 iq 0 [a,b] f (aF T j) f,j)) k:=by rw[k_];rw[if_pos h];rfl
def Gp{p:M Nd}(h0:a_ (tk T k) pQ=false)(h:a_ (tk T k) CG=true):k_ T p q 3 f a k=aM pi (λ_=>aM q λb=>aM (bt T kG) λ_ j=>.ok (.mk 14 iq 0 [a,b] f (aF T j) f,j)) k:=by rw[k_];rw[if_neg<|by simp[h0],if_pos ⟨rfl,h⟩];rfl
def uj{p:M Nd}(h0:a_ (tk T k) pQ=false)(h:sort=3->a_ (tk T k) CG=false):k_ T p q sort f a k=aM (bt T kG) (λ_ j=>.ok (a,j)) k:=by
 rw[k_];rw[if_neg<|by simp[h0],if_neg (by rintro⟨h1,h2⟩;rw[h h1]at h2;cases h2)];rfl
def aax(h:di (ja s 0) 1 k=.ok (t,k'))(hk:k<(ja s 0).length):zM t.text/\t.to=t.al+t.text.size:=by
 rw[di]at h;split at h
 .rename_i hq
  cases h
  have:=nO s k hk;exact⟨this.v1<|by simpa using hq,this.sp⟩
 .cases h
def VK{p:Prop}(h:p:=by intros;repeat' (first|exact Gi _|exact pL _ _|exact mq _|exact oJ _|exact pN _ _ (by decide)|exact Q8 _|exact Kv _|exact sS _ _|exact Kw hT0 _|exact CH hT0|exact Kx _ _ _|exact iC|exact λq h=>uf _ _ _ _ q h|exact λq h=>nS _ _ _ _ q h|exact λq h=>pO _ _ _ _ q h|exact ue _ _ _ _ _|exact nR (oJ _) _ _|exact nR (sS _ _) _ _|exact nR (mq _) _ _|refine fq ?_ λ_=>?_)):p:=h
def Mov{α:Type}(R:World->(Nat->Prop)->α->Value->Prop):=∀w w' P Q a v,R w P a v->w.heap.size<=w'.heap.size->(∀b,P b->b<w.heap.size->w'.heap[b]? =w.heap[b]?)->(∀b,P b->b<w.heap.size->Q b)->R w' Q a v
structure cz{γ:Type}N rb sb m s r w0 xb C(g:M γ)(P:World->Prop)k w:Prop where
 sx:SX w N rb sb m s k
 ke:Ke rb w0 w
 eq:r=g k
 lv:∀w',w.heap.size<=w'.heap.size->(∀b,b<w.heap.size->b≠rb->b≠xb->w'.heap[b]? =w.heap[b]?)->P w'
 rz:rb<w0.heap.size/\N<=w0.heap.size
 xz:xb<w.heap.size
 bx:xb=rb\/N<=xb/\w0.heap.size<=xb/\Bx w xb C
section
variable {m:MV} {r:Except Fl (γ×Nat)} {P Q:World->Prop} {g g':M γ} {f:FuncId}
def cz.p(H:cz N rb sb m s r w0 xb C g P k w):P w:=H.lv w (br _) λ_ _ _ _=>rfl
def cz.mv(H:cz N rb sb m s r w0 xb C g P k w)(q:Ke rb w w')(S:SX w' N rb sb m s k')(e:r=g' k'):cz N rb sb m s r w0 xb C g' P k' w':=
 ⟨S,H.ke.trans q,e,λw2 a b=>H.lv w2 (jo q.size a) λc c1 c2 c3=>(b c (jm c1 q.size) c2 c3).trans<|q.block c c1 c2,H.rz,jm H.xz q.size,H.bx.imp id λ⟨a,b,c⟩=>⟨a,b,c.ri q (by have:=H.rz.1;omega)⟩⟩
def cz.af(H:cz N rb sb m s r w0 xb C g P k w)(hb:Bq w w'):cz N rb sb m s r w0 xb C g P k w':=H.mv (qd hb) (H.sx.af hb) H.eq
def cz.drew(H:cz N rb sb m s r w0 xb C g P k w):cz N rb sb m s r w0 xb C g P k w.drew:=H.af (qg _ _).drew
def cz.re(H:cz N rb sb m s r w0 xb C g P k w)(h:g k=g' k):cz N rb sb m s r w0 xb C g' P k w:=H.mv (Ke.refl _ _) H.sx<|H.eq.trans h
def cz.add(H:cz N rb sb m s r w0 xb C g P k w)(h:∀w',w.heap.size<=w'.heap.size->(∀b,b<w.heap.size->b≠rb->b≠xb->w'.heap[b]? =w.heap[b]?)->Q w'):cz N rb sb m s r w0 xb C g (λw=>P w/\Q w) k w:=⟨H.sx,H.ke,H.eq,λw' a b=>⟨H.lv w' a b,h w' a b⟩,H.rz,H.xz,H.bx⟩
def cz.box{t:TypeId}(H:cz N rb sb m s r w0 xb C g P k w):cz N rb sb m s r w0 xb C g (λv=>P v/\Bx v w.heap.size D) k (w.alloc<|.cells D t):=
 (H.af<|bw _).add λw' a b=>(Bx.new w D t).same a (b _ ag (by have:=H.rz.1;have:=H.ke.size;omega) (by have:=H.xz;omega))
def cz.own{t:TypeId}(H:cz N rb sb m s r w0 rb C g P k w):cz N rb sb m s r w0 w.heap.size D g P k (w.alloc<|.cells D t):=
 have K:=H.af<|bw<|Cv D t
 ⟨K.sx,K.ke,K.eq,λw' a b=>H.lv w' (jo ag a) λc c1 c2 _=>(b c bQ c2 ae).trans<|(bw _).block c c1,H.rz,ag,.inr ⟨H.sx.ev.hN,H.ke.size,Bx.new w D t⟩⟩
def cz.put(H:cz N rb sb m s r w0 xb C g P k w)(o:xb≠rb)(B:Bx w' xb D)(q:One xb w w'):cz N rb sb m s r w0 xb D g P k w':=by
 obtain h|⟨b1,b2,b3⟩:=H.bx
 .exact absurd h o
 have K:=H.ke;have z:=q.size;exact⟨H.sx.move ae λb p=>q.block b ae,⟨q.os.trans K.os,q.tape.trans K.tape,q.output.trans K.output,by rw[z];exact K.size,λb z n=>(q.block b ae).trans<|K.block b z n⟩,H.eq,λw2 a b=>H.lv w2 ae λc c1 c2 c3=>(b c ae c2 c3).trans<|q.block c c3,H.rz,B.z,.inr ⟨b1,b2,B⟩⟩
def cJ{w0 w}{b}{v}(h:One b w0 w):One b w0 (w.setCell ⟨b,j,none⟩ v):=⟨h.os,h.tape,h.output,by simpa[World.setCell]using h.size,λi hi=>(qh _ _ _ _ hi).trans<|h.block i hi⟩
def cz.bo(H:cz N rb sb m s r w0 xb C g P k w)(o:xb≠rb):Bx w xb C:=(H.bx.resolve_left o).2.2
def cz.at(h:SX w N rb sb m s k)(e:r=g k):cz N rb sb m s r w rb #[] g (λ_=>True) k w:=⟨h,Ke.refl _ _,e,λ_ _ _=>trivial,⟨h.z,h.ev.hN⟩,h.z,.inl rfl⟩
def cz.xN{R}{mm}{g:α->M γ}(h:SX w N rb sb m s k)(e:r=aM mm g k)(c:cz N rb sb m s r w rb #[] (aM mm g) (λ_=>True) k w->Cq f args w (ap R N rb sb m s r w)):Cq f args w (ap R N rb sb m s r w):=
 c (.at h e)
def cz.imp(H:cz N rb sb m s r w0 xb C g P k w)(h:∀w,P w->Q w):cz N rb sb m s r w0 xb C g Q k w:=⟨H.sx,H.ke,H.eq,λw' a b=>h _<|H.lv w' a b,H.rz,H.xz,H.bx⟩
theorem cz.aY{R}{mm}{g}{a:α}(H:cz N rb sb m s r w0 xb C (aM mm g) P k w)(h:ap R N rb sb m s (mm k) w e w')(hA:fin (ja s 0) (mm k)=.ok (a,k'))(mv:Mov R:=by first|exact λ_ _ _ _ _ _ h _ _ _=>h|exact λ_ _ _ _ _ _ h a b c=>h.move a b c):∃v,e=.returned v/\cz N rb sb m s r w0 xb C (g a) (λw'=>P w'/\R w' (λb=>w0.heap.size<=b) a v) k' w'/\R w' (λb=>w.heap.size<=b) a v:=by
 have⟨v,e1,hb,S,V⟩:=h.ok hA;exact⟨v,e1,(H.mv hb S<|H.eq.trans<|mg hA).add λw2 a1 b1=>mv _ _ _ _ _ _ V a1 (λb p z=>b1 b z (by have:=H.rz.1;have:=H.ke.size;have p':w.heap.size<=b:=p;omega) (by have:=H.xz;have p':w.heap.size<=b:=p;omega)) λb p _=>jo H.ke.size p,V⟩
def cz.lost{R}{R'}{mm}{g:α->M γ}{f:Fl}(H:cz N rb sb m s r w0 xb C (aM mm g) P k w)(h:ap R N rb sb m s (mm k) w e w')(hA:fin (ja s 0) (mm k)=.error f)(st:∀a,aR (ja s 0)<|g a:=by exact VK):e=bO f/\ap R' N rb sb m s r w0 (bO f) w':=⟨(h.bad hA).1,ap.stop H.eq hA st<|H.ke.trans (h.bad hA).2⟩
def cz.call{R}{R'}{mm}{g:α->M γ}(H:cz N rb sb m s r w0 xb C (aM mm g) P k w)(hC:Cq f args w (ap R N rb sb m s (mm k) w))(ok:∀a k' v w',cz N rb sb m s r w0 xb C (g a) (λw'=>P w'/\R w' (λb=>w0.heap.size<=b) a v) k' w'->mm k=.ok (a,k')->R w' (λb=>w.heap.size<=b) a v->post (.returned v) w')(st:∀a,aR (ja s 0)<|g a:=by exact VK)(bad:∀f' w',ap R' N rb sb m s r w0 (bO f') w'->post (bO f') w':=by exact λ_ _ h=>⟨rfl,h⟩)(mv:Mov R:=by first|exact λ_ _ _ _ _ _ h _ _ _=>h|exact λ_ _ _ _ _ _ h a b c=>h.move a b c):Cq f args w post:=
 hC.mono λe w' hp=>by
  cases hA:fin (ja s 0) (mm k)with
  |error f=>obtain⟨rfl,h⟩:=H.lost hp hA st;exact bad _ _ h
  |ok p=>obtain⟨v,rfl,H,V⟩:=H.aY (a:=p.1) hp hA mv;exact ok _ _ v w' H (pK hA).1 V
def cz.take{R'}{g}(H:cz N rb sb m s r w0 xb C (aM (bt (ja s 0) c) g) P k w)(ok:∀w',cz N rb sb m s r w0 xb C (g ()) P (k+1) w'->post (.returned<|tkA<|tk (ja s 0) k) w')(hs:s.size<=1000:=by assumption)(hc:c.size<=5:=by decide)(st:∀a,aR (ja s 0)<|g a:=by exact VK)(bad:∀f' w',ap R' N rb sb m s r w0 (bO f') w'->post (bO f') w':=by exact λ_ _ h=>⟨rfl,h⟩):Cq 97 #[rp rb,.string c] w post:=
 ap.go H.ke H.eq (Vz H.sx hs c hc) st bad λa k' v w' S K E q _ hb hR=>by
  cases hR
  cases bq _ _ _ _ q
  exact ok w'<|H.mv hb S E
def cz.zO{R'}{g}(H:cz N rb sb m s r w0 xb C (aM pi g) P k w)(hi:a_ (tk (ja s 0) k) c=true)(ok:∀w',cz N rb sb m s r w0 xb C (g ()) P (k+1) w'->post (.returned<|.bool true) w')(hs:s.size<=1000:=by assumption)(hc:c.size<=5:=by decide)(st:∀a,aR (ja s 0)<|g a:=by exact VK)(bad:∀f' w',ap R' N rb sb m s r w0 (bO f') w'->post (bO f') w':=by exact λ_ _ h=>⟨rfl,h⟩):Cq 104 #[rp rb,.string c] w post:=
 ap.go H.ke H.eq (aek H.sx hs c hc hi) st bad λa k' v w' S K E q _ hb hR=>by
  cases hR
  cases q
  exact ok w'<|H.mv hb S E
def cz.CI(H:cz N rb sb m s r w0 xb C g P k w)(hi:a_ (tk (ja s 0) k) c=false)(ok:post (.returned<|.bool false) w)(hc:c.size<=5:=by decide):Cq 104 #[rp rb,.string c] w post:=
 (ael H.sx c hc hi).mono λ_ _⟨a,b⟩=>by subst a;subst b;exact ok
def cz.name{R'}{g}(H:cz N rb sb m s r w0 xb C (aM (di (ja s 0) 1) g) P k w)(ok:∀t w',cz N rb sb m s r w0 xb C (g t) P (k+1) w'->Hid (zM t.text/\t.to=t.al+t.text.size)->post (.returned<|nmA t) w')(hs:s.size<=1000:=by assumption)(st:∀a,aR (ja s 0)<|g a:=by exact VK)(bad:∀f' w',ap R' N rb sb m s r w0 (bO f') w'->post (bO f') w':=by exact λ_ _ h=>⟨rfl,h⟩):Cq 141 #[rp rb,.string CB] w post:=
 ap.go H.ke H.eq (sT H.sx hs 1 CB<|j8 ⟨rfl,rfl⟩) st bad λa k' v w' S K E q _ hb hR=>by
  have:=aax q H.sx.lt
  cases hR
  cases eE _ _ _ _ q
  exact ok a w' (H.mv hb S E) this
def cz.expr{R'}{g}(H:cz N rb sb m s r w0 xb C (aM (bP (ja s 0) n) g) P k w)(IH:eP s n)(ok:∀a k' t x w',cz N rb sb m s r w0 xb C (g a) (λw'=>P w'/\PE w' (λb=>w0.heap.size<=b) a (.iface t<|.agg x)) k' w'->k<k'->post (.returned<|.iface t<|.agg x) w')(hn:(ja s 0).length<=k+n:=by omega)(st:∀a,aR (ja s 0)<|g a:=by exact VK)(bad:∀f' w',ap R' N rb sb m s r w0 (bO f') w'->post (bO f') w':=by exact λ_ _ h=>⟨rfl,h⟩):Cq 249 #[rp rb] w post:=
 H.call (IH _ _ _ _ _ _ H.sx hn) (λa k' v w' H q V=>by obtain⟨t,x,rfl⟩:=V.iface;exact ok a k' t x w' H<|jJ n _ _ _ q) st bad
def cz.uk{R'}{g}(H:cz N rb sb m s r w0 xb C (aM (eh (ja s 0) n) g) P k w)(IH:zN s n)(ok:∀a k' t x w',cz N rb sb m s r w0 xb C (g a) (λw'=>P w'/\PP w' (λb=>w0.heap.size<=b) a (.iface t<|.agg x)) k' w'->k<=k'->post (.returned<|.iface t<|.agg x) w')(hn:(ja s 0).length<=k+n:=by omega)(st:∀a,aR (ja s 0)<|g a:=by exact VK)(bad:∀f' w',ap R' N rb sb m s r w0 (bO f') w'->post (bO f') w':=by exact λ_ _ h=>⟨rfl,h⟩):Cq 253 #[rp rb] w post:=
 H.call (IH _ _ _ _ _ _ H.sx hn) (λa k' v w' H q V=>by obtain⟨t,x,rfl⟩:=V.iface;exact ok a k' t x w' H<|nU n _ _ _ q) st bad
def cz.since{i}(H:cz N rb sb m s r w0 xb C g P k w)(ok:∀w',cz N rb sb m s r w0 xb C g P k w'->post (.returned<|.agg #[Iv i,.int .i64 ((aF (ja s 0) k:Nat):Int)]) w'):Cq 105 #[rp rb,Iv i] w post:=
 (aar H.sx i).mono λ_ _⟨a,b⟩=>by subst a;exact ok _<|H.af b
def cz.done{R}{a}{v}(H:cz N rb sb m s r w0 xb C g P k w)(h:P w->R w (λb=>w0.heap.size<=b) a v)(he:g k=.ok (a,k):=by rfl):ap R N rb sb m s r w0 (.returned v) w:=
 ap.done (H.eq.trans he) H.ke H.sx (h H.p)
end
section
variable {m:MV}
def Nu{p:Prop}(h:p:=by
 refine H.CI hm ?_;go_wp2_with fail;refine(H.re<|uj hm λh=>ae).take ?_;intro w5 H
 go_wp2
 go_ret
 exact H.done λ⟨_,A⟩=>A):p:=h
def xP(hs:s.size<=1000)(IH:zN s n)(h:SX w N rb sb m s k)(hn:(ja s 0).length<=k+1+n)(ho:a_ (tk (ja s 0) k) l_=true):
 Cq 199 #[rp rb] w (ap PP N rb sb m s (aP (ja s 0) (eh (ja s 0) n) (mr<|ja s 0) 2 k) w):=by
 have Th:=gK;have VL:=jI;refine cz.xN h (sW ho) λH=>?_;go_enter func199,ntmps199;go_wp2_with fail;refine H.take ?_;intro w1 H;go_wp2_with fail
 cases hc:a_ (tk (ja s 0)<|k+1) kG
 .refine H.CI hc ?_;go_wp2_with fail;refine(H.re<|xM hc).uk IH ?_;intro a k2 t2 x2 w2 H l2;go_wp2_with fail
  cases hm:a_ (tk (ja s 0) k2) pQ
  .exact Nu
  .refine(H.re<|nT hm).zO hm ?_;intro w3 H;go_wp2_with fail;refine H.uk IH ?_;intro b k4 t4 x4 w4 H l4;go_wp2_with fail;refine H.take ?_;intro w5 H;go_wp2_with fail;refine H.since ?_;intro w6 H
   go_wp2
   go_ret;exact H.done λ⟨⟨_,A⟩,B⟩=>.pr _ _ _ _ _ _ _ _ _ A B
 .refine(H.re<|xL aK hc).zO hc ?_;intro w2 H;go_wp2_with fail;refine H.since ?_;intro w3 H
  go_wp2
  go_ret;exact H.done λ_=>.unit _ _ _ _ _
end
abbrev EQ(α:Type):=World->(Nat->Prop)->α->(Nat->Value)->Prop
def fO{α:Type}(Q:EQ α):=∀(w w':World)(P P':Nat->Prop)(a:α)(c:Nat->Value),Q w P a c->w.heap.size<=w'.heap.size->(∀b,P b->b<w.heap.size->w'.heap[b]? =w.heap[b]?)->(∀b,P b->b<w.heap.size->P' b)->Q w' P' a c
def gw(cs:Nat->Nat->Value)(sz:Nat):Nat->List Value
 |0=>[]|n+1=>gw cs sz n++(qi sz).map (cs n)
def sX cs sz n:(gw cs sz n).length=n*sz:=by
 induction n with
 |zero=>simp[gw]|succ n ih=>simp only[gw,vg,ih,List.length_map,List.length_range,jt]
def VM cs sz:∀n i j,i<n->j<sz->(gw cs sz n)[i*sz+j]? =some (cs i j):=by
 intro n
 induction n with
 |zero=>intro i j h;omega|succ n ih=>
  intro i j hi hj;simp only[gw];by_cases h:i<n
  .have:i*sz+j<n*sz:=by
    have:(i+1)*sz<=n*sz:=ju _ h;rw[jt]at this;omega
   rw[List.getElem?_append_left (by rw[sX];exact this)];exact ih i j h hj
  .have e:i=n:=ae;subst e;rw[List.getElem?_append_right (by rw[sX];omega),sX];rw[show i*sz+j-i*sz=j by omega];simp[hj]
def ul{cs ds:Nat->Nat->Value}{sz:Nat}:∀n,(∀i,i<n->cs i=ds i)->gw cs sz n=gw ds sz n
 |0,_=>rfl|n+1,h=>by simp only[gw];rw[ul n<|λi hi=>h i ae,h n ae]
def dt{α:Type}(Q:EQ α)et sz w base va vc(L:List α):=
 ∃cs:Nat->Nat->Value,w.ownsRow base et sz (.slice va L.length vc) L.length (gw cs sz L.length)/\∀i(h:i<L.length),Q w (λb=>base<=b/\b<w.heap.size/\(j6 va L.length vc).ownBlock≠some b) L[i]<|cs i
def RowV{α:Type}(Q:EQ α)sz w P L(v:Value):=
 ∃(va:Option Addr)(vc:Nat)(cs:Nat->Nat->Value),v=.slice va L.length vc/\(L=[]\/∃g,va=some ⟨g,0,none⟩/\P g/\g<w.heap.size/\∀i,i<L.length->∀j,j<sz->w.cell? ⟨g,i*sz+j,none⟩=some (cs i j))/\∀i(h:i<L.length),Q w P L[i]<|cs i
section
variable {Q:EQ α} {sz:Nat} {L:List α}
def dt.nil(Q:EQ α)et sz w base:dt Q et sz w base none 0 []:=⟨λ_ _=>.nilIface,World.ownsRow_nil _ _ _ _,λi h=>absurd h ag⟩
def dt.v(hQ:fO Q)(h:dt Q et sz w base va vc L):RowV Q sz w (λb=>base<=b) L (.slice va L.length vc):=by
 obtain⟨cs,ho,hr⟩:=h;refine⟨va,vc,cs,rfl,?_,λi hi=>hQ _ _ _ _ _ _ (hr i hi) (br _) (λ_ _ _=>rfl) λb p _=>p.1⟩;obtain⟨h1,h2⟩:=ho;obtain⟨_,hz⟩|⟨q,cap,mL,hv,hg,hh,_,_,_,ht⟩:=h2
 .grind
 .injection hv with e1 e2 e3;subst e1;refine j9 ⟨q,rfl,hg,(Array.getElem?_eq_some_iff.1 hh).1,λi hi j hj=>?_⟩;have bA:i*sz+j<L.length*sz:=by
   have:(i+1)*sz<=L.length*sz:=ju _ hi;rw[jt]at this;omega
  rw[<-VM cs sz L.length i j hi hj,<-ht];simp only[World.cell?,hh];rw[List.getElem?_take_of_lt bA];simp
def dt.mR(hQ:fO Q)(h:dt Q et sz w base va vc L)(hs:w.heap.size<=w'.heap.size)(hb:∀b,base<=b->b<w.heap.size->w'.heap[b]? =w.heap[b]?):dt Q et sz w' base va vc L:=by
 obtain⟨cs,ho,hr⟩:=h;refine⟨cs,?_,λi hi=>hQ _ _ _ _ _ _ (hr i hi) hs (λb p z=>hb b p.1 z) λb p _=>⟨p.1,ae,p.2.2⟩⟩;obtain⟨h1,h2⟩:=ho;refine⟨h1,?_⟩;obtain h2|⟨q,cap,mL,hv,hg,hh,r⟩:=h2
 .exact j8 h2
 .refine j9 ⟨q,cap,mL,hv,hg,?_,r⟩;rw[hb q hg (Array.getElem?_eq_some_iff.1 hh).1,hh]
def dt.block(h:dt Q et sz w base va vc L):∀b,(j6 va L.length vc).ownBlock=some b->base<=b/\b<w.heap.size:=by
 obtain⟨cs,ho,_⟩:=h;exact fk ho
def dt.one{q}{a}{c:Nat->Value}(hQ:fO Q)(hq:Q w (λb=>lo<=b) a c)(pC:base<=lo)(hb:lo<=w.heap.size)(hs:0<sz)C(hC:C=((qi sz).map c).toArray)(hqq:q=w.heap.size):dt Q et sz (w.alloc<|.cells C et) base (some ⟨q,0,none⟩) 1 [a]:=by
 subst hqq hC;refine⟨λ_=>c,⟨by simp[gw],j9 ⟨w.heap.size,1,_,rfl,ae,(MapKept.heap_alloc w _).1,ag,qmo,ag,by simp[gw];exact List.take_of_length_le ag⟩⟩,λi hi=>?_⟩;have:i=0:=qBl;subst this;refine hQ _ _ _ _ _ _ hq ag (λb _ z=>Below.heap_alloc _ _ _ z) λb p z=>⟨jo pC p,bQ,?_⟩;simp[Value.ownBlock];omega
def dt.push{w1}{q3 c3}{a}{c:Nat->Value}(hQ:fO Q){cs}(hP:∀i(h:i<L.length),Q w1 (λb=>base<=b/\b<w1.heap.size/\(j6 va L.length vc).ownBlock≠some b) L[i]<|cs i)(hq:Q w1 (λb=>lo<=b) a c)(uo:base<=lo)(hold:∀b,(j6 va L.length vc).ownBlock=some b->b<lo)(hW:Bq w1 W)(h3:w3.ownsRow base et sz (.slice (some ⟨q3,0,none⟩) (L.length+1) c3) (L.length+1) (gw cs sz L.length++(qi sz).map c))(hg:W.grownBy w3 (j6 va L.length vc).ownBlock)(Q0:(j6 (some ⟨q3,0,none⟩) (L.length+1) c3).ownBlock=(j6 va L.length vc).ownBlock\/(j6 (some ⟨q3,0,none⟩) (L.length+1) c3).ownBlock=some W.heap.size):
 dt Q et sz w3 base (some ⟨q3,0,none⟩) c3 (L++[a]):=by
 have hlen:(L++[a]).length=L.length+1:=ag;have eG:=hg.size;have VN:∀b,b<w1.heap.size->(Lv va L.length vc).ownBlock≠some b->w3.heap[b]? =w1.heap[b]? :=λb hb hn=>(hg.block b (jm hb hW.size)<|λe=>hn e.symm).trans<|hW.block b hb;have yY:∀b,b<w1.heap.size->(Lv va L.length vc).ownBlock≠some b->(Lv (some ⟨q3,0,none⟩) (L.length+1) c3).ownBlock≠some b:=λb hb hn e=>by
  obtain g|g:=Q0
  .exact hn (g▸e)
  .have q:=e.symm.trans g;simp at q;have:=hW.size;omega
 have hws:=hW.size;have Mo:∀i,i<L.length->(λi=>if i=L.length then c else cs i) i=cs i:=λi hi=>if_neg ae;refine⟨λi=>if i=L.length then c else cs i,?_,λi hi=>?_⟩
 .rw[hlen];show w3.ownsRow base et sz _ _<|gw _ sz L.length++(qi sz).map (if L.length=L.length then c else cs L.length);rw[if_pos rfl,ul (ds:=cs) L.length Mo];exact h3
 .rw[hlen];by_cases bA:i<L.length
  .rw[List.getElem_append_left bA];show Q w3 _ L[i]<|if i=L.length then c else cs i;rw[if_neg ae];exact hQ _ _ _ _ _ _ (hP i bA) ae (λb p z=>VN b p.2.1 p.2.2) λb p z=>⟨p.1,ae,yY b p.2.1 p.2.2⟩
  .have zP:i=L.length:=D9;subst zP;have e1:(L++[a])[L.length]'hi=a:=ag;rw[e1];show Q w3 _ a<|if L.length=L.length then c else cs L.length;rw[if_pos rfl];have dw:∀b,lo<=b->(Lv va L.length vc).ownBlock≠some b:=λb h1 e=>by have:=hold b e;omega
   exact hQ _ _ _ _ _ _ hq ae (λb p z=>VN b z<|dw b p) λb p z=>⟨jo uo p,ae,yY b z<|dw b p⟩
end
def Q1(R:World->(Nat->Prop)->Nd->Value->Prop):EQ Nd:=λw P a c=>R w P a<|c 0
def VO:fO (Q1 PT):=λ_ _ _ _ _ _ h h1 h2 h3=>PT.move h h1 h2 h3
section
variable {row:Option Nat} {m:MV}
def SX.grown(hg:W.grownBy w3 row)(h:SX W N rb sb m s k)(hr:∀j,row=some j->N<=j):SX w3 N rb sb m s k:=
 h.move hg.size λb hb=>hg.block b (jm hb h.ev.hN) λe=>by have:=hr b e.symm;omega
def dZ{b}{mt ft}(h:MS j5 W b L)(hm:Tryz.prog.underlying mt=some (.map 227 ft))(hz:(zeroValue ft).run jv W=.ok .nilFunc W)x:
 (Instr.lookup mt (Mv b) (.string x) true).run jv W=.ok (kh (aY x L) .nilFunc) W:=by
 have:=h.look (KL.str jx) hm hz x trivial (λ_ _=>trivial) true;rw[this]
 cases aY x L<;>rfl
theorem CJ{x:BA}:∀{L:List (BA×Value)},(∀p∈L,p.1≠x)->aY x L=none
 |[],_=>rfl|p::l,h=>by
  rw[aY];rw[if_neg<|h p<|List.mem_cons_self ..];exact CJ λq hq=>h q<|List.mem_cons_of_mem _ hq
end
def rF(ho:fP t)(hs:sort=2\/sort=3)(hb:aG t sort=true):t.kind=1\/t.kind=2\/t.kind=4\/a_ t fJ=true\/a_ t dz=true\/(sort=2/\a_ t wU=true)\/a_ t l_=true:=by
 by_cases h0:a_ t l_=true
 .simp[h0]
 have h0':a_ t o9=false:=by simpa using h0
 rw[aG]at hb;rw[h0']at hb;rw[bE]at hb;by_cases h1:t.kind=1
 .exact j8 h1
 by_cases h2:t.kind=2
 .omega
 by_cases h4:t.kind=4
 .omega
 by_cases h5:a_ t fJ=true
 .simp[h5]
 by_cases h6:a_ t dz=true
 .simp[h6]
 by_cases h7:a_ t wU=true
 .obtain rfl|rfl:=hs
  .simp[h7]
  .grind
 .exfalso;obtain rfl|rfl:=hs
  .grind
  .grind
def uq(hs:sort=2\/sort=3)(hb:aG t sort=false):t.kind≠1/\t.kind≠2/\t.kind≠4/\a_ t fJ=false/\a_ t dz=false/\(sort=2->a_ t wU=false)/\a_ t l_=false:=by
 rw[aG]at hb;rw[Bool.or_eq_false_iff]at hb;obtain⟨h0,hb⟩:=hb;have key:∀c,c=1\/c=2\/c=3\/c=4->bE t≠c:=yV;refine⟨λe=>key 1 ag (by rw[bE];simp[e]),λe=>key 2 ag (by rw[bE];simp[e]),λe=>key 3 ag (by rw[bE];simp[e]),?_,?_,?_,h0⟩
 .cases h:a_ t fJ with
  |false=>rfl|true=>exact absurd (CF<|j8 h)<|key 4 ag
 .cases h:a_ t dz with
  |false=>rfl|true=>exact absurd (CF<|j9 h)<|key 4 ag
 .rintro rfl
  cases h:a_ t wU with
  |false=>rfl|true=>
   have h5:=nQ h;have:bE t=15:=by
    rw[bE];rw[if_neg ae,if_neg ae,if_neg ae,if_neg ae,if_neg (by rw[Gl,AH];rw[Nr]at h;simp at h;simp[h.2]),if_pos h]
   rw[this]at hb;simp at hb
def ck{p}(hb:aG (tk T k) sort=true)(ho:a_ (tk T k) l_=false):aP T p q sort k=.ok (cu<|tk T k,k+1):=by
 have ho':=ho;rw[aP];rw[if_pos hb,if_neg<|by simp[ho']]
theorem acs{a b:BA}(h:a.toList=b.toList):a=b:=by
 rw[j7,j7]at h;exact ByteArray.ext<|Array.ext' h
def fQ(h:a_ t c=true):aq t=c:=by
 rw[oI<|nQ h];rw[a_]at h;simp only[qe,beq_iff_eq]at h;exact acs h.2
def pR(h5:t.kind=5)(h:a_ t c=false):c≠t.text:=λe=>by
 subst e;rw[a_]at h;simp[h5]at h
def oK(h:t.kind≠5)c:a_ t c=false:=by rw[a_];simp[h]
def rG{d}(h:a_ t c=true)(hn:c.toList≠d.toList):a_ t d=false:=by
 rw[a_]at h⊢;simp only[qe,beq_iff_eq]at h;simp[h.1,h.2,hn]
section
variable {m:MV}
def Q9(hs:s.size<=1000)(IH:zN s n)(h:SX w N rb sb m s k)(hn:(ja s 0).length<=k+1+n)(hb:aG (tk (ja s 0) k) 2=true){x}(hx:Bx w x #[rp rb]):
 (∃f,aY (aq<|tk (ja s 0) k) (pM rb x)=some (nM f rb)/\(∀args w,(callFunc f args).run jv w=.ok (.enter f args) w)/\∀W,Bq w W->Cq f #[rp rb] W (ap PP N rb sb m s (aP (ja s 0) (eh (ja s 0) n) (mr<|ja s 0) 2 k) W))\/
 (∃f,aY (aq<|tk (ja s 0) k) (pM rb x)=some (mh f x)/\(∀args w,(callFunc f args).run jv w=.ok (.enter f args) w)/\∀W,Bq w W->Cq f #[Pv x] W (ap PP N rb sb m s (aP (ja s 0) (eh (ja s 0) n) (mr<|ja s 0) 2 k) W)):=by
 have ho:=dX s k h.lt;obtain hk|hk|hk|hk|hk|⟨h9,hk⟩|hk:=rF ho aK hb
 .refine j9 ⟨194,by rw[iL hk];rfl,λ_ _=>qkr,?_⟩;rw[ck hb<|oK ae _];exact λW hW=>(VH (h.af hW) hs hk x<|hx.below hW).2
 .refine j8 ⟨195,by rw[gO hk];rfl,λ_ _=>qkr,?_⟩;rw[ck hb<|oK ae _];exact λW hW=>(acr (h.af hW) hs hk).2
 .refine j9 ⟨196,by rw[iM hk];rfl,λ_ _=>qkr,?_⟩;rw[ck hb<|oK ae _];exact λW hW=>(VJ (h.af hW) hs hk x<|hx.below hW).2
 .refine j9 ⟨197,qBk,λ_ _=>qkr,?_⟩;rw[ck hb<|rG hk Zo];exact λW hW=>(vG (h.af hW) hs (j8 hk) x<|hx.below hW).2.2.1
 .refine j9 ⟨198,qBk,λ_ _=>qkr,?_⟩;rw[ck hb<|rG hk Zo];exact λW hW=>(vG (h.af hW) hs (j9 hk) x<|hx.below hW).2.2.2
 .refine j8 ⟨193,qBk,λ_ _=>qkr,?_⟩;rw[ck hb<|rG hk Zo];exact λW hW=>Kt (h.af hW) hs hk
 .refine j8 ⟨199,qBk,λ_ _=>qkr,λW hW=>xP hs IH (h.af hW) hn hk⟩
def VP(h:SX w N rb sb m s k)(hb:aG (tk (ja s 0) k) 2=false)x:aY (aq<|tk (ja s 0) k) (pM rb x)=none:=by
 have ho:=dX s k h.lt;have⟨n1,n2,n4,nt,nf,na,no⟩:=uq aK hb;obtain h'|h'|h'|h'|h'|h'|h':=ho.kd
 .exact absurd h' n1
 .exact absurd h' n2
 .rw[gP h'];rfl
 .exact absurd h' n4
 .rw[oI h'];have hz:=ho.s5 h';have qA:∀c:BA,5<c.size->c≠(tk (ja s 0) k).text:=λc hc e=>by rw[e]at hc;omega
  refine CJ λp hp=>?_;simp only[pM,List.mem_cons,List.not_mem_nil,or_false]at hp;obtain rfl|rfl|rfl|rfl|rfl|rfl|rfl:=hp
  .exact pR h' (na rfl)
  .exact qA CB aK
  .exact qA FY aK
  .exact qA Kq aK
  .exact pR h' nt
  .exact pR h' nf
  .exact pR h' no
 .exact absurd h' h.ok
 .rw[iN h'];rfl
def aay w:(zeroValue 360).run jv w=.ok .nilFunc w:=qkr
end
theorem RowV.move{Q}{sz}{P'}{L:List α}{v:Value}(h:RowV Q sz w P L v)(hQ:fO Q)(hs:w.heap.size<=w'.heap.size)(hb:∀b,P b->b<w.heap.size->w'.heap[b]? =w.heap[b]?)(hq:∀b,P b->b<w.heap.size->P' b):RowV Q sz w' P' L v:=by
 obtain⟨va,vc,cs,hv,aN,hr⟩:=h;refine⟨va,vc,cs,hv,?_,λi hi=>hQ _ _ _ _ _ _ (hr i hi) hs hb hq⟩;obtain h0|⟨g,h1,h2,h3,h4⟩:=aN
 .exact j8 h0
 .refine j9 ⟨g,h1,hq g h2 h3,jm h3 hs,λi hi j hj=>?_⟩;rw[qf (a:=⟨g,i*sz+j,none⟩) (w:=w)<|hb g h2 h3];exact h4 i hi j hj
section
variable {Q:EQ α} {sz:Nat} {m:MV} {r:Except Fl (γ×Nat)} {P:World->Prop} {g:M γ} {L:List α}
def CL(I:List α->Prop)Q et sz N rb sb m s k w r(g:Nat->List α->Nat->M γ)gk(v:Value)wr:=
 ∃(kr:Nat)(L:List α)(f:Nat)(va:Option Addr)(vc tz:Nat),v=.slice va L.length vc/\I L/\cz N rb sb m s r w rb #[] (g f L tz) (λw'=>dt Q et sz w' w.heap.size va vc L) kr wr/\Hid (gk=(ja s 0).length-kr)/\k<=kr/\L.length<=kr/\(ja s 0).length<=kr+f
def cz.row(H:cz N rb sb m s r w0 xb C g P k w)(hQ:fO Q)(R:dt Q et sz w base va vc L)(hb:w0.heap.size<=base/\(xb=rb\/xb<base)):cz N rb sb m s r w0 xb C g (λw'=>dt Q et sz w' base va vc L) k w:=
 (H.add λw' a b=>R.mR hQ a λc c1 c2=>b c c2 (by have:=H.rz;omega) (by have:=H.rz;omega)).imp λ_ h=>h.2
def cz.append{ops}{rest}{o}{ac}{K}{sO xO}{t bytes}{z}{D}{c}{a}{wr:World}(H:cz N rb sb m s r w0 xb C g P k w)(hT:(ja s 0).length<=1001)(hQ:fO Q)(inf:(Tryz.prog.info? et).map (λi=>(i.zero,i.size,i.bytes))=some (some z,sz,bytes))(ut:Tryz.prog.underlying t=some (.slice et))(R:dt Q et sz w base va vc L)(hr:base<=wr.heap.size)(hb:∀b,(j6 va L.length vc).ownBlock=some b->b<wr.heap.size)(V:Q w (λb=>wr.heap.size<=b) a c)(hl:L.length<k)(h:∀q c' w3,cz N rb sb m s r w0 xb C g (λw'=>dt Q et sz w' base (some ⟨q,0,none⟩) c'<|L++[a]) k w3->wpList jv ops K rest (ac.put o.dst<|.slice (some ⟨q,0,none⟩) (L++[a]).length c') w3)(he:w0.heap.size<=base/\(xb=rb\/xb<base)/\base<=w.heap.size:=by exact⟨br _,.inl rfl,H.ke.size⟩)(hD:D=(qi sz).map c:=by rfl)(h1:∀u∈D,u.oneCell'=true:=by intro u hu;simp at hu;obtain rfl|rfl|rfl|rfl|rfl|rfl:=hu<;>rfl)(hz:z.cells.size=sz/\0<sz/\bytes<=1000:=by decide)(hgd:o.guard=none:=by rfl)(ho:o.op=.call {callee:=.builtin .append,args:=#[sO,xO],argTypes:=#[t,t]}:=by rfl)(hs:ac.eval sO=.slice va L.length vc:=by rfl)(hx:ac.eval xO=.slice (some ⟨w.heap.size,0,none⟩) 1 1:=by rfl):
 wpList jv ops K (o::rest) ac (w.alloc<|.cells D.toArray et):=by
 have⟨i0,vH,oW,lY,kE⟩:=info_parts inf;obtain⟨cs,HO,HP⟩:=R;have kl:=H.sx.lt;have hbw:Bq w (w.alloc<|Cv D.toArray et):=bw _;have FI:=fk HO;refine wpList_append_own_at _ hgd sO xO t ho base et i0 _ sz bytes ut vH oW lY kE hz.1 hz.2.1 (Lv va L.length vc) L.length _ hs (lh HO hbw) ⟨w.heap.size,0,none⟩ 1 1 D hx (by rw[hD];simp) (nC _ _ _ _ ag) h1 qmo (jo (Nat.mul_le_mul_left _ hz.2.2) ae) bQ ?_;intro v3 w3 O3 g3 n3 l3;obtain⟨q,c',rfl⟩:=rH O3 ae;have e:(L++[a]).length=L.length+1:=ag;have B:=H.af hbw;have rz:=H.rz;have G:cz N rb sb m s r w0 xb C g (λ_=>True) k w3:=⟨SX.grown g3 B.sx λj e=>by have:=FI j e;omega,Ke.grown g3 B.ke λj e=>by have:=FI j e;omega,H.eq,λ_ _ _=>trivial,H.rz,jm B.xz g3.size,B.bx.imp id λ⟨b1,b2,b3⟩=>⟨b1,b2,b3.grown g3 λj e=>by have:=FI j e;omega⟩⟩;have:=h q c' w3<|G.row hQ (dt.push (w1:=w) (lo:=wr.heap.size) (c:=c) hQ HP V hr hb hbw (hD▸O3) g3 l3) ⟨he.1,he.2.1⟩;rw[e]at this;exact this
end
def aaz:(Tryz.prog.info? 255).map (λi=>(i.zero,i.size,i.bytes))=some (some .nilIface,1,16):=qkr
def Q_:Tryz.prog.underlying 305=some (.slice 255):=qkr
def Gq:(Tryz.prog.info? 92).map (λi=>(i.zero,i.size,i.bytes))=some (some .nilIface,1,16):=qkr
def xQ:Tryz.prog.underlying 164=some (.slice 92):=qkr
def rI w:(zeroValue 355).run jv w=.ok .nilFunc w:=qkr
def Gr{x:Nd}(h:aG (tk T k) sort=false):eN T sm sort f x k=.ok (x,k):=by
 cases f with
 |zero=>rfl|succ f=>unfold eN;rw[h];rfl
def Q'{x:Nd}(h:aG (tk T k) sort=true):eN T sm sort (f+1) x k=aM sm (λy k'=>eN T sm sort f (x.add y<|aF T k') k') k:=by
 show(if aG (tk T k) sort=true then _ else _)=_;rw[if_pos h]
def pS{T:List jc}{sm:M Nd}{sort c:Nat}{nm:BA}{n fr at_:Nat}:∀f L k a k2,eN T sm sort f (.mk c nm n L fr (aF T k) at_) k=.ok (a,k2)->∃L',a=.mk c nm n L' fr (aF T k2) at_
 |0,L,k,a,k2,h=>by cases h;exact⟨L,rfl⟩|f+1,L,k,a,k2,h=>by
  unfold eN at h;split at h
  .have⟨y,k1,_,h2⟩:=aw h;exact pS f (L++[y]) k1 a k2 h2
  .cases h;exact⟨L,rfl⟩
def CO(f:M α)k:f k=aM f (λa k=>.ok (a,k)) k:=by rw[aM];cases f k<;>rfl
def aaA R nm w P(a:Nd)v:=∃L fr tz at_,a=.mk 2 nm 0 L fr tz at_/\RowV (Q1 R) 1 w P L v
def Tab N rb sb m s R(sm:M Nd)sort b w k:=∃L,MS j5 w b L/\
 (aG (tk (ja s 0) k) sort=true/\((∃F,aY (aq<|tk (ja s 0) k) L=some (nM F rb)/\(∀args w,(callFunc F args).run jv w=.ok (.enter F args) w)/\∀W,Bq w W->Cq F #[rp rb] W (ap R N rb sb m s (sm k) W))\/
  (∃F x,aY (aq<|tk (ja s 0) k) L=some (mh F x)/\(∀args w,(callFunc F args).run jv w=.ok (.enter F args) w)/\∀W,Bq w W->Cq F #[Pv x] W (ap R N rb sb m s (sm k) W)))\/
  aG (tk (ja s 0) k) sort=false/\aY (aq<|tk (ja s 0) k) L=none)
section
variable {m:MV} {b:Nat} {p:M Nd}
def Gs(hF:mt=235\/mt=234\/mt=233)(hM:MS j5 w b L)x:(Instr.lookup mt (Mv b) (.string x) true).run jv w=.ok (kh (aY x L) .nilFunc) w:=by
 obtain rfl|rfl|rfl:=hF
 .exact dZ hM Tryz.underlying235 (aej w) x
 .exact dZ hM j3 (aay w) x
 .exact dZ hM jy (rI w) x
def acu{FO}(hF:FO=140/\mt=235\/FO=276/\mt=234\/FO=256/\mt=233)(hI:∀{w P a v},R w P a v->∃t x,v=.iface t (.agg x))(h:SX w N rb sb m s k)(Y:Tab N rb sb m s R (aP (ja s 0) p q sort) sort b w k):
 Cq FO #[rp rb,Mv b] w (ap R N rb sb m s (aP (ja s 0) p q sort k) w):=by
 obtain⟨L,hM,Y⟩:=Y;have hl:=Gs (mt:=mt) (by obtain h|h|h:=hF<;>simp[h.2]) hM (aq<|tk (ja s 0) k);have⟨c,f,z⟩:=h.bx;obtain⟨hb,⟨F,hg,VQ,HC⟩|⟨F,x,hg,VQ,HC⟩⟩|⟨hb,hg⟩:=Y;all_goals simp only[hg,kh]at hl
 all_goals clear hg hM
 all_goals obtain⟨rfl,rfl⟩|⟨rfl,rfl⟩|⟨rfl,rfl⟩:=hF
 all_goals(
  first
  |go_enter func140,ntmps140
  |go_enter func276,ntmps276
  |go_enter func256,ntmps256
  first
  |(go_wp2_with(go_at_call 135;refine(t_ h.rd).mono ?_;rintro e w1⟨rfl,VR⟩)
    refine⟨rfl,qd VR,?_⟩;rw[show aP (ja s 0) p q sort k=.error (db<|tk (ja s 0) k) by rw[aP];rw[hb];rfl,db,if_neg h.ok]
    rfl)
  |(go_wp2_with fail
    refine(HC _<|qg _ _).mono ?_;intro e w1 hp
    cases hA:fin (ja s 0) (aP (ja s 0) p q sort k)with
    |error f'=>
     obtain⟨rfl,VR⟩:=hp.bad hA;exact⟨rfl,hp⟩
    |ok r=>
    obtain⟨a,k2⟩:=r;obtain⟨v,rfl,_,_,hR⟩:=hp.ok hA;obtain⟨tv,xv,rfl⟩:=hI hR
    go_wp2
    go_ret
    exact hp))
def VS{FM et}(hT:(ja s 0).length<=1001)(hF:FM=142/\mt=235/\et=92\/FM=277/\mt=234/\et=255)(hI:∀{w P a v},R w P a v->∃t x,v=.iface t (.agg x))(mv:Mov R)(lts:lN sm)(D:∀w k',SX w N rb sb m s k'->k<=k'->Tab N rb sb m s R sm sort b w k')(h:SX w N rb sb m s k)nm(fr tz at_:Nat):
 Cq FM #[rp rb,Mv b] w (ap (aaA R nm) N rb sb m s (eN (ja s 0) sm sort (ja s 0).length (.mk 2 nm 0 [] fr tz at_) k) w):=by
 have mvs:fO (Q1 R):=λ_ _ _ _ _ _ h a b c=>mv _ _ _ _ _ _ h a b c;obtain⟨r,hr⟩:∃r,r=eN (ja s 0) sm sort (ja s 0).length (.mk 2 nm 0 [] fr tz at_) k:=⟨_,rfl⟩;rw[<-hr];have H:=cz.at h hr
 replace D:=ai D
 have tl:=ai (λ(w:World)(L:List (BA×Value))(h:MS Sv w b L)=>Gs (mt:=mt) (by obtain h|h:=hF<;>simp[h.2.1]) h);clear h hr;obtain⟨rfl,rfl,he⟩|⟨rfl,rfl,he⟩:=hF
 all_goals(
  replace he:=ai he
  first
  |go_enter func142,ntmps142
  |go_enter func277,ntmps277
  go_wp2
  go_loopg[5] ((ja s 0).length-k) (λgk v wr=>CL (λ_=>True) (Q1 R) et 1 N rb sb m s k w r (λf L tz=>eN (ja s 0) sm sort f<|.mk 2 nm 0 L fr tz at_) gk v wr)
  case atStart=>exact⟨k,[],(ja s 0).length,none,0,tz,rfl,trivial,H.row mvs (dt.nil _ _ _ _ _) ⟨br _,.inl rfl⟩,ai rfl,br _,ag,ae⟩
  case round=>
   clear H;obtain rfl:=uh he;obtain⟨kr,L,f,va,vc,to',rfl,-,H,c_,hle,hLl,hfu⟩:=hrel;have⟨X,hM,Y⟩:=uh D _ _ H.sx hle;have hl:=uh tl _ _ hM<|aq<|tk (ja s 0) kr;have VT:=H.sx.lt;have zw:=H.ke.size;have VU:=H.p.block;have⟨c,ff,z⟩:=H.sx.bx;obtain⟨hb,Y⟩|⟨hb,hg⟩:=Y
   .obtain⟨f,rfl⟩:∃f',f=f'+1:=⟨f-1,ae⟩;obtain⟨F,hg,VQ,HC⟩|⟨F,x,hg,VQ,HC⟩:=Y
    all_goals(
     simp only[hg,kh]at hl;clear hg;go_wp2_with fail;refine(H.re<|Q' hb).call (HC _<|qg _ _) ?_ (st:=λa q h=>iO _ _ _ _ q h) (mv:=mv);intro a k2 v w1 H q V;obtain⟨tv,xv,rfl⟩:=hI V;have l2:=lts _ _ _ q;clear HC VQ c ff z hl hM q;go_wp2_with(at_builtin;go_must(refine H.append (D:=[Fv tv<|Av xv]) (z:=Zv) (bytes:=16) hT mvs (by first|exact Gq|exact aaz) (by first|exact xQ|exact Q_) H.p.1 zw (λb e=>(VU b e).2) (c:=λ_=>Fv tv<|Av xv) V ae ?_;intro q3 c3 w3 H));go_roundg((ja s 0).length-k2)
     case measure=>rw[uh c_];omega
     case rel=>exact⟨k2,L++[a],f,_,c3,_,ag,trivial,H.re rfl,ai rfl,ae,bQ,ae⟩)
   .simp only[hg,kh]at hl
    go_wp2
    go_ret
    exact H.done (λR=>⟨L,_,_,_,rfl,R.v mvs⟩)<|Gr hb)
end
section
variable {m:MV} {b:Nat} {p:M Nd}
def Gt{nm}(mv:Mov R):Mov (aaA R nm):=λ_ _ _ _ _ _⟨L,a,b,c,d,e⟩x y z=>⟨L,a,b,c,d,e.move (λ_ _ _ _ _ _ h a b c=>mv _ _ _ _ _ _ h a b c) x y z⟩
def aaA.sl{nm}{v}(h:aaA R nm w P a v):∃va L vc,v=.slice va L vc:=by obtain⟨_,_,_,_,_,_,_,_,rfl,-⟩:=h;exact⟨_,_,_,rfl⟩
def VV{FH tt}(hs:s.size<=1000)(hT:(ja s 0).length<=1001)(hF:FH=253/\tt=307/\m.d=Mv b\/FH=103/\tt=166/\b=sb)(hI:∀{w P a v},R w P a v->∃t x,v=.iface t (.agg x))(mv:Mov R)(lts:lN (aP (ja s 0) p q sort))(D:∀w k',SX w N rb sb m s k'->k<=k'->Tab N rb sb m s R (aP (ja s 0) p q sort) sort b w k')(h:SX w N rb sb m s k)(mk:∀{w P nm L v}{f t a y:Nat},mN nm->y=a+nm.size->RowV (Q1 R) 1 w P L v->R w P (.mk 2 nm 0 L f t a) (.iface tt<|.agg #[Nv f,Nv t,Nv a,Nv y,.string nm,v])):
 Cq FH #[rp rb] w (ap R N rb sb m s (jB (ja s 0) (aP (ja s 0) p q sort) sort k) w):=by
 have ho:=dX s k h.lt;have qJ:=(nO s k h.lt).sp;have hku:=CA ho h.ok;rw[show FY.toList=[117,112,32,110,97,109,101]from toList_mk _]at hku;have⟨c,f,z⟩:=h.bx
 replace D:=ai D
 replace qJ:=ai qJ
 by_cases h2:(tk (ja s 0) k).kind=2
 .rw[h2]at hku;have⟨k1,e1,e2⟩:=Nn s k h.lt ae;have HE:jB (ja s 0) (aP (ja s 0) p q sort) sort k=aM (di (ja s 0) 2) (λ_=>eN (ja s 0) (aP (ja s 0) p q sort) sort (ja s 0).length<|.mk 2 (tk (ja s 0) k).text 0 [] (tk (ja s 0) k).al (aF (ja s 0)<|k+1) (tk (ja s 0) k).al) k:=by
   unfold jB;rw[if_pos<|by simp[h2]];unfold aM;rw[VW sort k h2,rC h2,e2];unfold cu bE eC;simp[h2]
  obtain⟨rfl,rfl,so⟩|⟨rfl,rfl,rfl⟩:=hF
  all_goals(
   refine cz.xN h HE λH=>?_;clear HE e1 e2;first
   |go_enter func253,ntmps253
   |go_enter func103,ntmps103
   go_wp2_with fail;refine H.call (sT h hs 2 FY<|j9 ⟨rfl,rfl⟩) ?_ (st:=λ_=>iO _ _ _ _);intro t k1 v w1 H q V
   cases V
   rw[rC h2]at q
   cases q
   have H:=H.box (D:=#[Nv (tk (ja s 0) k).al,Nv (tk (ja s 0) k).to,Sv (tk (ja s 0) k).text]) (t:=133);clear c f z;have⟨c,f,z⟩:=H.sx.bx;go_wp2_with fail;clear c f z;refine(H.re<|CO (eN (ja s 0) (aP (ja s 0) p q sort) sort (ja s 0).length<|.mk 2 (tk (ja s 0) k).text 0 [] (tk (ja s 0) k).al (aF (ja s 0)<|k+1) (tk (ja s 0) k).al)<|k+1).call (VS hT (by first|exact .inl ⟨rfl,rfl,rfl⟩|exact .inr ⟨rfl,rfl,rfl⟩) hI mv lts (λw k' S l=>uh D w k' S ae) H.sx _ _ _ _) ?_ (mv:=Gt mv);intro a k2 v w3 H q V;have⟨L',hL'⟩:=pS _ _ _ _ _ q;subst hL';obtain⟨va,L,vc,rfl⟩:=V.sl;clear V q;have⟨⟨_,c3,f3,z3⟩,_⟩:=H.p
   go_wp2
   go_region_with(go_at_call 105;refine H.drew.since ?_;intro w4 H;have⟨⟨_,c4,f4,z4⟩,_⟩:=H.p)
   all_goals(
    go_wp2
    go_ret;refine H.done ?_;rintro⟨_,L1,fr,tz,at_,e,V⟩;injection e with _ _ _ e3 e4 e5 e6;subst e3 e4 e5 e6
    exact mk (ho.v2 h2) qJ V))
 .rw[show((tk (ja s 0) k).kind==2)=false by simp[h2]]at hku;have HE:jB (ja s 0) (aP (ja s 0) p q sort) sort k=(aP (ja s 0) p q sort) k:=by unfold jB;rw[if_neg<|by simp[h2]]
  rw[HE];obtain⟨rfl,rfl,so⟩|⟨rfl,rfl,rfl⟩:=hF
  all_goals(
   first
   |go_enter func253,ntmps253
   |go_enter func103,ntmps103
   go_wp2_with fail;refine(acu (by first|exact .inl ⟨rfl,rfl⟩|exact .inr<|.inl ⟨rfl,rfl⟩) hI h<|uh D _ _ h<|br _).mono ?_;intro e w1 hp
   cases hA:fin (ja s 0) ((aP (ja s 0) p q sort) k)with
   |error f'=>
    obtain⟨rfl,VR⟩:=hp.bad hA;exact⟨rfl,hp⟩
   |ok r=>
   obtain⟨a,k2⟩:=r;obtain⟨v,rfl,_,_,hR⟩:=hp.ok hA;obtain⟨tv,xv,rfl⟩:=hI hR
   go_wp2
   go_ret
   exact hp)
end
abbrev AL s n:=aP (ja s 0) (eH (ja s 0) n) (eH (ja s 0) n) 1
def RowV.pt{L}{v}{nm}{t a y}(hu:mN nm)(hy:y=a+nm.size)(h:RowV (Q1 PT) 1 w P L v):PT w P (.mk 2 nm 0 L f t a) (.iface 166<|.agg #[Nv f,Nv t,Nv a,Nv y,.string nm,v]):=by
 obtain⟨va,vc,cs,rfl,aN,hr⟩:=h;exact .up nm 0 L f t a _ _ _ _ va vc (λi=>cs i 0) hu (aN.imp id λ⟨g,h1,h2,h3,h4⟩=>⟨g,h1,h2,h3,λi hi=>by simpa using h4 i hi 0 aK⟩) hr rfl (by rw[hy])
def VX s n:=∀(w:World)(N rb sb:Nat)(m:MV)(k:Nat),SX w N rb sb m s k->(ja s 0).length<=k+n->Cq 70 #[rp rb] w (ap PT N rb sb m s (eH (ja s 0) n k) w)
section
variable {m:MV}
def Gu(hs:s.size<=1000)(IH:VX s n)(h:SX w N rb sb m s k)(hn:(ja s 0).length<=k+1+n)(ho:a_ (tk (ja s 0) k) l_=true):Cq 202 #[rp rb] w (ap PT N rb sb m s (AL s n k) w):=by
 have Th:=gK;have VL:=jI;refine cz.xN h (sW ho) λH=>?_;go_enter func202,ntmps202;go_wp2_with fail;refine H.take ?_;intro w1 H;go_wp2_with fail;refine(H.re (g':=aM (eH (Pu.bC s 0) n)<|k_ (Pu.bC s 0) (eH (Pu.bC s 0) n) (eH (Pu.bC s 0) n) 1 (tk (Pu.bC s 0) k).al) (by rw[jA];rw[if_neg ag])).call (IH _ _ _ _ _ _ H.sx ae) ?_;intro a k2 v w2 H q V;obtain⟨t2,x2,rfl⟩:=V.iface;have l2:=cX (T:=(Pu.bC s 0)) n _ _ _ q;go_wp2_with fail
 cases hm:a_ (tk (ja s 0) k2) pQ
 .exact Nu
 .refine(H.re<|nT hm).zO hm ?_;intro w3 H;go_wp2_with fail;refine H.call (IH _ _ _ _ _ _ H.sx ae) ?_;intro b k4 v w4 H q V;obtain⟨t4,x4,rfl⟩:=V.iface;go_wp2_with fail;refine H.take ?_;intro w5 H;go_wp2_with fail;refine H.since ?_;intro w6 H
  go_wp2
  go_ret;exact H.done λ⟨⟨_,A⟩,B⟩=>.pr _ _ _ _ _ _ _ _ _ _ _ A B
def agL(hs:s.size<=1000)(IH:VX s n)(h:SX w N rb sb m s k)(hn:(ja s 0).length<=k+1+n):Tab N rb sb m s PT (AL s n) 1 sb w k:=by
 have ho:=dX s k h.lt;have ht:=pd s k h.lt;refine⟨smL rb,h.ev.sm,?_⟩
 cases hb:aG (tk (ja s 0) k) 1
 .exact .inr ⟨rfl,Vv ho h.ok hb⟩
 .refine .inl ⟨rfl,.inl ⟨_,aaq ho h.ok hb,Vu _,λW hW=>?_⟩⟩;have h:=h.af hW;rw[fid];by_cases h3:(tk (ja s 0) k).kind=3
  .rw[if_pos h3,show AL s n k=_ from ua (j8 h3)];refine(Q4 h.rd hs ht h3 ho).mono λe w' q=>q.x h ae ?_;rw[show cu (tk (ja s 0) k)=.mk 16 (tk (ja s 0) k).text 0 [] (tk (ja s 0) k).al (tk (ja s 0) k).to (tk (ja s 0) k).al by rw[cu,bE,eC];simp[h3]];exact .var _ _ _ _ _ _ _ (ho.v3 h3) rfl (by rw[acp s k h.lt])
  rw[if_neg h3];by_cases h2:(tk (ja s 0) k).kind=2
  .rw[if_pos h2,show AL s n k=_ from ua (j9 h2)];refine(Ko h.rd hs ht h2).mono λe w' q=>q.x h ae ?_;rw[show cu (tk (ja s 0) k)=.mk 2 (tk (ja s 0) k).text 0 [] (tk (ja s 0) k).al (tk (ja s 0) k).to (tk (ja s 0) k).al by rw[cu,bE,eC];simp[h2]];exact .up _ _ [] _ _ _ _ _ _ _ none 0 (λ_=>Zv) (ho.v2 h2) (j8 rfl) (λi hi=>by simp at hi) rfl (by rw[acp s k h.lt])
  rw[if_neg h2];rw[sR ho]at hb;exact Gu hs IH h hn (by simpa[h2,h3]using hb)
def Ky(hs:s.size<=1000)(hT:(ja s 0).length<=1001)(IH:VX s n):VX s (n+1):=by
 intro w N rb sb m k h hn;have sl:lN (AL s n):=cy (cX (T:=(Pu.bC s 0)) n) (cX n) 1;refine cz.xN (mm:=jB (Pu.bC s 0) (AL s n) 1) (g:=nk (Pu.bC s 0) (eH (Pu.bC s 0) n) (tk (Pu.bC s 0) k).al) h rfl λH=>?_;have⟨c,f,z⟩:=h.bx;go_enter func70,ntmps70;go_wp2_with fail;refine H.call (VV (R:=PT) hs hT (.inr ⟨rfl,rfl,rfl⟩) PT.iface (λ_ _ _ _ _ _ h a b c=>h.move a b c) sl (λw k' S l=>agL hs IH S ae) h RowV.pt) ?_ (st:=λa=>ub _ _ _ a);intro a k2 v w1 H q V;obtain⟨tv,xv,rfl⟩:=V.iface;have l2:=sY sl 1 _ _ _ q;clear V q;go_wp2_with fail
 cases hc:a_ (tk (ja s 0) k2) pE
 .refine H.CI hc ?_;have H:=H.re (g':=λk=>.ok (a,k)) (by rw[nk];rw[hc];rfl)
  go_wp2
  go_ret;exact H.done λh=>h.2
 .refine(H.re (g':=aM pi λ_=>aM (eH (ja s 0) n) λb k'=>.ok (.mk 17 iq 0 [a,b] (tk (ja s 0) k).al (aF (ja s 0) k') (tk (ja s 0) k).al,k')) (by rw[nk];rw[if_pos hc];rfl)).zO hc ?_;intro w3 H;go_wp2_with fail;refine H.call (IH _ _ _ _ _ _ H.sx ae) ?_;intro b k4 v w4 H q V;obtain⟨t4,x4,rfl⟩:=V.iface;go_wp2_with fail;refine H.since ?_;intro w5 H
  go_wp2
  go_ret;exact H.done λ⟨⟨_,A⟩,B⟩=>.fn _ _ _ _ _ _ _ _ _ _ _ A B
def VY(hs:s.size<=1000)(hT:(ja s 0).length<=1001):∀n,VX s n
 |0=>λw N rb sb m k h hn=>by have:=h.lt;omega|n+1=>Ky hs hT<|VY hs hT n
def Nw(hs:s.size<=1000)(hT:(ja s 0).length<=1001)(h:SX w N rb sb m s k)(hn:(ja s 0).length<=k+n):Cq 70 #[rp rb] w (ap PT N rb sb m s (eH (ja s 0) n k) w):=VY hs hT n _ _ _ _ _ _ h hn
end
end
end Go.Proofs.YtfnkchdeheeiiaaGreatDoor

import Derived.Test.YtnldmeakhapdhaaGreatDoorRPf
import Derived.Test.YtnldmeakhapdhaaGreatDoorRWj
set_option linter.all false
set_option maxRecDepth 100000
set_option maxHeartbeats 8000000
namespace Go.Proofs.YtnldmeakhapdhaaGreatDoor
open Pu renaming bH->ja,Tok->jc,aJ->jd,dB->jf,mF->jh,at_->ji,gV->jj
open _root_.List.Mem renaming tail->jk,head->jl
open _root_.Nat renaming lt_of_lt_of_le->jm,le_trans->jo,ne_of_gt->jp,le_of_lt->jq,succ_mul->jt,mul_le_mul_right->ju
open Go.Value renaming string->jv,slice->jx
open Go.Proofs.Tryz renaming prog->jy,results134->jz
open Or renaming inl->j5,inr->j6
open Go.ByteArray renaming toList_eq->j7
open Ke renaming Jr->j8,of->j9
open Bool renaming and_eq_true->qe
open Go.World renaming cell?_of_block->qf
open Go.RowKit.Below renaming refl->qg,heap_setCell->qh
open _root_.List renaming range->qi,not_mem_nil->qk,mem_cons->ql
open Go Go.RowKit Proofs.Tryz
variable {C D args:Array Value} {c s:BA} {e:Ending} {post:Ending->World->Prop} {r:Except Fl (Nd×Nat)} {L:List (BA×Value)} {T:List jc} {q sm:M Nd} {F N base f fr j k k' mt n rb sb sort vc xb y:Nat} {P:Nat->Prop} {a nd:Nd} {va:Option Addr} {t:jc} {α β γ:Type} {et:TypeId} {W w w' w0 w3:World} {R:World->(Nat->Prop)->Nd->Value->Prop}
section
open Go.ChangeMaps
def uL{r}{a:α}(h:fin T r=.ok (a,k)):r=.ok (a,k)/\(tk T k).kind≠6:=by
 unfold fin at h;split at h
 .cases h
 .grind
theorem c_(a:α)(h:(tk T k).kind=6):fin T (.ok (a,k))=.error (d_<|tk T k):=by rw[fin];simp[h]
def lD(a:α)(h:(tk T k).kind≠6):fin T (.ok (a,k))=.ok (a,k):=by grind[tk,fin]
def aS{α:Type}(T:List jc)(g:M α):=∀k,(tk T k).kind=6->fin T (g k)=.error (d_<|tk T k)
theorem nE{m}{g:α->M β}{a}(h:fin T (m k)=.ok (a,k')):aK m g k=g a k':=by grind[fin,aK]
def b8{m}{g:α->M β}{f}(h:fin T (m k)=.error f)(hs:∀a,aS T<|g a):fin T (aK m g k)=.error f:=by grind[fin,aS,aK]
theorem eI(h:t.kind=6)s:aU t s=false:=by grind[aU]
def Zj(h:t.kind=6):aF t 1=false:=by grind[aF,bI,eI]
def rM(T:List jc)c:aS T (bz T c):=λk h=>by rw[bz];rw[eI h];rfl
theorem fU{m}{g:α->M β}(h:aS T m)(hg:∀a,aS T<|g a):aS T (aK m g):=λk hk=>b8 (h k hk) hg
def Jv(T:List jc)mk:aS T (oY T mk):=fU (rM T _) λ_ k h=>c_ _ h
def Jw(T:List jc)p q:aS T (aH T p q 1):=λk h=>by
 rw[aH];rw[Zj h];rfl
def wo(T:List jc)p f a:aS T (oK T p f a):=by grind[aS,oK,eI,c_]
def Dg(T:List jc):∀n,aS T<|gP T n
 |0=>λk h=>rfl|n+1=>λk h=>by
  rw[gP];refine b8 ?_<|λa=>wo T _ _ a;rw[iY];rw[if_neg<|by simp[h]];exact Jw T _ _ k h
def PT.iface{v}(h:PT w P a v):∃t x,v=.iface t (.agg x):=by
 cases h<;>exact⟨_,_,rfl⟩
def h_ a b c d w:(Instr.field 141 (.agg #[a,b,c,d]) 0).run jy w=.ok (.agg #[a,b]) w:=qkr
def kL a b w:(Instr.field 72 (.agg #[a,b]) 0).run jy w=.ok a w:=qkr
abbrev E9:BA:=⟨#[108,111,119,32,110,97,109,101]⟩
abbrev Oc:BA:=⟨#[97,32,110,117,109,98,101,114]⟩
abbrev rp rb:=Pv rb
abbrev oZ(f rb:Nat):Value:=.func (.func f) #[rp rb] #[]
abbrev nF(f b:Nat):Value:=.func (.func f) #[] #[Pv b]
abbrev UP(b c:Nat):Value:=.func (.func 142) #[] #[Pv b,Pv c]
abbrev Jx rb:=[(nY,oZ 77 rb),(sR,oZ 78 rb)]
abbrev QU rb:=[(IQ,oZ 79 rb),(sR,oZ 80 rb),(kIf,oZ 81 rb),(rD,oZ 82 rb)]
abbrev tq rb b:=[(E9,nF 83 b),(Jq,oZ 85 rb),(Oc,nF 86 b),(gB,nF 88 b),(dJ,nF 90 b),(nC,oZ 91 rb)]
abbrev rN rb b:=[(Aa,oZ 92 rb),(E9,nF 93 b),(Jq,oZ 94 rb),(Oc,nF 95 b),(gB,nF 96 b),(dJ,nF 97 b),(nC,oZ 98 rb)]
def o5 w N rb v L:=∃b,v=Mv b/\b<N/\b≠rb/\MS jv w b L
def gW w N rb b C:=b<N/\b≠rb/\Bx w b C
structure Maps w N rb(m:MV):Prop where
 d:o5 w N rb m.a (Jx rb)
 wd:o5 w N rb m.b (QU rb)
 at_:∃x,gW w N rb x #[rp rb]/\o5 w N rb m.c (tq rb x)
 pl:∃x,gW w N rb x #[rp rb]/\o5 w N rb m.d (rN rb x)
 cm:∃x y,gW w N rb x #[rp rb]/\gW w N rb y #[oZ 103 rb]/\o5 w N rb m.f [(dL,UP x y)]
 sm:∃x y x' y',gW w N rb x #[rp rb]/\gW w N rb y #[oZ 104 rb]/\gW w N rb x' #[rp rb]/\gW w N rb y' #[oZ 104 rb]/\o5 w N rb m.g [(gh,UP x y),(dE,UP x' y')]
 pr:∃x y,gW w N rb x #[rp rb]/\gW w N rb y #[oZ 105 rb]/\o5 w N rb m.h [(fc,UP x y)]
section
variable {m:MV}
theorem o5.move{v:Value}(h:o5 w N rb v L)(hb:∀b,b<N->b≠rb->w'.heap[b]? =w.heap[b]?):o5 w' N rb v L:=by
 obtain⟨b,h1,h2,h3,h4⟩:=h;exact⟨b,h1,h2,h3,h4.same<|hb b h2 h3⟩
theorem gW.move{b}(h:gW w N rb b C)(hs:w.heap.size<=w'.heap.size)(hb:∀b,b<N->b≠rb->w'.heap[b]? =w.heap[b]?):gW w' N rb b C:=
 ⟨h.1,h.2.1,h.2.2.same hs<|hb b h.1 h.2.1⟩
theorem Maps.move(h:Maps w N rb m)(hs:w.heap.size<=w'.heap.size)(hb:∀b,b<N->b≠rb->w'.heap[b]? =w.heap[b]?):Maps w' N rb m:=by
 obtain⟨d,wd,⟨x1,a1,a2⟩,⟨x2,b1,b2⟩,⟨x3,y3,c1,c2,c3⟩,⟨x4,y4,x5,y5,d1,d2,d3,d4,d5⟩,⟨x6,y6,e1,e2,e3⟩⟩:=h;exact⟨d.move hb,wd.move hb,⟨x1,a1.move hs hb,a2.move hb⟩,⟨x2,b1.move hs hb,b2.move hb⟩,⟨x3,y3,c1.move hs hb,c2.move hs hb,c3.move hb⟩,⟨x4,y4,x5,y5,d1.move hs hb,d2.move hs hb,d3.move hs hb,d4.move hs hb,d5.move hb⟩,⟨x6,y6,e1.move hs hb,e2.move hs hb,e3.move hb⟩⟩
structure Env w N rb sb m:Prop where
 sm:MS jv w sb (smL rb)
 la:Laid w
 h2:2<=rb
 hr:rb<N
 hs:sb<N
 ne:sb≠rb
 hN:N<=w.heap.size
 mp:Maps w N rb m
theorem Env.move(h:Env w N rb sb m)(hs:w.heap.size<=w'.heap.size)(hb:∀b,b<N->b≠rb->w'.heap[b]? =w.heap[b]?):Env w' N rb sb m:=by
 have c:∀b o,b<2->w'.cell? ⟨b,o,none⟩=w.cell? ⟨b,o,none⟩:=λb o q=>qf (a:=⟨b,o,none⟩) (hb b (by have:=h.hr;have:=h.h2;omega) (by have:=h.h2;omega));exact⟨h.sm.same<|hb sb h.hs h.ne,⟨λj hj=>(c 1 j ae).trans<|h.la.words j hj,λj hj=>(c 0 j ae).trans<|h.la.signs j hj,jo h.la.hz hs⟩,h.h2,h.hr,h.hs,h.ne,jo h.hN hs,h.mp.move hs hb⟩
def Env.ke(h:Env w N rb sb m)(hk:Ke rb w w'):Env w' N rb sb m:=h.move hk.size λb hb hn=>hk.block b (jm hb h.hN) hn
end
structure SX w N rb sb m s k:Prop where
 bx:Bx w rb (rdC s (tk (ja s 0) k) (aG (ja s 0) k) m sb)
 ev:Env w N rb sb m
 lt:k<(ja s 0).length
 ok:(tk (ja s 0) k).kind≠6
def ap{α:Type}(R:World->(Nat->Prop)->α->Value->Prop)N rb sb m s r w e w':=
 Ke rb w w'/\match fin (ja s 0) r with
  |.error f=>e=bU f|.ok (a,k)=>∃v,e=.returned v/\SX w' N rb sb m s k/\R w' (λb=>w.heap.size<=b) a v
section
variable {R:World->(Nat->Prop)->α->Value->Prop} {m:MV}
def SX.rd(h:SX w N rb sb m s k):RD w rb sb m s (tk (ja s 0) k) (aG (ja s 0) k):=⟨h.bx,h.ev.sm,h.ev.ne,h.ev.la,h.ev.h2⟩
theorem SX.move(h:SX w N rb sb m s k)(hs:w.heap.size<=w'.heap.size)(hb:∀b,b<N->w'.heap[b]? =w.heap[b]?):SX w' N rb sb m s k:=
 ⟨h.bx.same hs<|hb rb h.ev.hr,h.ev.move hs<|λb q _=>hb b q,h.lt,h.ok⟩
def SX.af(h:SX w N rb sb m s k)(hb:Bq w w'):SX w' N rb sb m s k:=h.move hb.size λb q=>hb.block b<|jm q h.ev.hN
def SX.z(h:SX w N rb sb m s k):rb<w.heap.size:=h.bx.z
def SX.of(h:RD w rb sb m s (tk (ja s 0) k) (aG (ja s 0) k))(hE:Env w N rb sb m)(h1:k<(ja s 0).length)(h2:(tk (ja s 0) k).kind≠6):SX w N rb sb m s k:=⟨h.bx,hE,h1,h2⟩
def ap.ok{r}(h:ap R N rb sb m s r w e w'){a}(hr:fin (ja s 0) r=.ok (a,k)):∃v,e=.returned v/\Ke rb w w'/\SX w' N rb sb m s k/\R w' (λb=>w.heap.size<=b) a v:=by grind[ap,fin]
def ap.bad{r}(h:ap R N rb sb m s r w e w'){f:Fl}(hr:fin (ja s 0) r=.error f):e=bU f/\Ke rb w w':=by grind[ap,fin]
def ap.fail{r}{f:Fl}(hK:Ke rb w w')(h:fin (ja s 0) r=.error f):ap R N rb sb m s r w (bU f) w':=⟨hK,by rw[h]⟩
def ap.stop{r}{mm}{g:β->M α}{f:Fl}(hE:r=aK mm g j)(hA:fin (ja s 0) (mm j)=.error f)(jQ:∀a,aS (ja s 0)<|g a)(hK:Ke rb w w'):ap R N rb sb m s r w (bU f) w':=
 ap.fail hK (by rw[hE,b8 hA jQ])
def ap.done{r}{a}{v:Value}(hE:r=.ok (a,k))(hK:Ke rb w w')(hS:SX w' N rb sb m s k)(hR:R w' (λb=>w.heap.size<=b) a v):ap R N rb sb m s r w (.returned v) w':=by
 refine⟨hK,?_⟩;rw[hE,lD _ hS.ok];exact⟨v,rfl,hS,hR⟩
def ap.go{f}{r}{mm}{g}{R':World->(Nat->Prop)->γ->Value->Prop}(hK:Hid (Ke rb w0 w))(hE:Hid (r=aK mm g j))(hC:Cq f args w (ap R N rb sb m s (mm j) w))(jQ:∀a,aS (ja s 0)<|g a)(bad:∀f' w',ap R' N rb sb m s r w0 (bU f') w'->post (bU f') w')(ok:∀a k' v w',Hid (SX w' N rb sb m s k')->Hid (Ke rb w0 w')->Hid (r=g a k')->mm j=.ok (a,k')->w.heap.size<=w'.heap.size->Ke rb w w'->R w' (λb=>w.heap.size<=b) a v->post (.returned v) w'):Cq f args w post:=by
 refine hC.mono λe w' hp=>?_
 cases hA:fin (ja s 0) (mm j)with
 |error f'=>obtain⟨rfl,hb⟩:=hp.bad hA;exact bad f' w'<|ap.stop hE hA jQ<|hK.trans hb
 |ok p=>obtain⟨a,k'⟩:=p;obtain⟨v,rfl,hb,hS,hR⟩:=hp.ok hA;exact ok a k' v w' hS (hK.trans hb) (hE.trans<|nE hA) (uL hA).1 hb.size hb hR
def cx.x{v:Value}(h:cx rb sb m s (tk (ja s 0) k) v w e w')(hX:SX w N rb sb m s k)(h7:(tk (ja s 0) k).kind≠7){a}(hR:R w' (λb=>w.heap.size<=b) a v):ap R N rb sb m s (.ok (a,k+1)) w e w':=by
 have⟨h1,h2,h3⟩:=QT s k hX.lt h7;rw[cx]at h;rw[h2,<-h3]at h;refine⟨h.1,?_⟩;rw[fin];obtain⟨g1,g2,g3⟩|⟨g1,g2⟩:=h.2
 .simp only[if_neg g1];exact⟨v,g2,SX.of g3 (hX.ev.ke h.1) h1 g1,hR⟩
 .grind
theorem tw(h:gA t)(hk:t.kind≠6){kd}(hs:kd.size<=5):((aq t).toList==kd.toList)=aU t kd:=by
 have hl:kd.toList.length<=5:=by rw[j7];simpa using hs
 have no:∀x:List UInt8,5<x.length->(x==kd.toList)=false:=λx hx=>by
  rw[beq_eq_false_iff_ne];intro e;rw[e]at hx;omega
 rw[aU];obtain h'|h'|h'|h'|h'|h'|h':=h.kd
 .rw[jH h',no _ qBe];simp[h']
 .rw[im h',no _ qBe];simp[h']
 .rw[iq h',no _ qBe];simp[h']
 .rw[jI h',no _ qBe];simp[h']
 .rw[pU h'];simp[h']
 .exact absurd h' hk
 .rw[jJ h',no _ qBe];simp[h']
def QV{p:Prop}(h:p:=by
 obtain h'|h'|h'|h'|h'|h'|h':=h.kd
 .rw[jH h'];simp[h',j7]
 .rw[im h'];simp[h',j7]
 .rw[iq h'];simp[h',j7]
 .rw[jI h'];simp[h',j7]
 .rw[mH h hk aB h'];simp[h']
 .exact absurd h' hk
 .rw[jJ h'];simp[h',j7]):p:=h
def Zk(h:gA t)(hk:t.kind≠6):((aq t).toList==E9.toList)=(t.kind==1):=by
 exact QV
def Zl(h:gA t)(hk:t.kind≠6):((aq t).toList==Oc.toList)=(t.kind==4):=by
 exact QV
abbrev tkA(t:jc):Value:=.agg #[Nv t.al,Nv t.to,.string<|aq t,.string t.text]
abbrev nmA(t:jc):Value:=.agg #[Nv t.al,Nv t.to,.string t.text]
def Is{α:Type}u(_:World)(_:Nat->Prop)(_:α)(v:Value):=v=u
def Od(_:World)(_:Nat->Prop)(t:jc)v:=v=nmA t
def Jy(h:aU t c=true):t.kind≠7:=by grind[aU]
def Zm(h:SX w N rb sb m s k)(hs:s.size<=1000)c(hc:c.size<=5):Cq 42 #[rp rb,.string c] w (ap (Is<|tkA<|tk (ja s 0) k) N rb sb m s (bz (ja s 0) c k) w):=by
 have ho:=eX s k h.lt;have hk:=tw ho h.ok hc
 cases hi:aU (tk (ja s 0) k) c with
 |true=>
  rw[hi]at hk;refine(kJ h.rd hs (tn s k h.lt) c hk).mono λe w' hp=>?_;have l8:cx rb sb m s (tk (ja s 0) k) (dC<|tk (ja s 0) k) w e w':=hp;have:=l8.x (R:=Is<|tkA<|tk (ja s 0) k) h (Jy hi) (a:=()) rfl;rw[bz];rw[if_pos hi];exact this
 |false=>
  rw[hi]at hk;refine(EY h.rd c hk h.ok).mono ?_;rintro e w'⟨rfl,hK⟩;exact ap.fail hK (by rw[bz];rw[hi];rfl)
def agJ(h:SX w N rb sb m s k)(hs:s.size<=1000)c(hc:c.size<=5)(hi:aU (tk (ja s 0) k) c=true):Cq 139 #[rp rb,.string c] w (ap (Is<|.bool true) N rb sb m s (.ok ((),k+1)) w):=by
 have ho:=eX s k h.lt;have hk:=tw ho h.ok hc;rw[hi]at hk;refine(Zd h.rd hs (tn s k h.lt) c hk).mono λe w' hp=>?_;have l8:cx rb sb m s (tk (ja s 0) k) (.bool true) w e w':=hp;exact l8.x (R:=Is<|.bool true) h (Jy hi) rfl
def agK(h:SX w N rb sb m s k)c(hc:c.size<=5)(hi:aU (tk (ja s 0) k) c=false):Cq 139 #[rp rb,.string c] w λe w'=>e=.returned (.bool false)/\w=w':=
 (ac7 h.rd c (by rw[tw (eX s k h.lt) h.ok hc];exact hi)).mono λe w' q=>⟨q.1,q.2.symm⟩
def uM(h:SX w N rb sb m s k)(hs:s.size<=1000)n c(hc:n=1/\c=E9\/n=2/\c=Jq):Cq 129 #[rp rb,.string c] w (ap Od N rb sb m s (cY (ja s 0) n k) w):=by
 have ho:=eX s k h.lt;have hk:((aq<|tk (ja s 0) k).toList==c.toList)=((tk (ja s 0) k).kind==n):=by
  obtain⟨rfl,rfl⟩|⟨rfl,rfl⟩:=hc
  .exact Zk ho h.ok
  .exact EZ ho h.ok
 cases hi:((tk (ja s 0) k).kind==n)with
 |true=>
  rw[hi]at hk;have hn:(tk (ja s 0) k).kind=n:=qBl;refine(Oa h.rd hs (tn s k h.lt) c hk).mono λe w' hp=>?_;have:=hp.x (R:=Od) h (by obtain⟨rfl,_⟩|⟨rfl,_⟩:=hc<;>omega) (a:=tk (ja s 0) k) rfl;rw[cY];rw[if_pos hi];exact this
 |false=>
  rw[hi]at hk;refine(ac8 h.rd c hk h.ok).mono ?_;rintro e w'⟨rfl,hK⟩;exact ap.fail hK (by rw[cY];rw[hi];rfl)
def ac_(h:SX w N rb sb m s k)i:Cq 133 #[rp rb,Iv i] w λe w'=>e=.returned (.agg #[Iv i,.int .i64 ((aG (ja s 0) k:Nat):Int)])/\Bq w w':=ac6 h.rd i
def Jz(g:Nat->α):aS T λk=>.ok (g k,k):=λ_ h=>c_ _ h
theorem rO(T:List jc)n(hn:n≠6):aS T (cY T n):=λk h=>by rw[cY];rw[if_neg (by simp[h];omega)];rfl
end
def Cc(s:BA):=∃x r,s.toList=x::r/\Pu.gn x.toNat=true
def ada s:=0<s.size/\s.size<=9/\∀i,i<s.size->jf (ji s i)=true
structure afe(t:jc):Prop where
 sp:t.to=t.al+t.text.size
 v1:t.kind=1->Cc t.text
 v4:t.kind=4->ada t.text
def pV{p}:∀(d i j:Nat),j-i=d->i<=j->j<jd s p i->p (ji s j)=true:=by
 have hp6:∀i,i<jd s p i->i<s.size/\p (ji s i)=true:=λi h=>by
  by_cases hi:i<s.size
  .cases q:p (ji s i)with
   |true=>exact⟨hi,rfl⟩|false=>rw[Pu.o6 hi q]at h;omega
  .rw[Pu.mI ae]at h;omega
 intro d
 induction d with
 |zero=>grind|succ d ih=>
  intro i j h1 h2 h3;have bA:i<jd s p i:=ae;have⟨g1,g2⟩:=hp6 i bA;rw[Pu.eQ g1 g2]at h3;exact ih (i+1) j ae ae h3
def Zn s i e j(he:e<=s.size)(hj:i+j<e):ji (s.extract i e) j=ji s (i+j):=by
 have h1:j<(s.extract i e).size:=qBo;rw[jh h1,jh ae];rw[ByteArray.getElem_extract]
def JA s i(hi:i<s.size):afe (Pu.cX s i):=by
 have ht:=Pu.mD s i hi;revert ht;rw[Pu.cX];have ex:∀k b:Nat,i<b->b<=s.size->(jj s i k b).to=(jj s i k b).al+(jj s i k b).text.size:=λk b h1 h2=>by
  show b=i+(s.extract i b).size;rw[ByteArray.size_extract];omega
 repeat' split
 all_goals intro ht
 all_goals refine⟨ex _ _ ht.1 ht.2,?_,?_⟩
 all_goals intro q
 all_goals try(exfalso;simp[jj]at q;done)
 .rename_i h1 _;exact⟨_,_,jF hi ht.1,by rw[<-jh hi];exact h1⟩
 .rename_i h4 h5;have hto:jd s jf (i+1)<=s.size:=ht.2;have bA:i<jd s jf (i+1):=ht.1;have gL:(s.extract i<|jd s jf<|i+1).size=jd s jf (i+1)-i:=qBo;refine⟨by show 0<(s.extract i _).size;omega,by show(s.extract i _).size<=9;omega,λj hj=>?_⟩;have hj':j<(s.extract i<|jd s jf<|i+1).size:=hj;show jf (ji (s.extract i _) j)=true;rw[Zn s i _ j hto ae]
  cases j with
  |zero=>exact h4|succ j=>exact pV j (i+1) (i+(j+1)) ae ae ae
def o7 s k(hk:k<(ja s 0).length):afe (tk (ja s 0) k):=by
 rw[lB s k hk];rw[aE];split
 .rename_i h;exact JA s _ h
 .exact⟨by simp[Pu.eY];rfl,qBr,qBr⟩
inductive PP(w:World)(P:Nat->Prop):Nd->Value->Prop where
 |any(s:BA)(n f t a:Nat):PP w P (.mk 15 s n [] f t a) (.iface 260<|.agg #[Nv f,Nv t])
 |low(s:BA)(n f t a:Nat)(hs:Cc s):PP w P (.mk 1 s n [] f t a) (.iface 198<|.agg #[Nv f,Nv t,.string s])
 |num(s:BA)(n f t a:Nat):PP w P (.mk 3 s n [] f t a) (.iface 201<|.agg #[Nv f,Nv t,Nv n])
 |word(s:BA)(n f t a:Nat)(hs:s.toList=gB.toList\/s.toList=dJ.toList):PP w P (.mk 4 s n [] f t a) (.iface 204<|.agg #[Nv f,Nv t,.bool<|s.toList==[116,114,117,101]])
 |unit(s:BA)(n f t a:Nat):PP w P (.mk 5 s n [] f t a) (.iface 259<|.agg #[Nv f,Nv t])
 |pr(s:BA)(n:Nat)(x y:Nd)(f t a:Nat)(vx vy:Value)(hx:PP w P x vx)(hy:PP w P y vy):PP w P (.mk 6 s n [x,y] f t a) (.iface 265<|.agg #[Nv f,Nv t,vx,vy])
 |up(s:BA)(n:Nat)(L:List Nd)(f t a y:Nat)(sa:Option Addr)(sc:Nat)(vs:Nat->Value)(hu:od s)(hy:y=a+s.size)(aO:L=[]\/∃g,sa=some ⟨g,0,none⟩/\P g/\g<w.heap.size/\∀i,i<L.length->w.cell? ⟨g,i,none⟩=some (vs i))(hr:∀i(h:i<L.length),PP w P L[i]<|vs i):
  PP w P (.mk 2 s n L f t a) (.iface 263<|.agg #[Nv f,Nv t,Nv a,Nv y,.string s,.slice sa L.length sc])
inductive PE(w:World)(P:Nat->Prop):Nd->Value->Prop where
 |low(s:BA)(n f t a:Nat)(hs:Cc s):PE w P (.mk 1 s n [] f t a) (.iface 198<|.agg #[Nv f,Nv t,.string s])
 |up(s:BA)(n f t a:Nat)(hs:od s):PE w P (.mk 2 s n [] f t a) (.iface 219<|.agg #[Nv f,Nv t,.string s])
 |num(s:BA)(n f t a:Nat):PE w P (.mk 3 s n [] f t a) (.iface 201<|.agg #[Nv f,Nv t,Nv n])
 |word(s:BA)(n f t a:Nat)(hs:s.toList=gB.toList\/s.toList=dJ.toList):PE w P (.mk 4 s n [] f t a) (.iface 204<|.agg #[Nv f,Nv t,.bool<|s.toList==[116,114,117,101]])
 |unit(s:BA)(n f t a:Nat):PE w P (.mk 5 s n [] f t a) (.iface 259<|.agg #[Nv f,Nv t])
 |pr(s:BA)(n:Nat)(x y:Nd)(f t a:Nat)(vx vy:Value)(hx:PE w P x vx)(hy:PE w P y vy):PE w P (.mk 6 s n [x,y] f t a) (.iface 221<|.agg #[Nv f,Nv t,vx,vy])
 |of(s:BA)(n:Nat)(x y:Nd)(f t a:Nat)(vx vy:Value)(hx:PE w P x vx)(hy:PT w P y vy):PE w P (.mk 14 s n [x,y] f t a) (.iface 224<|.agg #[Nv f,Nv t,vx,vy])
 |op(s:BA)(n:Nat)(x y:Nd)(f t a:Nat)(vx vy:Value)(hs:s=gh\/s=dE\/s=fc\/s=dL)(hx:PE w P x vx)(hy:PE w P y vy):PE w P (.mk 7 s n [x,y] f t a) (.iface 236<|.agg #[Nv f,Nv t,.string s,vx,vy])
 |call(s:BA)(n:Nat)(x y:Nd)(f t a:Nat)(vx vy:Value)(hx:PE w P x vx)(hy:PE w P y vy):PE w P (.mk 8 s n [x,y] f t a) (.iface 238<|.agg #[Nv f,Nv t,vx,vy])
 |fn(s:BA)(n:Nat)(x:Nd)(f t a y:Nat)(vx:Value)(hs:Cc s)(hy:y=a+s.size)(hx:PE w P x vx):PE w P (.mk 9 s n [x] f t a) (.iface 226<|.agg #[Nv f,Nv t,Nv a,Nv y,.string s,vx])
 |lt(c:Nat)(s:BA)(n:Nat)(x z:Nd)(f t a y:Nat)(vx vz:Value)(hc:c=10\/c=11)(hs:Cc s)(hy:y=a+s.size)(hx:PE w P x vx)(hz:PE w P z vz):PE w P (.mk c s n [x,z] f t a) (.iface 228<|.agg #[Nv f,Nv t,.bool<|c==11,Nv a,Nv y,.string s,vx,vz])
 |ite(s:BA)(n:Nat)(x y z:Nd)(f t a:Nat)(vx vy vz:Value)(hx:PE w P x vx)(hy:PE w P y vy)(hz:PE w P z vz):PE w P (.mk 12 s n [x,y,z] f t a) (.iface 230<|.agg #[Nv f,Nv t,vx,vy,vz])
 |mt(s:BA)(n:Nat)(x:Nd)(A:List (Nd×Nd))(f t a:Nat)(vx:Value)(g sc:Nat)(vp ve:Nat->Value)(h0:A≠[])(hg:P g)(hz:g<w.heap.size)(hc:∀i,i<A.length->(∃u v,w.cell? ⟨g,i*4,none⟩=some (Iv u)/\w.cell? ⟨g,i*4+1,none⟩=some (Iv v))/\w.cell? ⟨g,i*4+2,none⟩=some (vp i)/\w.cell? ⟨g,i*4+3,none⟩=some (ve i))(hx:PE w P x vx)(hp:∀i(h:i<A.length),PP w P A[i].1<|vp i)(he:∀i(h:i<A.length),PE w P A[i].2<|ve i):
  PE w P (.mk 13 s n (x::aP A) f t a) (.iface 233<|.agg #[Nv f,Nv t,vx,.slice (some ⟨g,0,none⟩) A.length sc])
section
variable {Q:Nat->Prop} {v:Value}
theorem PP.move(h:PP w P nd v)(hs:w.heap.size<=w'.heap.size)(hb:∀b,P b->b<w.heap.size->w'.heap[b]? =w.heap[b]?)(hq:∀b,P b->b<w.heap.size->Q b):PP w' Q nd v:=by
 induction h with
 |any s n f t a=>exact .any s n f t a|low s n f t a h=>exact .low s n f t a h|num s n f t a=>exact .num s n f t a|word s n f t a h=>exact .word s n f t a h|unit s n f t a=>exact .unit s n f t a|pr s n x y f t a vx vy _ _ dQ il=>exact .pr s n x y f t a vx vy dQ il|up s n L f t a y sa sc vs hu hy aO hr ih=>
  refine .up s n L f t a y sa sc vs hu hy ?_ ih;obtain h0|⟨g,h1,hP,hz,hc⟩:=aO
  .exact j5 h0
  .refine j6 ⟨g,h1,hq g hP hz,jm hz hs,λi hi=>?_⟩;rw[qf (a:=⟨g,i,none⟩) (w:=w)<|hb g hP hz];exact hc i hi
def PP.af(h:PP w P nd v)(hb:Bq w w'):PP w' P nd v:=h.move hb.size (λb _ hz=>hb.block b hz)<|λ_ p _=>p
def PP.wide(h:PP w P nd v)(hq:∀b,P b->Q b):PP w Q nd v:=h.move (br _) (λ_ _ _=>rfl)<|λb p _=>hq b p
def PP.iface(h:PP w P nd v):∃t x,v=.iface t (.agg x):=by cases h<;>exact⟨_,_,rfl⟩
theorem PE.move(h:PE w P nd v)(hs:w.heap.size<=w'.heap.size)(hb:∀b,P b->b<w.heap.size->w'.heap[b]? =w.heap[b]?)(hq:∀b,P b->b<w.heap.size->Q b):PE w' Q nd v:=by
 induction h with
 |low s n f t a h=>exact .low s n f t a h|up s n f t a h=>exact .up s n f t a h|num s n f t a=>exact .num s n f t a|word s n f t a h=>exact .word s n f t a h|unit s n f t a=>exact .unit s n f t a|pr s n x y f t a vx vy _ _ dQ il=>exact .pr s n x y f t a vx vy dQ il|of s n x y f t a vx vy _ hy dQ=>exact .of s n x y f t a vx vy dQ (hy.move hs hb hq)|op s n x y f t a vx vy ho _ _ dQ il=>exact .op s n x y f t a vx vy ho dQ il|call s n x y f t a vx vy _ _ dQ il=>exact .call s n x y f t a vx vy dQ il|fn s n x f t a y vx h1 h2 _ ih=>exact .fn s n x f t a y vx h1 h2 ih|lt c s n x z f t a y vx vz h1 h2 h3 _ _ dQ YR=>exact .lt c s n x z f t a y vx vz h1 h2 h3 dQ YR|ite s n x y z f t a vx vy vz _ _ _ dQ il YR=>exact .ite s n x y z f t a vx vy vz dQ il YR|mt s n x A f t a vx g sc vp ve h0 hg hz hc _ hp _ dQ ihe=>
  have c:∀j,w'.cell? ⟨g,j,none⟩=w.cell? ⟨g,j,none⟩:=λj=>qf (a:=⟨g,j,none⟩)<|hb g hg hz;refine .mt s n x A f t a vx g sc vp ve h0 (hq g hg hz) (jm hz hs) (λi hi=>?_) dQ (λi hi=>(hp i hi).move hs hb hq) ihe;rw[c,c,c,c];exact hc i hi
def PE.af(h:PE w P nd v)(hb:Bq w w'):PE w' P nd v:=h.move hb.size (λb _ hz=>hb.block b hz)<|λ_ p _=>p
def PE.wide(h:PE w P nd v)(hq:∀b,P b->Q b):PE w Q nd v:=h.move (br _) (λ_ _ _=>rfl)<|λb p _=>hq b p
def PE.iface(h:PE w P nd v):∃t x,v=.iface t (.agg x):=by cases h<;>exact⟨_,_,rfl⟩
end
def fA s n:=∀(w:World)(N rb sb:Nat)(m:MV)(k:Nat),SX w N rb sb m s k->(ja s 0).length<=k+n->
 Cq 135 #[rp rb] w (ap PE N rb sb m s (bq (ja s 0) n k) w)
def Cd s n:=∀(w:World)(N rb sb:Nat)(m:MV)(k:Nat),SX w N rb sb m s k->(ja s 0).length<=k+n->
 Cq 141 #[rp rb] w (ap PP N rb sb m s (dv (ja s 0) n k) w)
def nH rb f:Cq 102 #[rp rb,oZ f rb] w λe w'=>∃x y,e=.returned (UP x y)/\w.heap.size<=x/\w.heap.size<=y/\Bx w' x #[rp rb]/\Bx w' y #[oZ f rb]/\Bq w w':=by
 go_enter func102,ntmps102
 go_wp2
 go_ret;refine⟨w.heap.size,w.heap.size+1,rfl,br _,Nat.le_succ _,(Bx.new w #[rp rb] _).alloc _,?_,(bw _).alloc ag _⟩;have:=Bx.new (w.alloc<|Cv #[rp rb] 98) #[oZ f rb] 197;simpa using this
def Zo rb:(Cq 57 #[rp rb] w λe w'=>∃b,e=.returned (Mv b)/\w.heap.size<=b/\MS jv w' b (Jx rb)/\Bq w w')/\
 Cq 58 #[rp rb] w λe w'=>∃b,e=.returned (Mv b)/\w.heap.size<=b/\MS jv w' b (QU rb)/\Bq w w':=by
 have H:=Ma.new (w:=w);have HB:=(qg w.heap.size w).alloc (br _)<|.map #[] 0;have jA:= @run_makeMap jy;refine⟨?_,?_⟩;all_goals
  first|go_enter func57,ntmps57|go_enter func58,ntmps58
  go_wp2_with((refine aV _ rfl _ _ _ _ (j5 rfl) (KL.str Tryz.underlying139) (by first|exact Tryz.underlying144|exact Tryz.underlying145) _ _ rfl H _ _ rfl rfl trivial (λ_ _=>trivial) ?_;clear H;intro w' H' O';have H:=ai H';have HB:=ai<|One.below HB O' qbr;clear H' O'));go_ret;exact⟨_,rfl,br _,H,HB⟩
def Zp rb:(Cq 59 #[rp rb] w λe w'=>∃b x,e=.returned (Mv b)/\w.heap.size<=b/\w.heap.size<=x/\Bx w' x #[rp rb]/\MS jv w' b (tq rb x)/\Bq w w')/\
 Cq 60 #[rp rb] w λe w'=>∃b x,e=.returned (Mv b)/\w.heap.size<=b/\w.heap.size<=x/\Bx w' x #[rp rb]/\MS jv w' b (rN rb x)/\Bq w w':=by
 have H:Hid (MS Sv ((w.alloc<|Cv #[rp rb] 98).alloc<|.map #[] 0) (w.heap.size+1) []):=ai (by have:=Ma.new (w:=w.alloc<|Cv #[rp rb] 98);simpa using this);have HB:=ai<|((qg w.heap.size w).alloc (br _)<|Cv #[rp rb] 98).alloc ag<|.map #[] 0;have B0:=ai<|(Bx.new w #[rp rb] 98).alloc<|.map #[] 0;have⟨c0,f0,z0⟩:=uh B0;have jA:= @run_makeMap jy;refine⟨?_,?_⟩;all_goals
  first|go_enter func59,ntmps59|go_enter func60,ntmps60
  go_wp2_with((refine aV _ rfl _ _ _ _ (j5 rfl) (KL.str Tryz.underlying139) (by first|exact Tryz.underlying145|exact Tryz.underlying146) _ _ rfl H _ _ rfl rfl trivial (λ_ _=>trivial) ?_;clear H;intro w' H' O';have H:=ai H';have HB:=ai<|One.below HB O' ag;have B0:=ai<|B0.one O' ag;have⟨c0,f0,z0⟩:=uh B0;clear H' O'));go_ret;exact⟨_,_,rfl,ag,br _,B0,H,HB⟩
def Zq rb:(Cq 62 #[rp rb] w λe w'=>∃b x0 y0,e=.returned (Mv b)/\w.heap.size<=b/\Bx w' x0 #[rp rb]/\Bx w' y0 #[oZ 103 rb]/\w.heap.size<=x0/\w.heap.size<=y0/\MS jv w' b [(dL,UP x0 y0)]/\Bq w w')/\
 Cq 64 #[rp rb] w λe w'=>∃b x0 y0,e=.returned (Mv b)/\w.heap.size<=b/\Bx w' x0 #[rp rb]/\Bx w' y0 #[oZ 105 rb]/\w.heap.size<=x0/\w.heap.size<=y0/\MS jv w' b [(fc,UP x0 y0)]/\Bq w w':=by
 have H:=Ma.new (w:=w);have HB:=(qg w.heap.size w).alloc (br _)<|.map #[] 0;have jA:= @run_makeMap jy;refine⟨?_,?_⟩;all_goals
  first|go_enter func62,ntmps62|go_enter func64,ntmps64
  go_wp2_with fail;first|refine(nH rb 103).mono ?_|refine(nH rb 105).mono ?_
  intro e w1 hp;obtain⟨x0,y0,rfl,hlx,Zr,X0,Y0,hb⟩:=hp;have lx0:=jm H.lt hlx;have ly0:=jm H.lt Zr;have H:=H.below hb;have HB:=HB.trans<|hb.mono HB.size;go_wp2_with(refine aV _ rfl _ _ _ _ (j5 rfl) (KL.str Tryz.underlying139) Tryz.underlying148 _ _ rfl H _ _ rfl rfl trivial (λ_ _=>trivial) ?_;clear H;intro w' H' O';have H:=ai H';have HB:=ai<|One.below HB O' qbr;have X0:=ai<|X0.one O'<|jp lx0;have Y0:=ai<|Y0.one O'<|jp ly0;clear H' O');go_ret;exact⟨_,_,_,rfl,br _,X0,Y0,jq lx0,jq ly0,H,HB⟩
def Oe rb:Cq 63 #[rp rb] w λe w'=>∃b x0 y0 x1 y1,e=.returned (Mv b)/\w.heap.size<=b/\Bx w' x0 #[rp rb]/\Bx w' y0 #[oZ 104 rb]/\w.heap.size<=x0/\w.heap.size<=y0/\Bx w' x1 #[rp rb]/\Bx w' y1 #[oZ 104 rb]/\w.heap.size<=x1/\w.heap.size<=y1/\MS jv w' b [(gh,UP x0 y0),(dE,UP x1 y1)]/\Bq w w':=by
 have H:=Ma.new (w:=w);have HB:=(Below.refl w.heap.size w).alloc (br _)<|.map #[] 0;have jA:= @run_makeMap Tryz.prog;go_enter func63,ntmps63;go_wp2_with fail;refine(nH rb 104).mono ?_;intro e w1 hp;obtain⟨x0,y0,rfl,hlx,Zr,hx,hy,hb⟩:=hp;have lx0:=Nat.lt_of_lt_of_le H.lt hlx;have ly0:=Nat.lt_of_lt_of_le H.lt Zr;have X0:=ai hx;have Y0:=ai hy;have H:=H.below hb;have HB:=HB.trans<|hb.mono HB.size;go_wp2_with(refine aV _ rfl _ _ _ _ (Or.inl rfl) (KL.str Tryz.underlying139) Tryz.underlying148 _ _ rfl H _ _ rfl rfl trivial (λ_ _=>trivial) ?_;clear H;intro w' H' O';have H:=ai H';have HB:=ai<|One.below HB O' qbr;have X0:=ai<|X0.one O'<|Nat.ne_of_gt lx0;have Y0:=ai<|Y0.one O'<|Nat.ne_of_gt ly0;clear H' O');refine(nH rb 104).mono ?_;intro e w2 hp;obtain⟨x1,y1,rfl,hlx,Zr,X1,Y1,hb⟩:=hp;have lx1:=Nat.lt_of_lt_of_le H.lt hlx;have ly1:=Nat.lt_of_lt_of_le H.lt Zr;have X0:=X0.below hb;have Y0:=Y0.below hb;have H:=H.below hb;have HB:=HB.trans<|hb.mono HB.size
 go_wp2_with(refine aV _ rfl _ _ _ _ (j5 rfl) (KL.str Tryz.underlying139) Tryz.underlying148 _ _ rfl H _ _ rfl rfl trivial (λ_ _=>trivial) ?_;clear H;intro w' H' O';have H:=ai H';have HB:=ai<|One.below HB O' qbr;have X0:=ai<|X0.one O'<|jp lx0;have Y0:=ai<|Y0.one O'<|jp ly0;have X1:=ai<|X1.one O'<|jp lx1;have Y1:=ai<|Y1.one O'<|jp ly1;clear H' O');go_ret;exact⟨_,_,_,_,_,rfl,br _,X0,Y0,jq lx0,jq ly0,X1,Y1,jq lx1,jq ly1,H,HB⟩
def qI w rb(ms:List (Nat×List (BA×Value)))(bs:List (Nat×Array Value)):=
 (∀p∈ms,p.1≠rb/\MS jv w p.1 p.2)/\∀q∈bs,q.1≠rb/\Bx w q.1 q.2
section
variable {ms:List (Nat×List (BA×Value))} {bs:List (Nat×Array Value)}
def qI.ke(h:qI w rb ms bs)(hk:Ke rb w w'):qI w' rb ms bs:=
 ⟨λp q=>⟨(h.1 p q).1,(h.1 p q).2.same<|hk.block _ (h.1 p q).2.lt (h.1 p q).1⟩,λp q=>⟨(h.2 p q).1,(h.2 p q).2.ke hk (h.2 p q).1⟩⟩
def qI.m(h:qI w rb ms bs){b}(hn:rb<b)(hm:MS jv w b L):qI w rb ((b,L)::ms) bs:=by grind[qI,bs,MS]
def qI.b(h:qI w rb ms bs){b}(hn:rb<b)(hm:Bx w b C):qI w rb ms ((b,C)::bs):=by grind[qI,bs]
def qI.map(h:qI w rb ms bs){b}(hm:(b,L)∈ms):o5 w w.heap.size rb (Mv b) L:=⟨b,rfl,(h.1 _ hm).2.lt,(h.1 _ hm).1,(h.1 _ hm).2⟩
def qI.box(h:qI w rb ms bs){b}(hm:(b,C)∈bs):gW w w.heap.size rb b C:=⟨(h.2 _ hm).2.z,(h.2 _ hm).1,(h.2 _ hm).2⟩
end
def ajd s w e w':=
 Bq w w'/\(((aE s 0).kind≠6/\e=.returned (rp w.heap.size)/\∃N sb m,Bx w' w.heap.size (rdC s (aE s 0) 0 m sb)/\Env w' N w.heap.size sb m)\/((aE s 0).kind=6/\e=bU (d_<|aE s 0)))
def E_ rb:Cq 61 #[rp rb] w λe w'=>∃b,e=.returned (Mv b)/\w.heap.size<=b/\MS jv w' b (smL rb)/\Bq w w':=Cb _
def JB(h:Laid w)s(hs:s.size<=1000):Cq 41 #[.string s] w (ajd s w):=by
 have B:=ai<|Bx.new w (zRd s) 150;have HB:=(Below.refl w.heap.size w).alloc (br _)<|Cv (zRd s) 150;have HL:=ai h;have HH:qI (w.alloc<|Cv (zRd s) 150) w.heap.size [] []:=⟨λp q=>absurd q ag,λp q=>absurd q ag⟩;have⟨c,f,z⟩:=uh B;have E:∀W,Laid W->Cq 65 #[Sv s,Iv 0] W (eP (aE s 0) W):=λW hW=>Js hW s 0 (Nat.zero_le _) hs;have cV:∀W:World,Bq w W->Laid W:=λW h=>HL.af h;have hz:=HL.hz;unfold ajd;generalize aE s 0=T at E⊢;go_enter func41,ntmps41;go_wp2_with fail;have zb0:=B.z;refine(Zo w.heap.size).1.mono ?_;intro e w1 hp;obtain⟨b0,rfl,le0,hM,hb⟩:=hp;have HH:=(HH.ke<|Ke.of hb).m (Nat.lt_of_lt_of_le zb0 le0) hM;have HB:=HB.trans<|hb.mono HB.size;have B:=ai<|B.below hb;have⟨c,f,z⟩:=uh B;go_wp2_with fail;have B:=ai<|B.aR 6 (Mv b0) (#[Sv s,Iv 0,Iv 0,Sv ⟨#[]⟩,Sv ⟨#[]⟩,Iv 0,Mv b0,.map none,.map none,.map none,.map none,.map none,.map none,.map none]) rfl ag;have HB:=HB.setCell (p:=⟨w.heap.size,6,none⟩) (br _)<|Mv b0;have HH:=HH.ke<|Ke.Jr _ _ 6<|Mv b0;have zb1:=B.z;refine(Zo w.heap.size).2.mono ?_;intro e w1 hp;obtain⟨b1,rfl,le1,hM,hb⟩:=hp;have HH:=(HH.ke<|Ke.of hb).m (Nat.lt_of_lt_of_le zb1 le1) hM;have HB:=HB.trans<|hb.mono HB.size;have B:=ai<|B.below hb;have⟨c,f,z⟩:=uh B;go_wp2_with fail
 have B:=ai<|B.aR 7 (Mv b1) (#[Sv s,Iv 0,Iv 0,Sv ⟨#[]⟩,Sv ⟨#[]⟩,Iv 0,Mv b0,Mv b1,.map none,.map none,.map none,.map none,.map none,.map none]) rfl ag;have HB:=HB.setCell (p:=⟨w.heap.size,7,none⟩) (br _)<|Mv b1;have HH:=HH.ke<|j8 _ _ 7<|Mv b1;have zb2:=B.z;refine(Zp w.heap.size).1.mono ?_;intro e w1 hp;obtain⟨b2,x2,rfl,le2,lx2,hx,hM,hb⟩:=hp;have HH:=((HH.ke<|j9 hb).m (jm zb2 le2) hM).b (jm zb2 lx2) hx;have HB:=HB.trans<|hb.mono HB.size;have B:=ai<|B.below hb;have⟨c,f,z⟩:=uh B;go_wp2_with fail;have B:=ai<|B.aR 8 (Mv b2) (#[Sv s,Iv 0,Iv 0,Sv ⟨#[]⟩,Sv ⟨#[]⟩,Iv 0,Mv b0,Mv b1,Mv b2,.map none,.map none,.map none,.map none,.map none]) rfl ag;have HB:=HB.setCell (p:=⟨w.heap.size,8,none⟩) (br _)<|Mv b2;have HH:=HH.ke<|j8 _ _ 8<|Mv b2;have zb3:=B.z;refine(Zp w.heap.size).2.mono ?_;intro e w1 hp;obtain⟨b3,x3,rfl,le3,lx3,hx,hM,hb⟩:=hp;have HH:=((HH.ke<|j9 hb).m (jm zb3 le3) hM).b (jm zb3 lx3) hx;have HB:=HB.trans<|hb.mono HB.size;have B:=ai<|B.below hb;have⟨c,f,z⟩:=uh B;go_wp2_with fail;have B:=ai<|B.aR 9 (Mv b3) (#[Sv s,Iv 0,Iv 0,Sv ⟨#[]⟩,Sv ⟨#[]⟩,Iv 0,Mv b0,Mv b1,Mv b2,Mv b3,.map none,.map none,.map none,.map none]) rfl ag;have HB:=HB.setCell (p:=⟨w.heap.size,9,none⟩) (br _)<|Mv b3;have HH:=HH.ke<|j8 _ _ 9<|Mv b3;have zb4:=B.z
 refine(E_ w.heap.size).mono ?_;intro e w1 hp;obtain⟨b4,rfl,le4,hM,hb⟩:=hp;have HH:=(HH.ke<|j9 hb).m (jm zb4 le4) hM;have HB:=HB.trans<|hb.mono HB.size;have B:=ai<|B.below hb;have⟨c,f,z⟩:=uh B;go_wp2_with fail;have B:=ai<|B.aR 10 (Mv b4) (#[Sv s,Iv 0,Iv 0,Sv ⟨#[]⟩,Sv ⟨#[]⟩,Iv 0,Mv b0,Mv b1,Mv b2,Mv b3,Mv b4,.map none,.map none,.map none]) rfl ag;have HB:=HB.setCell (p:=⟨w.heap.size,10,none⟩) (br _)<|Mv b4;have HH:=HH.ke<|j8 _ _ 10<|Mv b4;have zb5:=B.z;refine(Zq w.heap.size).1.mono ?_;intro e w1 hp;obtain⟨b5,x5,y5,rfl,le5,hx,hy,lx,ly,hM,hb⟩:=hp;have HH:=(((HH.ke<|j9 hb).m (jm zb5 le5) hM).b (jm zb5 lx) hx).b (jm zb5 ly) hy;have HB:=HB.trans<|hb.mono HB.size;have B:=ai<|B.below hb;have⟨c,f,z⟩:=uh B;go_wp2_with fail;have B:=ai<|B.aR 11 (Mv b5) (#[Sv s,Iv 0,Iv 0,Sv ⟨#[]⟩,Sv ⟨#[]⟩,Iv 0,Mv b0,Mv b1,Mv b2,Mv b3,Mv b4,Mv b5,.map none,.map none]) rfl ag;have HB:=HB.setCell (p:=⟨w.heap.size,11,none⟩) (br _)<|Mv b5;have HH:=HH.ke<|j8 _ _ 11<|Mv b5;have zb6:=B.z;refine(Oe w.heap.size).mono ?_;intro e w1 hp;obtain⟨b6,x6,y6,u6,v6,rfl,le6,hx,hy,lx,ly,hu,hv,lu,lv,hM,hb⟩:=hp
 have HH:=(((((HH.ke<|j9 hb).m (jm zb6 le6) hM).b (jm zb6 lx) hx).b (jm zb6 ly) hy).b (jm zb6 lu) hu).b (jm zb6 lv) hv;have HB:=HB.trans<|hb.mono HB.size;have B:=ai<|B.below hb;have⟨c,f,z⟩:=uh B;go_wp2_with fail;have B:=ai<|B.aR 12 (Mv b6) (#[Sv s,Iv 0,Iv 0,Sv ⟨#[]⟩,Sv ⟨#[]⟩,Iv 0,Mv b0,Mv b1,Mv b2,Mv b3,Mv b4,Mv b5,Mv b6,.map none]) rfl ag;have HB:=HB.setCell (p:=⟨w.heap.size,12,none⟩) (br _)<|Mv b6;have HH:=HH.ke<|j8 _ _ 12<|Mv b6;have zb7:=B.z;refine(Zq w.heap.size).2.mono ?_;intro e w1 hp;obtain⟨b7,x7,y7,rfl,le7,hx,hy,lx,ly,hM,hb⟩:=hp;have HH:=(((HH.ke<|j9 hb).m (jm zb7 le7) hM).b (jm zb7 lx) hx).b (jm zb7 ly) hy;have HB:=HB.trans<|hb.mono HB.size;have B:=ai<|B.below hb;have⟨c,f,z⟩:=uh B;go_wp2_with fail;have B:=ai<|B.aR 13 (Mv b7) (#[Sv s,Iv 0,Iv 0,Sv ⟨#[]⟩,Sv ⟨#[]⟩,Iv 0,Mv b0,Mv b1,Mv b2,Mv b3,Mv b4,Mv b5,Mv b6,Mv b7]) rfl ag;have HB:=HB.setCell (p:=⟨w.heap.size,13,none⟩) (br _)<|Mv b7;have HH:=HH.ke<|j8 _ _ 13<|Mv b7;refine(E _<|cV _ HB).mono ?_;intro e w9 hp;by_cases hk:T.kind=6
 .obtain⟨rfl,hb⟩:=hp.bad hk;have HB:=HB.trans<|hb.mono HB.size;exact⟨rfl,HB,j6 ⟨hk,by rw[afc T hk];rfl⟩⟩
 .obtain⟨rfl,hb⟩:=hp.ok hk;have HB:=HB.trans<|hb.mono HB.size;have B:=ai<|B.below hb;have HH:=HH.ke<|j9 hb;have⟨c,f,z⟩:=uh B
  go_wp2
  go_ret;have eG:=(((HB.setCell (p:=⟨w.heap.size,1,none⟩) (br _)<|Nv T.al).setCell (p:=⟨w.heap.size,2,none⟩) (br _)<|Nv T.to).setCell (p:=⟨w.heap.size,3,none⟩) (br _)<|Sv<|aq T).setCell (p:=⟨w.heap.size,4,none⟩) (br _)<|Sv T.text;have BG:=((((HH.ke<|j8 _ _ 1<|Nv T.al).ke<|j8 _ _ 2<|Nv T.to).ke<|j8 _ _ 3<|Sv<|aq T).ke<|j8 _ _ 4<|Sv T.text);have B2:=B.Zb (Nv T.al) (Nv T.to) (Sv<|aq T)<|Sv T.text;generalize(((w9.setCell ⟨w.heap.size,1,none⟩<|Nv T.al).setCell ⟨w.heap.size,2,none⟩<|Nv T.to).setCell ⟨w.heap.size,3,none⟩<|Sv<|aq T).setCell ⟨w.heap.size,4,none⟩ (Sv T.text)=W at eG BG B2⊢;have sm4:=BG.map (b:=b4) (L:=smL w.heap.size)<|jk _<|jk _<|jk _<|jl _;obtain⟨_,q1,q2,q3,q4⟩:=sm4
  cases q1
  refine⟨eG,j5 ⟨hk,rfl,W.heap.size,b4,⟨Mv b0,Mv b1,Mv b2,Mv b3,Mv b5,Mv b6,Mv b7⟩,B2,q4,cV _ eG,hz,B2.z,q2,q3,br _,?_⟩⟩
  exact⟨BG.map<|jk _<|jk _<|jk _<|jk _<|jk _<|jk _<|jk _<|jl _,BG.map<|jk _<|jk _<|jk _<|jk _<|jk _<|jk _<|jl _,⟨x2,BG.box<|jk _<|jk _<|jk _<|jk _<|jk _<|jk _<|jk _<|jk _<|jk _<|jl _,BG.map<|jk _<|jk _<|jk _<|jk _<|jk _<|jl _⟩,⟨x3,BG.box<|jk _<|jk _<|jk _<|jk _<|jk _<|jk _<|jk _<|jk _<|jl _,BG.map<|jk _<|jk _<|jk _<|jk _<|jl _⟩,⟨x5,y5,BG.box<|jk _<|jk _<|jk _<|jk _<|jk _<|jk _<|jk _<|jl _,BG.box<|jk _<|jk _<|jk _<|jk _<|jk _<|jk _<|jl _,BG.map<|jk _<|jk _<|jl _⟩,⟨x6,y6,u6,v6,BG.box<|jk _<|jk _<|jk _<|jk _<|jk _<|jl _,BG.box<|jk _<|jk _<|jk _<|jk _<|jl _,BG.box<|jk _<|jk _<|jk _<|jl _,BG.box<|jk _<|jk _<|jl _,BG.map<|jk _<|jl _⟩,⟨x7,y7,BG.box<|jk _<|jl _,BG.box<|jl _,BG.map<|jl _⟩⟩
end
def JD w e s:Bq w (Lib.bytesWorld w e s):=by
 refine⟨?_,?_,?_,by rw[Lib.bytesWorld_size];omega,λb hb=>Lib.bytesWorld_at_old w e s b hb⟩;all_goals(simp[Lib.bytesWorld,World.freeze];try rfl)
def adb s(h:ada s):Cq 160 #[.string s] w λe w'=>e=.returned (.tuple #[Nv<|Ab s,.nilIface])/\Bq w w':=by
 obtain⟨h0,h9,hd⟩:=h;have hcv:=Lib.run_convert_string_bytes (P:=Tryz.prog) w 9 129 5 s Tryz.underlying9 Tryz.underlying129 Tryz.underlying5;have hb:=JD w 5 s;have bY:=λj hj=>Lib.bytesWorld_cell w 5 s j hj;have l0:(0:Int)<(s.size:Int):=ae;have l1:(s.size:Int)<19:=ae;have a0:=hd 0 h0;rw[Pu.mF h0]at a0;simp only[Pu.dB,Bool.and_eq_true,Nat.ble_eq]at a0;have e1:((s[0].toNat:Int)==45)=false:=bF;have e2:((s[0].toNat:Int)==43)=false:=bF;generalize Lib.bytesWorld w 5 s=W at hcv hb bY;generalize grownCap w s.size 0 5=C at hcv;go_enter func160,ntmps160
 go_wp2
 go_loop[6,49] (λn i=>∃k:Nat,k<=s.size/\i=Nv k/\n=Nv (xK s k)) (λ_ i=>s.size-(intOf i).toNat)
 case atStart=>exact⟨0,ae,rfl,rfl⟩
 case round=>
  obtain⟨k,h1,rfl,rfl⟩:=hrel;have hn:=ade s k ae;by_cases ha:k<s.size
  .have hc:=bY k ha;have dk:=hd k ha;have ek:s.data.toList.getD k 0=s[k]:=by
    rw[List.getD_eq_getElem?_getD,List.getElem?_eq_getElem<|by simpa using ha];rfl
   rw[ek]at hc;rw[jh ha]at dk;simp only[jf,qe,Nat.ble_eq]at dk;have bA:(k:Int)<(s.size:Int):=ae;clear bY
   go_wp2
   refine⟨⟨k+1,ae,jP,congrArg (Value.int .i64) ?_⟩,by simp[intOf];omega⟩;simp only[xK,jh ha];omega
  .have bA:decide ((k:Int)<(s.size:Int))=false:=bF;clear bY
   go_wp2
   go_ret2;have ek:k=s.size:=ae;refine⟨?_,hb⟩;show Rv (.tuple #[Nv<|xK s k,Zv])=_;rw[Ab];rw[show min s.size 9=k by omega]
def agL w:(binOp .neq 243 .nilIface .nilIface).run jy w=.ok (.bool false) w:=qkr
def agM s(h:ada s):Cq 138 #[.string s] w λe w'=>e=.returned (.tuple #[Nv<|Ab s,.nilIface])/\Bq w w':=by
 have HC:=adb (w:=w) s h;have hn:=agL;go_enter func138,ntmps138;go_wp2_with fail;refine HC.mono ?_;rintro e w1⟨rfl,hb⟩
 go_wp2
 go_ret2;exact⟨rfl,hb⟩
section
open Go.ChangeMaps
section
variable {m:MV}
def SX.set(h:SX w N rb sb m s k){b:Nat}(hb:N<=b)j v:SX (w.setCell ⟨b,j,none⟩ v) N rb sb m s k:=
 h.move Dd λc hc=>qh _ _ _ _ (by show c≠b;omega)
def SX.UN(h:SX w N rb sb m s k){b:Nat}(hb:N<=b)v0 v1 v2:SX (((w.setCell ⟨b,0,none⟩ v0).setCell ⟨b,1,none⟩ v1).setCell ⟨b,2,none⟩ v2) N rb sb m s k:=((h.set hb 0 v0).set hb 1 v1).set hb 2 v2
def Zs(h:SX w N rb sb m s k)(hs:s.size<=1000)(h7:(tk (ja s 0) k).kind≠7):Cq 67 #[rp rb] w (ap (Is<|tkA<|tk (ja s 0) k) N rb sb m s (.ok ((),k+1)) w):=
 (zY h.rd hs<|tn s k h.lt).mono λe w' hp=>by
  have l8:cx rb sb m s (tk (ja s 0) k) (dC<|tk (ja s 0) k) w e w':=hp;exact l8.x (R:=Is<|tkA<|tk (ja s 0) k) h h7 rfl
def UQ(h:SX w N rb sb m s k)(hs:s.size<=1000)(h4:(tk (ja s 0) k).kind=4):Cq 42 #[rp rb,.string Oc] w (ap (Is<|tkA<|tk (ja s 0) k) N rb sb m s (.ok ((),k+1)) w):=by
 have hk:=Zl (eX s k h.lt) h.ok;rw[h4]at hk;refine(kJ h.rd hs (tn s k h.lt) Oc<|by simpa using hk).mono λe w' hp=>?_;have l8:cx rb sb m s (tk (ja s 0) k) (dC<|tk (ja s 0) k) w e w':=hp;exact l8.x (R:=Is<|tkA<|tk (ja s 0) k) h ae rfl
def tA{k}(h:(tk T k).kind=n):cY T n k=.ok (tk T k,k+1):=by grind[tk,cY]
def tB{k}c(h:bI (tk T k)=c):b_ (tk T k)=.mk c (tk T k).text (eO<|tk T k) [] (tk T k).al (tk T k).to (tk T k).al:=by rw[b_];rw[h]
def UR(h:SX w N rb sb m s k)(hs:s.size<=1000):Cq 84 #[rp rb] w (ap Od N rb sb m s (cY (ja s 0) 1 k) w):=by
 have hz:=h.z;have hN:=h.ev.hN;have⟨b0,B0⟩:=rq w zNm 198;have HC:=uM (h.af b0) hs 1 E9<|Or.inl ⟨rfl,rfl⟩;go_enter func84,ntmps84;go_wp2_with fail;refine HC.mono ?_;intro e w1 hp
 cases hA:fin (ja s 0) (cY (ja s 0) 1 k)with
 |error f=>
  obtain⟨rfl,hb⟩:=hp.bad hA;exact⟨rfl,ap.fail ((j9 b0).trans hb) hA⟩
 |ok r=>
 obtain⟨t,k1⟩:=r;obtain⟨v,rfl,hb,hS,hR⟩:=hp.ok hA
 cases hR
 have B1:=ai<|(B0.xI hb ae).alloc<|Cv #[Nv t.al,Nv t.to,Sv t.text] 74;have K1:=((j9 b0).trans hb).fK<|bw<|Cv #[Nv t.al,Nv t.to,Sv t.text] 74;have S1:=hS.af<|bw<|Cv #[Nv t.al,Nv t.to,Sv t.text] 74;have bA:=hb.size;simp at bA;have⟨c,f,z⟩:=uh B1;go_wp2_with fail;have⟨cF,fF,zF⟩:=B1.oQ rfl (Nv t.al) (Nv t.to) (Sv t.text);exact bodyPost_ret (v:=nmA t) (by simp[results,Tryz.results84,go_sem,cF]) rfl (ap.done (uL hA).1 (K1.tj (br _) _ _ _) (S1.UN hN _ _ _) rfl)
def tC{p:Prop}(h:p:=by
 obtain⟨rfl,hb⟩:=hp.bad<|c_ _ h6
 exact⟨rfl,ap.fail hb<|c_ _ h6⟩):p:=h
def aff(h:SX w N rb sb m s k)(hs:s.size<=1000)(hk:(tk (ja s 0) k).kind=2):(Cq 85 #[rp rb] w<|ap PE N rb sb m s (.ok (b_<|tk (ja s 0) k,k+1)) w)/\
 Cq 94 #[rp rb] w (ap PP N rb sb m s (.ok (b_<|tk (ja s 0) k,k+1)) w):=by
 have hi:=o7 s k h.lt;have ho:=eX s k h.lt;have HC:=uM h hs 2 Jq<|j6 ⟨rfl,rfl⟩;have W5:=h_;refine⟨?_,?_⟩;all_goals
  first|go_enter func85,ntmps85|go_enter func94,ntmps94
  go_wp2_with fail;refine HC.mono ?_;intro e w1 hp;have hm:=tA hk;rw[hm]at hp;by_cases h6:(tk (ja s 0)<|k+1).kind=6
  .exact tC
  obtain⟨v,rfl,hb,hS,hR⟩:=hp.ok<|lD _ h6
  cases hR
  have K1:=hb.fK<|bw<|Cv #[Nv (tk (ja s 0) k).al,Nv (tk (ja s 0) k).to,Sv (tk (ja s 0) k).text] 74;have S1:=hS.af<|bw<|Cv #[Nv (tk (ja s 0) k).al,Nv (tk (ja s 0) k).to,Sv (tk (ja s 0) k).text] 74
  go_wp2
  go_ret;refine ap.done rfl K1 S1 ?_;rw[tB 2 (by rw[bI];simp[hk])];first|exact .up _ _ _ _ _ (ho.v2 hk)|exact .up _ _ [] _ _ _ _ none 0 (λ_=>Zv) (ho.v2 hk) hi.sp (j5 rfl) (λi hi=>by simp at hi)
def Og(h:SX w N rb sb m s k)(hs:s.size<=1000)(hk:aU (tk (ja s 0) k) Aa=true):Cq 92 #[rp rb] w (ap PP N rb sb m s (.ok (b_<|tk (ja s 0) k,k+1)) w):=by
 have hi:=o7 s k h.lt;have ho:=eX s k h.lt;have HC:=Zm h hs Aa aB;have W5:=h_;go_enter func92,ntmps92;go_wp2_with fail;refine HC.mono ?_;intro e w1 hp;have hm:bz (Pu.bH s 0) Aa k=.ok ((),k+1):=by rw[bz];rw[if_pos hk]
 rw[hm]at hp;by_cases h6:(tk (ja s 0)<|k+1).kind=6
 .exact tC
 obtain⟨v,rfl,K1,S1,hR⟩:=hp.ok<|lD _ h6
 cases hR
 go_wp2
 go_ret;refine ap.done rfl K1 S1 ?_;have h5:=o8 hk;rw[tB 15 (by rw[bI];rw[if_neg ae,if_neg ae,if_neg ae,if_neg ae,if_neg (by rw[JF,Dh];rw[QW]at hk;simp at hk;simp[hk.2]),if_pos hk])];exact .any _ _ _ _ _
def TX{p:Prop}(h:p:=by
 obtain⟨rfl,hb⟩:=hp.bad<|c_ _ h6
 exact⟨rfl,ap.fail ((j9 b0).trans hb)<|c_ _ h6⟩):p:=h
def adf(h:SX w N rb sb m s k)(hs:s.size<=1000)(hk:aU (tk (ja s 0) k) gB=true\/aU (tk (ja s 0) k) dJ=true):Cq 89 #[rp rb] w (ap (Is<|.agg #[Nv (tk (ja s 0) k).al,Nv (tk (ja s 0) k).to,.bool<|(aq<|tk (ja s 0) k).toList==[116,114,117,101]]) N rb sb m s (.ok ((),k+1)) w):=by
 have hz:=h.z;have hN:=h.ev.hN;have hi:=o7 s k h.lt;have⟨b0,B0⟩:=rq w #[Iv 0,Iv 0,.bool false] 204;have HC:=Zs (h.af b0) hs (by obtain hk|hk:=hk<;>exact Jy hk);go_enter func89,ntmps89;go_wp2_with fail;refine HC.mono ?_;intro e w1 hp;by_cases h6:(tk (Pu.bH s 0)<|k+1).kind=6
 .exact TX
 obtain⟨v,rfl,hb,hS,hR⟩:=hp.ok<|lD _ h6
 cases hR
 have B1:=ai<|(B0.xI hb ae).alloc<|Cv #[Nv (tk (ja s 0) k).al,Nv (tk (ja s 0) k).to,Sv<|aq<|tk (ja s 0) k,Sv (tk (ja s 0) k).text] 141;have K1:=((j9 b0).trans hb).fK<|bw<|Cv #[Nv (tk (ja s 0) k).al,Nv (tk (ja s 0) k).to,Sv<|aq<|tk (ja s 0) k,Sv (tk (ja s 0) k).text] 141;have S1:=hS.af<|bw<|Cv #[Nv (tk (ja s 0) k).al,Nv (tk (ja s 0) k).to,Sv<|aq<|tk (ja s 0) k,Sv (tk (ja s 0) k).text] 141;have bA:=hb.size;simp at bA;have⟨c,f,z⟩:=uh B1;go_wp2_with fail;have⟨cF,fF,zF⟩:=B1.oQ rfl (Nv (tk (ja s 0) k).al) (Nv (tk (ja s 0) k).to) (.bool<|(aq<|tk (ja s 0) k).toList==[116,114,117,101]);exact bodyPost_ret (v:=Av #[Nv (tk (ja s 0) k).al,Nv (tk (ja s 0) k).to,.bool<|(aq<|tk (ja s 0) k).toList==[116,114,117,101]]) (by simp[results,Tryz.results89,go_sem,cF]) rfl (ap.done rfl (K1.tj (br _) _ _ _) (S1.UN hN _ _ _) rfl)
def Zt(h:SX w N rb sb m s k)(hs:s.size<=1000)(hk:(tk (ja s 0) k).kind=4):Cq 87 #[rp rb] w (ap (Is<|.agg #[Nv (tk (ja s 0) k).al,Nv (tk (ja s 0) k).to,Nv<|Ab (tk (ja s 0) k).text]) N rb sb m s (.ok ((),k+1)) w):=by
 have hz:=h.z;have hN:=h.ev.hN;have hi:=o7 s k h.lt;have⟨b0,B0⟩:=rq w #[Iv 0,Iv 0,Iv 0] 201;have HC:=UQ (h.af b0) hs hk;go_enter func87,ntmps87;go_wp2_with fail;refine HC.mono ?_;intro e w1 hp;by_cases h6:(tk (Pu.bH s 0)<|k+1).kind=6
 .exact TX
 obtain⟨v,rfl,hb,hS,hR⟩:=hp.ok<|lD _ h6
 cases hR
 have B1:=ai<|(B0.xI hb ae).alloc<|Cv #[Nv (tk (ja s 0) k).al,Nv (tk (ja s 0) k).to,Sv<|aq<|tk (ja s 0) k,Sv (tk (ja s 0) k).text] 141;have B2:=ai<|Bx.new w1 #[Nv (tk (ja s 0) k).al,Nv (tk (ja s 0) k).to,Sv<|aq<|tk (ja s 0) k,Sv (tk (ja s 0) k).text] 141;have K1:=((j9 b0).trans hb).fK<|bw<|Cv #[Nv (tk (ja s 0) k).al,Nv (tk (ja s 0) k).to,Sv<|aq<|tk (ja s 0) k,Sv (tk (ja s 0) k).text] 141;have S1:=hS.af<|bw<|Cv #[Nv (tk (ja s 0) k).al,Nv (tk (ja s 0) k).to,Sv<|aq<|tk (ja s 0) k,Sv (tk (ja s 0) k).text] 141;have bA:=hb.size;simp at bA;have⟨c,f,z⟩:=uh B1;have⟨c2,f2,z2⟩:=uh B2;go_wp2_with fail;refine(agM _<|hi.v4 hk).mono ?_;rintro e w2⟨rfl,hb⟩;have B1:=ai<|B1.below hb;have B2:=ai<|B2.below hb;have K1:=K1.fK hb;have S1:=S1.af hb;have⟨c,f,z⟩:=uh B1;have⟨c2,f2,z2⟩:=uh B2;go_wp2_with fail;have⟨cF,fF,zF⟩:=B1.oQ rfl (Nv (tk (ja s 0) k).al) (Nv (tk (ja s 0) k).to) (Nv<|Ab (tk (ja s 0) k).text);exact bodyPost_ret (v:=Av #[Nv (tk (ja s 0) k).al,Nv (tk (ja s 0) k).to,Nv<|Ab (tk (ja s 0) k).text]) (by simp[results,Tryz.results87,go_sem,cF]) rfl (ap.done rfl (K1.tj (br _) _ _ _) (S1.UN hN _ _ _) rfl)
end
section
variable {m:MV}
def Fb(h:aU t gB=true\/aU t dJ=true):bI t=4:=by
 have h5:t.kind=5:=by obtain h|h:=h<;>exact o8 h
 rw[bI];rw[if_neg ae,if_neg ae,if_neg ae,if_neg ae,if_pos h]
def adg(h:aU t gB=true\/aU t dJ=true):t.text.toList=gB.toList\/t.text.toList=dJ.toList:=by
 obtain h|h:=h
 .left;rw[aU]at h;simp only[qe,beq_iff_eq]at h;exact h.2
 .right;rw[aU]at h;simp only[qe,beq_iff_eq]at h;exact h.2
def Zu(h:SX w N rb sb m s k)(hs:s.size<=1000)(hk:(tk (ja s 0) k).kind=1)x(hx:Bx w x #[rp rb]):
 Cq 83 #[Pv x] w (ap PE N rb sb m s (.ok (b_<|tk (ja s 0) k,k+1)) w)/\
 Cq 93 #[Pv x] w (ap PP N rb sb m s (.ok (b_<|tk (ja s 0) k,k+1)) w):=by
 have hi:=o7 s k h.lt;have HC:=UR h hs;obtain⟨c0,f0,z0⟩:=hx;refine⟨?_,?_⟩;all_goals
  first|go_enter func83,ntmps83|go_enter func93,ntmps93
  go_wp2_with fail;refine HC.mono ?_;intro e w1 hp;rw[tA hk]at hp;by_cases h6:(tk (ja s 0)<|k+1).kind=6
  .exact tC
  obtain⟨v,rfl,K1,S1,hR⟩:=hp.ok<|lD _ h6
  cases hR
  go_wp2
  go_ret;refine ap.done rfl K1 S1 ?_;rw[tB 1 (by rw[bI];simp[hk])];exact .low _ _ _ _ _<|hi.v1 hk
def Zw(h:SX w N rb sb m s k)(hs:s.size<=1000)(hk:(tk (ja s 0) k).kind=4)x(hx:Bx w x #[rp rb]):
 Cq 86 #[Pv x] w (ap PE N rb sb m s (.ok (b_<|tk (ja s 0) k,k+1)) w)/\
 Cq 95 #[Pv x] w (ap PP N rb sb m s (.ok (b_<|tk (ja s 0) k,k+1)) w):=by
 have hi:=o7 s k h.lt;have HC:=Zt h hs hk;obtain⟨c0,f0,z0⟩:=hx;refine⟨?_,?_⟩;all_goals
  first|go_enter func86,ntmps86|go_enter func95,ntmps95
  go_wp2_with fail;refine HC.mono ?_;intro e w1 hp;by_cases h6:(tk (ja s 0)<|k+1).kind=6
  .exact tC
  obtain⟨v,rfl,K1,S1,hR⟩:=hp.ok<|lD _ h6
  cases hR
  go_wp2
  go_ret;refine ap.done rfl K1 S1 ?_;rw[tB 3 (by rw[bI];simp[hk]),show eO (tk (ja s 0) k)=Ab (tk (ja s 0) k).text by rw[eO];simp[hk]];exact .num _ _ _ _ _
def yp(h:SX w N rb sb m s k)(hs:s.size<=1000)(hk:aU (tk (ja s 0) k) gB=true\/aU (tk (ja s 0) k) dJ=true)x(hx:Bx w x #[rp rb]):
 Cq 88 #[Pv x] w (ap PE N rb sb m s (.ok (b_<|tk (ja s 0) k,k+1)) w)/\
 Cq 90 #[Pv x] w (ap PE N rb sb m s (.ok (b_<|tk (ja s 0) k,k+1)) w)/\
 Cq 96 #[Pv x] w (ap PP N rb sb m s (.ok (b_<|tk (ja s 0) k,k+1)) w)/\
 Cq 97 #[Pv x] w (ap PP N rb sb m s (.ok (b_<|tk (ja s 0) k,k+1)) w):=by
 have hi:=o7 s k h.lt;have HC:=adf h hs hk;obtain⟨c0,f0,z0⟩:=hx;refine⟨?_,?_,?_,?_⟩;all_goals
  first|go_enter func88,ntmps88|go_enter func90,ntmps90|go_enter func96,ntmps96|go_enter func97,ntmps97
  go_wp2_with fail;refine HC.mono ?_;intro e w1 hp;by_cases h6:(tk (ja s 0)<|k+1).kind=6
  .exact tC
  obtain⟨v,rfl,K1,S1,hR⟩:=hp.ok<|lD _ h6
  cases hR
  go_wp2
  go_ret;refine ap.done rfl K1 S1 ?_;rw[tB 4<|Fb hk,pU (by obtain hk|hk:=hk<;>exact o8 hk)];exact .word _ _ _ _ _<|adg hk
end
def uN(h:t.kind=6)sort:aF t sort=false:=by
 have h0:bI t=0:=by rw[bI];simp[h,eI h]
 rw[aF];rw[eI h,h0];repeat' split
 all_goals rfl
def nI p q sort:aS T (aH T p q sort):=λk h=>by rw[aH];rw[uN h];rfl
def wu p q sort f a:aS T (kx T p q sort f a):=λk h=>by
 rw[kx];rw[eI h,eI h];rw[if_neg ag,if_neg ag];exact Jv T _ k h
theorem jK(sm:M Nd)(sort:Nat):∀f x,aS T<|dM T sm sort f x
 |0,x=>λk h=>c_ _ h|f+1,x=>λk h=>by unfold dM;rw[uN h];exact c_ _ h
def JH(hs:aS T sm):aS T (iY T sm sort):=λk h=>by
 rw[iY];rw[if_neg<|by simp[h]];exact hs k h
def pW:∀n,aS T<|dv T n
 |0=>λk h=>rfl|n+1=>JH<|nI _ _ _
def o9{p:M Nd}(hp:aS T p)sort f:aS T (gq T p q sort f):=λk h=>by
 rw[gq];rw[eI h,if_neg ag];exact b8 (hp k h) λa=>wu _ _ _ _ a
def wv(sm:M Nd)(fr:Nat):∀f x,aS T<|gp T sm fr f x
 |0,x=>λk h=>c_ _ h|f+1,x=>λk h=>by unfold gp;rw[uN h];exact c_ _ h
def o_(sm:M Nd)(fr:Nat):∀f x,aS T<|iX T sm fr f x
 |0,x=>λk h=>c_ _ h|f+1,x=>λk h=>by unfold iX;rw[eI h];exact c_ _ h
def rP(sm:M Nd)(fr:Nat):∀f x,aS T<|qD T sm fr f x
 |0,x=>λk h=>c_ _ h|f+1,x=>λk h=>by unfold qD;rw[eI h,eI h,if_neg ag];exact c_ _ h
def nJ(hs:aS T sm):aS T (cO T sm):=λk h=>b8 (hs k h) λa=>wv _ _ _ a
def rQ(hs:aS T sm):aS T (eE T sm):=λk h=>b8 (hs k h) λa=>o_ _ _ _ a
def Di(hs:aS T sm):aS T (rE T sm):=λk h=>b8 (hs k h) λa=>rP _ _ _ a
def JI sum fr(x:Nd):=λk1=>if aU (tk T k1) dL=true then aK sum (λy k'=>.ok (.mk 7 dL 0 [x,y] fr (aG T k') fr,k')) (k1+1)else .ok (x,k1)
def wC sum fr x:aS T (JI (T:=T) sum fr x):=λk h=>by rw[JI];rw[eI h];exact c_ _ h
def adh sum k:oH T sum k=aK sum (JI (T:=T) sum (tk T k).al) k:=rfl
def Oh{sum}(hs:aS T sum):aS T (oH T sum):=λk h=>b8 (hs k h) λa=>wC _ _ a
def nK:∀n,aS T<|bq T n
 |0=>λk h=>rfl|n+1=>λk h=>by
  unfold bq;rw[eI h,eI h,eI h,eI h];exact Oh (Di<|rQ<|nJ<|nI _ _ _) k h
def US e:aS T (rF T e):=λk h=>by
 rw[rF,aK];rw[show bz T IQ k=.error (d_<|tk T k) by rw[bz];rw[eI h];rfl];rfl
def qT:M Unit:=λk=>.ok ((),k+1)
def uO{p:M Nd}(h:aU (tk T k) nC=true):aH T p q sort k=aK (bz T nC) (λ_=>gq T p q sort (tk T k).al) k:=by
 have h':=h;rw[aH,aK,bz];rw[if_pos (by rw[aF];simp[h']),if_pos h',if_pos h]
def Ac{p:M Nd}(h1:sort≠1)(h:aU (tk T k) lS=true):gq T p q sort f k=aK qT (λ_ j=>.ok (.mk 5 eW 0 [] f (aG T j) f,j)) k:=by
 rw[gq];rw[if_pos ⟨h1,h⟩];rfl
def Ad{p:M Nd}(h:aU (tk T k) lS=false):gq T p q sort f k=aK p (kx T p q sort f) k:=by
 rw[gq];rw[if_neg<|by simp[h]]
def pd{p:M Nd}(h:aU (tk T k) rS=true):kx T p q sort f a k=aK qT (λ_=>aK p λb=>aK (bz T lS) λ_ j=>.ok (.mk 6 eW 0 [a,b] f (aG T j) f,j)) k:=by rw[kx];rw[if_pos h];rfl
def JK{p:M Nd}(h0:aU (tk T k) rS=false)(h:aU (tk T k) Fc=true):kx T p q 3 f a k=aK qT (λ_=>aK q λb=>aK (bz T lS) λ_ j=>.ok (.mk 14 eW 0 [a,b] f (aG T j) f,j)) k:=by rw[kx];rw[if_neg<|by simp[h0],if_pos ⟨rfl,h⟩];rfl
def wE{p:M Nd}(h0:aU (tk T k) rS=false)(h:sort=3->aU (tk T k) Fc=false):kx T p q sort f a k=aK (bz T lS) (λ_ j=>.ok (a,j)) k:=by
 rw[kx];rw[if_neg<|by simp[h0],if_neg (by rintro⟨h1,h2⟩;rw[h h1]at h2;cases h2)];rfl
def adi(h:cY (ja s 0) 1 k=.ok (t,k'))(hk:k<(ja s 0).length):Cc t.text/\t.to=t.al+t.text.size:=by
 rw[cY]at h;split at h
 .rename_i hq
  cases h
  have:=o7 s k hk;exact⟨this.v1<|by simpa using hq,this.sp⟩
 .cases h
def Zx{p:Prop}(h:p:=by intros;repeat' (first|exact Jz _|exact rM _ _|exact nK _|exact pW _|exact rO _ _ (by decide)|exact US _|exact Oi _|exact Dg _ _|exact Oj hT0 _|exact Fe hT0|exact Ol _ _ _|exact jQ|exact λq h=>wv _ _ _ _ q h|exact λq h=>o_ _ _ _ _ q h|exact λq h=>rP _ _ _ _ q h|exact wu _ _ _ _ _|exact o9 (pW _) _ _|exact o9 (Dg _ _) _ _|exact o9 (nK _) _ _|refine fU ?_ λ_=>?_)):p:=h
def Mov{α:Type}(R:World->(Nat->Prop)->α->Value->Prop):=∀w w' P Q a v,R w P a v->w.heap.size<=w'.heap.size->(∀b,P b->b<w.heap.size->w'.heap[b]? =w.heap[b]?)->(∀b,P b->b<w.heap.size->Q b)->R w' Q a v
structure cI{γ:Type}N rb sb m s r w0 xb C(g:M γ)(P:World->Prop)k w:Prop where
 sx:SX w N rb sb m s k
 ke:Ke rb w0 w
 eq:r=g k
 lv:∀w',w.heap.size<=w'.heap.size->(∀b,b<w.heap.size->b≠rb->b≠xb->w'.heap[b]? =w.heap[b]?)->P w'
 rz:rb<w0.heap.size/\N<=w0.heap.size
 xz:xb<w.heap.size
 bx:xb=rb\/N<=xb/\w0.heap.size<=xb/\Bx w xb C
section
variable {m:MV} {r:Except Fl (γ×Nat)} {P Q:World->Prop} {g g':M γ} {f:FuncId}
def cI.p(H:cI N rb sb m s r w0 xb C g P k w):P w:=H.lv w (br _) λ_ _ _ _=>rfl
def cI.mv(H:cI N rb sb m s r w0 xb C g P k w)(q:Ke rb w w')(S:SX w' N rb sb m s k')(e:r=g' k'):cI N rb sb m s r w0 xb C g' P k' w':=
 ⟨S,H.ke.trans q,e,λw2 a b=>H.lv w2 (jo q.size a) λc c1 c2 c3=>(b c (jm c1 q.size) c2 c3).trans<|q.block c c1 c2,H.rz,jm H.xz q.size,H.bx.imp id λ⟨a,b,c⟩=>⟨a,b,c.xI q (by have:=H.rz.1;omega)⟩⟩
def cI.af(H:cI N rb sb m s r w0 xb C g P k w)(hb:Bq w w'):cI N rb sb m s r w0 xb C g P k w':=H.mv (j9 hb) (H.sx.af hb) H.eq
def cI.drew(H:cI N rb sb m s r w0 xb C g P k w):cI N rb sb m s r w0 xb C g P k w.drew:=H.af (qg _ _).drew
def cI.re(H:cI N rb sb m s r w0 xb C g P k w)(h:g k=g' k):cI N rb sb m s r w0 xb C g' P k w:=H.mv (Ke.refl _ _) H.sx<|H.eq.trans h
def cI.add(H:cI N rb sb m s r w0 xb C g P k w)(h:∀w',w.heap.size<=w'.heap.size->(∀b,b<w.heap.size->b≠rb->b≠xb->w'.heap[b]? =w.heap[b]?)->Q w'):cI N rb sb m s r w0 xb C g (λw=>P w/\Q w) k w:=⟨H.sx,H.ke,H.eq,λw' a b=>⟨H.lv w' a b,h w' a b⟩,H.rz,H.xz,H.bx⟩
def cI.box{t:TypeId}(H:cI N rb sb m s r w0 xb C g P k w):cI N rb sb m s r w0 xb C g (λv=>P v/\Bx v w.heap.size D) k (w.alloc<|.cells D t):=
 (H.af<|bw _).add λw' a b=>(Bx.new w D t).same a (b _ ag (by have:=H.rz.1;have:=H.ke.size;omega) (by have:=H.xz;omega))
def cI.own{t:TypeId}(H:cI N rb sb m s r w0 rb C g P k w):cI N rb sb m s r w0 w.heap.size D g P k (w.alloc<|.cells D t):=
 have K:=H.af<|bw<|Cv D t
 ⟨K.sx,K.ke,K.eq,λw' a b=>H.lv w' (jo ag a) λc c1 c2 _=>(b c bF c2 ae).trans<|(bw _).block c c1,H.rz,ag,.inr ⟨H.sx.ev.hN,H.ke.size,Bx.new w D t⟩⟩
def cI.put(H:cI N rb sb m s r w0 xb C g P k w)(o:xb≠rb)(B:Bx w' xb D)(q:One xb w w'):cI N rb sb m s r w0 xb D g P k w':=by
 obtain h|⟨b1,b2,b3⟩:=H.bx
 .exact absurd h o
 have K:=H.ke;have z:=q.size;exact⟨H.sx.move ae λb p=>q.block b ae,⟨q.os.trans K.os,q.tape.trans K.tape,q.output.trans K.output,by rw[z];exact K.size,λb z n=>(q.block b ae).trans<|K.block b z n⟩,H.eq,λw2 a b=>H.lv w2 ae λc c1 c2 c3=>(b c ae c2 c3).trans<|q.block c c3,H.rz,B.z,.inr ⟨b1,b2,B⟩⟩
def cR{w0 w}{b}{v}(h:One b w0 w):One b w0 (w.setCell ⟨b,j,none⟩ v):=⟨h.os,h.tape,h.output,by simpa[World.setCell]using h.size,λi hi=>(qh _ _ _ _ hi).trans<|h.block i hi⟩
def cI.bo(H:cI N rb sb m s r w0 xb C g P k w)(o:xb≠rb):Bx w xb C:=(H.bx.resolve_left o).2.2
def cI.at(h:SX w N rb sb m s k)(e:r=g k):cI N rb sb m s r w rb #[] g (λ_=>True) k w:=⟨h,Ke.refl _ _,e,λ_ _ _=>trivial,⟨h.z,h.ev.hN⟩,h.z,.inl rfl⟩
def cI.Ae{R}{mm}{g:α->M γ}(h:SX w N rb sb m s k)(e:r=aK mm g k)(c:cI N rb sb m s r w rb #[] (aK mm g) (λ_=>True) k w->Cq f args w (ap R N rb sb m s r w)):Cq f args w (ap R N rb sb m s r w):=
 c (.at h e)
def cI.imp(H:cI N rb sb m s r w0 xb C g P k w)(h:∀w,P w->Q w):cI N rb sb m s r w0 xb C g Q k w:=⟨H.sx,H.ke,H.eq,λw' a b=>h _<|H.lv w' a b,H.rz,H.xz,H.bx⟩
theorem cI.a_{R}{mm}{g}{a:α}(H:cI N rb sb m s r w0 xb C (aK mm g) P k w)(h:ap R N rb sb m s (mm k) w e w')(hA:fin (ja s 0) (mm k)=.ok (a,k'))(mv:Mov R:=by first|exact λ_ _ _ _ _ _ h _ _ _=>h|exact λ_ _ _ _ _ _ h a b c=>h.move a b c):∃v,e=.returned v/\cI N rb sb m s r w0 xb C (g a) (λw'=>P w'/\R w' (λb=>w0.heap.size<=b) a v) k' w'/\R w' (λb=>w.heap.size<=b) a v:=by
 have⟨v,e1,hb,S,V⟩:=h.ok hA;exact⟨v,e1,(H.mv hb S<|H.eq.trans<|nE hA).add λw2 a1 b1=>mv _ _ _ _ _ _ V a1 (λb p z=>b1 b z (by have:=H.rz.1;have:=H.ke.size;have p':w.heap.size<=b:=p;omega) (by have:=H.xz;have p':w.heap.size<=b:=p;omega)) λb p _=>jo H.ke.size p,V⟩
def cI.lost{R}{R'}{mm}{g:α->M γ}{f:Fl}(H:cI N rb sb m s r w0 xb C (aK mm g) P k w)(h:ap R N rb sb m s (mm k) w e w')(hA:fin (ja s 0) (mm k)=.error f)(st:∀a,aS (ja s 0)<|g a:=by exact Zx):e=bU f/\ap R' N rb sb m s r w0 (bU f) w':=⟨(h.bad hA).1,ap.stop H.eq hA st<|H.ke.trans (h.bad hA).2⟩
def cI.call{R}{R'}{mm}{g:α->M γ}(H:cI N rb sb m s r w0 xb C (aK mm g) P k w)(hC:Cq f args w (ap R N rb sb m s (mm k) w))(ok:∀a k' v w',cI N rb sb m s r w0 xb C (g a) (λw'=>P w'/\R w' (λb=>w0.heap.size<=b) a v) k' w'->mm k=.ok (a,k')->R w' (λb=>w.heap.size<=b) a v->post (.returned v) w')(st:∀a,aS (ja s 0)<|g a:=by exact Zx)(bad:∀f' w',ap R' N rb sb m s r w0 (bU f') w'->post (bU f') w':=by exact λ_ _ h=>⟨rfl,h⟩)(mv:Mov R:=by first|exact λ_ _ _ _ _ _ h _ _ _=>h|exact λ_ _ _ _ _ _ h a b c=>h.move a b c):Cq f args w post:=
 hC.mono λe w' hp=>by
  cases hA:fin (ja s 0) (mm k)with
  |error f=>obtain⟨rfl,h⟩:=H.lost hp hA st;exact bad _ _ h
  |ok p=>obtain⟨v,rfl,H,V⟩:=H.a_ (a:=p.1) hp hA mv;exact ok _ _ v w' H (uL hA).1 V
def cI.take{R'}{g}(H:cI N rb sb m s r w0 xb C (aK (bz (ja s 0) c) g) P k w)(ok:∀w',cI N rb sb m s r w0 xb C (g ()) P (k+1) w'->post (.returned<|tkA<|tk (ja s 0) k) w')(hs:s.size<=1000:=by assumption)(hc:c.size<=5:=by decide)(st:∀a,aS (ja s 0)<|g a:=by exact Zx)(bad:∀f' w',ap R' N rb sb m s r w0 (bU f') w'->post (bU f') w':=by exact λ_ _ h=>⟨rfl,h⟩):Cq 42 #[rp rb,.string c] w post:=
 ap.go H.ke H.eq (Zm H.sx hs c hc) st bad λa k' v w' S K E q _ hb hR=>by
  cases hR
  cases bB _ _ _ _ q
  exact ok w'<|H.mv hb S E
def cI.Ce{R'}{g}(H:cI N rb sb m s r w0 xb C (aK qT g) P k w)(hi:aU (tk (ja s 0) k) c=true)(ok:∀w',cI N rb sb m s r w0 xb C (g ()) P (k+1) w'->post (.returned<|.bool true) w')(hs:s.size<=1000:=by assumption)(hc:c.size<=5:=by decide)(st:∀a,aS (ja s 0)<|g a:=by exact Zx)(bad:∀f' w',ap R' N rb sb m s r w0 (bU f') w'->post (bU f') w':=by exact λ_ _ h=>⟨rfl,h⟩):Cq 139 #[rp rb,.string c] w post:=
 ap.go H.ke H.eq (agJ H.sx hs c hc hi) st bad λa k' v w' S K E q _ hb hR=>by
  cases hR
  cases q
  exact ok w'<|H.mv hb S E
def cI.Ff(H:cI N rb sb m s r w0 xb C g P k w)(hi:aU (tk (ja s 0) k) c=false)(ok:post (.returned<|.bool false) w)(hc:c.size<=5:=by decide):Cq 139 #[rp rb,.string c] w post:=
 (agK H.sx c hc hi).mono λ_ _⟨a,b⟩=>by subst a;subst b;exact ok
def cI.name{R'}{g}(H:cI N rb sb m s r w0 xb C (aK (cY (ja s 0) 1) g) P k w)(ok:∀t w',cI N rb sb m s r w0 xb C (g t) P (k+1) w'->Hid (Cc t.text/\t.to=t.al+t.text.size)->post (.returned<|nmA t) w')(hs:s.size<=1000:=by assumption)(st:∀a,aS (ja s 0)<|g a:=by exact Zx)(bad:∀f' w',ap R' N rb sb m s r w0 (bU f') w'->post (bU f') w':=by exact λ_ _ h=>⟨rfl,h⟩):Cq 129 #[rp rb,.string E9] w post:=
 ap.go H.ke H.eq (uM H.sx hs 1 E9<|j5 ⟨rfl,rfl⟩) st bad λa k' v w' S K E q _ hb hR=>by
  have:=adi q H.sx.lt
  cases hR
  cases eR _ _ _ _ q
  exact ok a w' (H.mv hb S E) this
def cI.expr{R'}{g}(H:cI N rb sb m s r w0 xb C (aK (bq (ja s 0) n) g) P k w)(IH:fA s n)(ok:∀a k' t x w',cI N rb sb m s r w0 xb C (g a) (λw'=>P w'/\PE w' (λb=>w0.heap.size<=b) a (.iface t<|.agg x)) k' w'->k<k'->post (.returned<|.iface t<|.agg x) w')(hn:(ja s 0).length<=k+n:=by omega)(st:∀a,aS (ja s 0)<|g a:=by exact Zx)(bad:∀f' w',ap R' N rb sb m s r w0 (bU f') w'->post (bU f') w':=by exact λ_ _ h=>⟨rfl,h⟩):Cq 135 #[rp rb] w post:=
 H.call (IH _ _ _ _ _ _ H.sx hn) (λa k' v w' H q V=>by obtain⟨t,x,rfl⟩:=V.iface;exact ok a k' t x w' H<|kM n _ _ _ q) st bad
def cI.sS{R'}{g}(H:cI N rb sb m s r w0 xb C (aK (dv (ja s 0) n) g) P k w)(IH:Cd s n)(ok:∀a k' t x w',cI N rb sb m s r w0 xb C (g a) (λw'=>P w'/\PP w' (λb=>w0.heap.size<=b) a (.iface t<|.agg x)) k' w'->k<=k'->post (.returned<|.iface t<|.agg x) w')(hn:(ja s 0).length<=k+n:=by omega)(st:∀a,aS (ja s 0)<|g a:=by exact Zx)(bad:∀f' w',ap R' N rb sb m s r w0 (bU f') w'->post (bU f') w':=by exact λ_ _ h=>⟨rfl,h⟩):Cq 141 #[rp rb] w post:=
 H.call (IH _ _ _ _ _ _ H.sx hn) (λa k' v w' H q V=>by obtain⟨t,x,rfl⟩:=V.iface;exact ok a k' t x w' H<|ph n _ _ _ q) st bad
def cI.since{i}(H:cI N rb sb m s r w0 xb C g P k w)(ok:∀w',cI N rb sb m s r w0 xb C g P k w'->post (.returned<|.agg #[Iv i,.int .i64 ((aG (ja s 0) k:Nat):Int)]) w'):Cq 133 #[rp rb,Iv i] w post:=
 (ac_ H.sx i).mono λ_ _⟨a,b⟩=>by subst a;exact ok _<|H.af b
def cI.done{R}{a}{v}(H:cI N rb sb m s r w0 xb C g P k w)(h:P w->R w (λb=>w0.heap.size<=b) a v)(he:g k=.ok (a,k):=by rfl):ap R N rb sb m s r w0 (.returned v) w:=
 ap.done (H.eq.trans he) H.ke H.sx (h H.p)
end
section
variable {m:MV}
def QY{p:Prop}(h:p:=by
 intro b k4 t4 x4 w4 H l4;go_wp2_with fail;refine H.take ?_;intro w5 H;go_wp2_with fail;refine H.since ?_;intro w6 H
 go_wp2
 go_ret
 exact H.done λ⟨⟨_,A⟩,B⟩=>.pr _ _ _ _ _ _ _ _ _ A B):p:=h
def QX{p:Prop}(h:p:=by
 refine(H.re<|Ac aB hc).Ce hc ?_;intro w2 H;go_wp2_with fail;refine H.since ?_;intro w3 H
 go_wp2
 go_ret
 exact H.done λ_=>.unit _ _ _ _ _):p:=h
def T8{p:Prop}(h:p:=by
 refine H.Ff hm ?_;go_wp2_with fail;refine(H.re<|wE hm λh=>ae).take ?_;intro w5 H
 go_wp2
 go_ret
 exact H.done λ⟨_,A⟩=>A):p:=h
def Af(hs:s.size<=1000)(IH:Cd s n)(h:SX w N rb sb m s k)(hn:(ja s 0).length<=k+1+n)(ho:aU (tk (ja s 0) k) nC=true):
 Cq 98 #[rp rb] w (ap PP N rb sb m s (aH (ja s 0) (dv (ja s 0) n) (lO<|ja s 0) 2 k) w):=by
 have W5:=h_;have Zy:=kL;refine cI.Ae h (uO ho) λH=>?_;go_enter func98,ntmps98;go_wp2_with fail;refine H.take ?_;intro w1 H;go_wp2_with fail
 cases hc:aU (tk (ja s 0)<|k+1) lS
 .refine H.Ff hc ?_;go_wp2_with fail;refine(H.re<|Ad hc).sS IH ?_;intro a k2 t2 x2 w2 H l2;go_wp2_with fail
  cases hm:aU (tk (ja s 0) k2) rS
  .exact T8
  .refine(H.re<|pd hm).Ce hm ?_;intro w3 H;go_wp2_with fail;refine H.sS IH ?_;exact QY
 .exact QX
end
abbrev EQ(α:Type):=World->(Nat->Prop)->α->(Nat->Value)->Prop
def gy{α:Type}(Q:EQ α):=∀(w w':World)(P P':Nat->Prop)(a:α)(c:Nat->Value),Q w P a c->w.heap.size<=w'.heap.size->(∀b,P b->b<w.heap.size->w'.heap[b]? =w.heap[b]?)->(∀b,P b->b<w.heap.size->P' b)->Q w' P' a c
def gU(cs:Nat->Nat->Value)(sz:Nat):Nat->List Value
 |0=>[]|n+1=>gU cs sz n++(qi sz).map (cs n)
def uP cs sz n:(gU cs sz n).length=n*sz:=by
 induction n with
 |zero=>simp[gU]|succ n ih=>simp only[gU,lM,ih,List.length_map,List.length_range,jt]
def Zz cs sz:∀n i j,i<n->j<sz->(gU cs sz n)[i*sz+j]? =some (cs i j):=by
 intro n
 induction n with
 |zero=>intro i j h;omega|succ n ih=>
  intro i j hi hj;simp only[gU];by_cases h:i<n
  .have:i*sz+j<n*sz:=by
    have:(i+1)*sz<=n*sz:=ju _ h;rw[jt]at this;omega
   rw[List.getElem?_append_left (by rw[uP];exact this)];exact ih i j h hj
  .have e:i=n:=ae;subst e;rw[List.getElem?_append_right (by rw[uP];omega),uP];rw[show i*sz+j-i*sz=j by omega];simp[hj]
def wF{cs ds:Nat->Nat->Value}{sz:Nat}:∀n,(∀i,i<n->cs i=ds i)->gU cs sz n=gU ds sz n
 |0,_=>rfl|n+1,h=>by simp only[gU];rw[wF n<|λi hi=>h i ae,h n ae]
def dq{α:Type}(Q:EQ α)et sz w base va vc(L:List α):=
 ∃cs:Nat->Nat->Value,w.ownsRow base et sz (.slice va L.length vc) L.length (gU cs sz L.length)/\∀i(h:i<L.length),Q w (λb=>base<=b/\b<w.heap.size/\(jx va L.length vc).ownBlock≠some b) L[i]<|cs i
def RowV{α:Type}(Q:EQ α)sz w P L(v:Value):=
 ∃(va:Option Addr)(vc:Nat)(cs:Nat->Nat->Value),v=.slice va L.length vc/\(L=[]\/∃g,va=some ⟨g,0,none⟩/\P g/\g<w.heap.size/\∀i,i<L.length->∀j,j<sz->w.cell? ⟨g,i*sz+j,none⟩=some (cs i j))/\∀i(h:i<L.length),Q w P L[i]<|cs i
section
variable {Q:EQ α} {sz:Nat} {L:List α}
def dq.nil(Q:EQ α)et sz w base:dq Q et sz w base none 0 []:=⟨λ_ _=>.nilIface,World.ownsRow_nil _ _ _ _,λi h=>absurd h ag⟩
def dq.v(hQ:gy Q)(h:dq Q et sz w base va vc L):RowV Q sz w (λb=>base<=b) L (.slice va L.length vc):=by
 obtain⟨cs,ho,hr⟩:=h;refine⟨va,vc,cs,rfl,?_,λi hi=>hQ _ _ _ _ _ _ (hr i hi) (br _) (λ_ _ _=>rfl) λb p _=>p.1⟩;obtain⟨h1,h2⟩:=ho;obtain⟨_,hz⟩|⟨q,cap,lZ,hv,hg,hh,_,_,_,ht⟩:=h2
 .grind
 .injection hv with e1 e2 e3;subst e1;refine j6 ⟨q,rfl,hg,(Array.getElem?_eq_some_iff.1 hh).1,λi hi j hj=>?_⟩;have bA:i*sz+j<L.length*sz:=by
   have:(i+1)*sz<=L.length*sz:=ju _ hi;rw[jt]at this;omega
  rw[<-Zz cs sz L.length i j hi hj,<-ht];simp only[World.cell?,hh];rw[List.getElem?_take_of_lt bA];simp
def dq.om(hQ:gy Q)(h:dq Q et sz w base va vc L)(hs:w.heap.size<=w'.heap.size)(hb:∀b,base<=b->b<w.heap.size->w'.heap[b]? =w.heap[b]?):dq Q et sz w' base va vc L:=by
 obtain⟨cs,ho,hr⟩:=h;refine⟨cs,?_,λi hi=>hQ _ _ _ _ _ _ (hr i hi) hs (λb p z=>hb b p.1 z) λb p _=>⟨p.1,ae,p.2.2⟩⟩;obtain⟨h1,h2⟩:=ho;refine⟨h1,?_⟩;obtain h2|⟨q,cap,lZ,hv,hg,hh,r⟩:=h2
 .exact j5 h2
 .refine j6 ⟨q,cap,lZ,hv,hg,?_,r⟩;rw[hb q hg (Array.getElem?_eq_some_iff.1 hh).1,hh]
def dq.block(h:dq Q et sz w base va vc L):∀b,(jx va L.length vc).ownBlock=some b->base<=b/\b<w.heap.size:=by
 obtain⟨cs,ho,_⟩:=h;exact fP ho
def dq.one{lo q:Nat}{a}{c:Nat->Value}(hQ:gy Q)(hq:Q w (λb=>lo<=b) a c)(rl:base<=lo)(hb:lo<=w.heap.size)(hs:0<sz)C(hC:C=((qi sz).map c).toArray)(hqq:q=w.heap.size):dq Q et sz (w.alloc<|.cells C et) base (some ⟨q,0,none⟩) 1 [a]:=by
 subst hqq hC;refine⟨λ_=>c,⟨by simp[gU],j6 ⟨w.heap.size,1,_,rfl,ae,(MapKept.heap_alloc w _).1,ag,ZA,ag,by simp[gU];exact List.take_of_length_le ag⟩⟩,λi hi=>?_⟩;have:i=0:=qBl;subst this;refine hQ _ _ _ _ _ _ hq ag (λb _ z=>Below.heap_alloc _ _ _ z) λb p z=>⟨jo rl p,bF,?_⟩;simp[Value.ownBlock];omega
def dq.push{w1}{lo q3 c3:Nat}{a}{c:Nat->Value}(hQ:gy Q){cs}(hP:∀i(h:i<L.length),Q w1 (λb=>base<=b/\b<w1.heap.size/\(jx va L.length vc).ownBlock≠some b) L[i]<|cs i)(hq:Q w1 (λb=>lo<=b) a c)(qU:base<=lo)(hold:∀b,(jx va L.length vc).ownBlock=some b->b<lo)(hW:Bq w1 W)(h3:w3.ownsRow base et sz (.slice (some ⟨q3,0,none⟩) (L.length+1) c3) (L.length+1) (gU cs sz L.length++(qi sz).map c))(hg:W.grownBy w3 (jx va L.length vc).ownBlock)(UL:(jx (some ⟨q3,0,none⟩) (L.length+1) c3).ownBlock=(jx va L.length vc).ownBlock\/(jx (some ⟨q3,0,none⟩) (L.length+1) c3).ownBlock=some W.heap.size):
 dq Q et sz w3 base (some ⟨q3,0,none⟩) c3 (L++[a]):=by
 have hlen:(L++[a]).length=L.length+1:=ag;have gL:=hg.size;have ZB:∀b,b<w1.heap.size->(Lv va L.length vc).ownBlock≠some b->w3.heap[b]? =w1.heap[b]? :=λb hb hn=>(hg.block b (jm hb hW.size)<|λe=>hn e.symm).trans<|hW.block b hb;have BO:∀b,b<w1.heap.size->(Lv va L.length vc).ownBlock≠some b->(Lv (some ⟨q3,0,none⟩) (L.length+1) c3).ownBlock≠some b:=λb hb hn e=>by
  obtain g|g:=UL
  .exact hn (g▸e)
  .have q:=e.symm.trans g;simp at q;have:=hW.size;omega
 have hws:=hW.size;have Mr:∀i,i<L.length->(λi=>if i=L.length then c else cs i) i=cs i:=λi hi=>if_neg ae;refine⟨λi=>if i=L.length then c else cs i,?_,λi hi=>?_⟩
 .rw[hlen];show w3.ownsRow base et sz _ _<|gU _ sz L.length++(qi sz).map (if L.length=L.length then c else cs L.length);rw[if_pos rfl,wF (ds:=cs) L.length Mr];exact h3
 .rw[hlen];by_cases bA:i<L.length
  .rw[List.getElem_append_left bA];show Q w3 _ L[i]<|if i=L.length then c else cs i;rw[if_neg ae];exact hQ _ _ _ _ _ _ (hP i bA) ae (λb p z=>ZB b p.2.1 p.2.2) λb p z=>⟨p.1,ae,BO b p.2.1 p.2.2⟩
  .have Ag:i=L.length:=Ie;subst Ag;have e1:(L++[a])[L.length]'hi=a:=ag;rw[e1];show Q w3 _ a<|if L.length=L.length then c else cs L.length;rw[if_pos rfl];have cV:∀b,lo<=b->(Lv va L.length vc).ownBlock≠some b:=λb h1 e=>by have:=hold b e;omega
   exact hQ _ _ _ _ _ _ hq ae (λb p z=>ZB b z<|cV b p) λb p z=>⟨jo qU p,ae,BO b z<|cV b p⟩
end
def Q1(R:World->(Nat->Prop)->Nd->Value->Prop):EQ Nd:=λw P a c=>R w P a<|c 0
def ZC:gy (Q1 PT):=λ_ _ _ _ _ _ h h1 h2 h3=>PT.move h h1 h2 h3
section
variable {row:Option Nat} {m:MV}
def SX.grown(hg:W.grownBy w3 row)(h:SX W N rb sb m s k)(hr:∀j,row=some j->N<=j):SX w3 N rb sb m s k:=
 h.move hg.size λb hb=>hg.block b (jm hb h.ev.hN) λe=>by have:=hr b e.symm;omega
def eJ{b}{mt ft}(h:MS jv W b L)(hm:Tryz.prog.underlying mt=some (.map 139 ft))(hz:(zeroValue ft).run jy W=.ok .nilFunc W)x:
 (Instr.lookup mt (Mv b) (.string x) true).run jy W=.ok (lC (a_ x L) .nilFunc) W:=by
 have:=h.look (KL.str Tryz.underlying139) hm hz x trivial (λ_ _=>trivial) true;rw[this]
 cases a_ x L<;>rfl
theorem Fg{x:BA}:∀{L:List (BA×Value)},(∀p∈L,p.1≠x)->a_ x L=none
 |[],_=>rfl|p::l,h=>by
  rw[a_];rw[if_neg<|h p<|List.mem_cons_self ..];exact Fg λq hq=>h q<|List.mem_cons_of_mem _ hq
end
def tD(ho:gA t)(hs:sort=2\/sort=3)(hb:aF t sort=true):t.kind=1\/t.kind=2\/t.kind=4\/aU t gB=true\/aU t dJ=true\/(sort=2/\aU t Aa=true)\/aU t nC=true:=by
 by_cases h0:aU t nC=true
 .simp[h0]
 have h0':aU t ls=false:=by simpa using h0
 rw[aF]at hb;rw[h0']at hb;rw[bI]at hb;by_cases h1:t.kind=1
 .exact j5 h1
 by_cases h2:t.kind=2
 .omega
 by_cases h4:t.kind=4
 .omega
 by_cases h5:aU t gB=true
 .simp[h5]
 by_cases h6:aU t dJ=true
 .simp[h6]
 by_cases h7:aU t Aa=true
 .obtain rfl|rfl:=hs
  .simp[h7]
  .grind
 .exfalso;obtain rfl|rfl:=hs
  .grind
  .grind
def wG(hs:sort=2\/sort=3)(hb:aF t sort=false):t.kind≠1/\t.kind≠2/\t.kind≠4/\aU t gB=false/\aU t dJ=false/\(sort=2->aU t Aa=false)/\aU t nC=false:=by
 rw[aF]at hb;rw[Bool.or_eq_false_iff]at hb;obtain⟨h0,hb⟩:=hb;have key:∀c,c=1\/c=2\/c=3\/c=4->bI t≠c:=xY;refine⟨λe=>key 1 ag (by rw[bI];simp[e]),λe=>key 2 ag (by rw[bI];simp[e]),λe=>key 3 ag (by rw[bI];simp[e]),?_,?_,?_,h0⟩
 .cases h:aU t gB with
  |false=>rfl|true=>exact absurd (Fb<|j5 h)<|key 4 ag
 .cases h:aU t dJ with
  |false=>rfl|true=>exact absurd (Fb<|j6 h)<|key 4 ag
 .rintro rfl
  cases h:aU t Aa with
  |false=>rfl|true=>
   have h5:=o8 h;have:bI t=15:=by
    rw[bI];rw[if_neg ae,if_neg ae,if_neg ae,if_neg ae,if_neg (by rw[JF,Dh];rw[QW]at h;simp at h;simp[h.2]),if_pos h]
   rw[this]at hb;simp at hb
def cy{p}(hb:aF (tk T k) sort=true)(ho:aU (tk T k) nC=false):aH T p q sort k=.ok (b_<|tk T k,k+1):=by
 have ho':=ho;rw[aH];rw[if_pos hb,if_neg<|by simp[ho']]
theorem afg{a b:BA}(h:a.toList=b.toList):a=b:=by
 rw[j7,j7]at h;exact ByteArray.ext<|Array.ext' h
def gC(h:aU t c=true):aq t=c:=by
 rw[pU<|o8 h];rw[aU]at h;simp only[qe,beq_iff_eq]at h;exact afg h.2
def rT(h5:t.kind=5)(h:aU t c=false):c≠t.text:=λe=>by
 subst e;rw[aU]at h;simp[h5]at h
def pX(h:t.kind≠5)c:aU t c=false:=by rw[aU];simp[h]
def tE{d}(h:aU t c=true)(hn:c.toList≠d.toList):aU t d=false:=by
 rw[aU]at h⊢;simp only[qe,beq_iff_eq]at h;simp[h.1,h.2,hn]
section
variable {m:MV}
def UT(hs:s.size<=1000)(IH:Cd s n)(h:SX w N rb sb m s k)(hn:(ja s 0).length<=k+1+n)(hb:aF (tk (ja s 0) k) 2=true){x}(hx:Bx w x #[rp rb]):
 (∃f,a_ (aq<|tk (ja s 0) k) (rN rb x)=some (oZ f rb)/\(∀args w,(callFunc f args).run jy w=.ok (.enter f args) w)/\∀W,Bq w W->Cq f #[rp rb] W (ap PP N rb sb m s (aH (ja s 0) (dv (ja s 0) n) (lO<|ja s 0) 2 k) W))\/
 (∃f,a_ (aq<|tk (ja s 0) k) (rN rb x)=some (nF f x)/\(∀args w,(callFunc f args).run jy w=.ok (.enter f args) w)/\∀W,Bq w W->Cq f #[Pv x] W (ap PP N rb sb m s (aH (ja s 0) (dv (ja s 0) n) (lO<|ja s 0) 2 k) W)):=by
 have ho:=eX s k h.lt;obtain hk|hk|hk|hk|hk|⟨h9,hk⟩|hk:=tD ho aB hb
 .refine j6 ⟨93,by rw[jH hk];rfl,λ_ _=>qkr,?_⟩;rw[cy hb<|pX ae _];exact λW hW=>(Zu (h.af hW) hs hk x<|hx.below hW).2
 .refine j5 ⟨94,by rw[im hk];rfl,λ_ _=>qkr,?_⟩;rw[cy hb<|pX ae _];exact λW hW=>(aff (h.af hW) hs hk).2
 .refine j6 ⟨95,by rw[jI hk];rfl,λ_ _=>qkr,?_⟩;rw[cy hb<|pX ae _];exact λW hW=>(Zw (h.af hW) hs hk x<|hx.below hW).2
 .refine j6 ⟨96,qBk,λ_ _=>qkr,?_⟩;rw[cy hb<|tE hk qAp];exact λW hW=>(yp (h.af hW) hs (j5 hk) x<|hx.below hW).2.2.1
 .refine j6 ⟨97,qBk,λ_ _=>qkr,?_⟩;rw[cy hb<|tE hk qAp];exact λW hW=>(yp (h.af hW) hs (j6 hk) x<|hx.below hW).2.2.2
 .refine j5 ⟨92,qBk,λ_ _=>qkr,?_⟩;rw[cy hb<|tE hk qAp];exact λW hW=>Og (h.af hW) hs hk
 .refine j5 ⟨98,qBk,λ_ _=>qkr,λW hW=>Af hs IH (h.af hW) hn hk⟩
def ZD(h:SX w N rb sb m s k)(hb:aF (tk (ja s 0) k) 2=false)x:a_ (aq<|tk (ja s 0) k) (rN rb x)=none:=by
 have ho:=eX s k h.lt;have⟨n1,n2,n4,nt,nf,na,no⟩:=wG aB hb;obtain h'|h'|h'|h'|h'|h'|h':=ho.kd
 .exact absurd h' n1
 .exact absurd h' n2
 .rw[iq h'];rfl
 .exact absurd h' n4
 .rw[pU h'];have hz:=ho.s5 h';have qN:∀c:BA,5<c.size->c≠(tk (ja s 0) k).text:=λc hc e=>by rw[e]at hc;omega
  refine Fg λp hp=>?_;simp only[rN,ql,qk,or_false]at hp;obtain rfl|rfl|rfl|rfl|rfl|rfl|rfl:=hp
  .exact rT h' (na rfl)
  .exact qN E9 aB
  .exact qN Jq aB
  .exact qN Oc aB
  .exact rT h' nt
  .exact rT h' nf
  .exact rT h' no
 .exact absurd h' h.ok
 .rw[jJ h'];rfl
def adj w:(zeroValue 206).run jy w=.ok .nilFunc w:=qkr
end
theorem RowV.move{Q}{sz}{P'}{L:List α}{v:Value}(h:RowV Q sz w P L v)(hQ:gy Q)(hs:w.heap.size<=w'.heap.size)(hb:∀b,P b->b<w.heap.size->w'.heap[b]? =w.heap[b]?)(hq:∀b,P b->b<w.heap.size->P' b):RowV Q sz w' P' L v:=by
 obtain⟨va,vc,cs,hv,aO,hr⟩:=h;refine⟨va,vc,cs,hv,?_,λi hi=>hQ _ _ _ _ _ _ (hr i hi) hs hb hq⟩;obtain h0|⟨g,h1,h2,h3,h4⟩:=aO
 .exact j5 h0
 .refine j6 ⟨g,h1,hq g h2 h3,jm h3 hs,λi hi j hj=>?_⟩;rw[qf (a:=⟨g,i*sz+j,none⟩) (w:=w)<|hb g h2 h3];exact h4 i hi j hj
section
variable {Q:EQ α} {sz:Nat} {m:MV} {r:Except Fl (γ×Nat)} {P:World->Prop} {g:M γ} {L:List α}
def Fh(I:List α->Prop)Q et sz N rb sb m s k w r(g:Nat->List α->Nat->M γ)gk(v:Value)wr:=
 ∃(kr:Nat)(L:List α)(f:Nat)(va:Option Addr)(vc tz:Nat),v=.slice va L.length vc/\I L/\cI N rb sb m s r w rb #[] (g f L tz) (λw'=>dq Q et sz w' w.heap.size va vc L) kr wr/\Hid (gk=(ja s 0).length-kr)/\k<=kr/\L.length<=kr/\(ja s 0).length<=kr+f
def cI.row(H:cI N rb sb m s r w0 xb C g P k w)(hQ:gy Q)(R:dq Q et sz w base va vc L)(hb:w0.heap.size<=base/\(xb=rb\/xb<base)):cI N rb sb m s r w0 xb C g (λw'=>dq Q et sz w' base va vc L) k w:=
 (H.add λw' a b=>R.om hQ a λc c1 c2=>b c c2 (by have:=H.rz;omega) (by have:=H.rz;omega)).imp λ_ h=>h.2
def cI.append{ops}{rest}{o}{ac}{K}{sO xO}{t bytes}{z}{D}{c}{a}{wr:World}(H:cI N rb sb m s r w0 xb C g P k w)(hT:(ja s 0).length<=1001)(hQ:gy Q)(inf:(Tryz.prog.info? et).map (λi=>(i.zero,i.size,i.bytes))=some (some z,sz,bytes))(ut:Tryz.prog.underlying t=some (.slice et))(R:dq Q et sz w base va vc L)(hr:base<=wr.heap.size)(hb:∀b,(jx va L.length vc).ownBlock=some b->b<wr.heap.size)(V:Q w (λb=>wr.heap.size<=b) a c)(hl:L.length<k)(h:∀q c' w3,cI N rb sb m s r w0 xb C g (λw'=>dq Q et sz w' base (some ⟨q,0,none⟩) c'<|L++[a]) k w3->wpList jy ops K rest (ac.put o.dst<|.slice (some ⟨q,0,none⟩) (L++[a]).length c') w3)(he:w0.heap.size<=base/\(xb=rb\/xb<base)/\base<=w.heap.size:=by exact⟨br _,.inl rfl,H.ke.size⟩)(hD:D=(qi sz).map c:=by rfl)(h1:∀u∈D,u.oneCell'=true:=by intro u hu;simp at hu;obtain rfl|rfl|rfl|rfl|rfl|rfl:=hu<;>rfl)(hz:z.cells.size=sz/\0<sz/\bytes<=1000:=by decide)(hgd:o.guard=none:=by rfl)(ho:o.op=.call {callee:=.builtin .append,args:=#[sO,xO],argTypes:=#[t,t]}:=by rfl)(hs:ac.eval sO=.slice va L.length vc:=by rfl)(hx:ac.eval xO=.slice (some ⟨w.heap.size,0,none⟩) 1 1:=by rfl):
 wpList jy ops K (o::rest) ac (w.alloc<|.cells D.toArray et):=by
 have⟨i0,yq,oR,nu,iZ⟩:=info_parts inf;obtain⟨cs,HO,HP⟩:=R;have kl:=H.sx.lt;have hbw:Bq w (w.alloc<|Cv D.toArray et):=bw _;have Jk:=fP HO;refine wpList_append_own_at _ hgd sO xO t ho base et i0 _ sz bytes ut yq oR nu iZ hz.1 hz.2.1 (Lv va L.length vc) L.length _ hs (jR HO hbw) ⟨w.heap.size,0,none⟩ 1 1 D hx (by rw[hD];simp) (oE _ _ _ _ ag) h1 ZA (jo (Nat.mul_le_mul_left _ hz.2.2) ae) bF ?_;intro v3 w3 O3 g3 n3 l3;obtain⟨q,c',rfl⟩:=tF O3 ae;have e:(L++[a]).length=L.length+1:=ag;have B:=H.af hbw;have rz:=H.rz;have G:cI N rb sb m s r w0 xb C g (λ_=>True) k w3:=⟨SX.grown g3 B.sx λj e=>by have:=Jk j e;omega,Ke.grown g3 B.ke λj e=>by have:=Jk j e;omega,H.eq,λ_ _ _=>trivial,H.rz,jm B.xz g3.size,B.bx.imp id λ⟨b1,b2,b3⟩=>⟨b1,b2,b3.grown g3 λj e=>by have:=Jk j e;omega⟩⟩;have:=h q c' w3<|G.row hQ (dq.push (w1:=w) (lo:=wr.heap.size) (c:=c) hQ HP V hr hb hbw (hD▸O3) g3 l3) ⟨he.1,he.2.1⟩;rw[e]at this;exact this
end
def adk:(Tryz.prog.info? 208).map (λi=>(i.zero,i.size,i.bytes))=some (some .nilIface,1,16):=qkr
def UU:Tryz.prog.underlying 261=some (.slice 208):=qkr
def JM:(Tryz.prog.info? 125).map (λi=>(i.zero,i.size,i.bytes))=some (some .nilIface,1,16):=qkr
def Ah:Tryz.prog.underlying 166=some (.slice 125):=qkr
def tG w:(zeroValue 197).run jy w=.ok .nilFunc w:=qkr
def JN{x:Nd}(h:aF (tk T k) sort=false):dM T sm sort f x k=.ok (x,k):=by
 cases f with
 |zero=>rfl|succ f=>unfold dM;rw[h];rfl
def UW{x:Nd}(h:aF (tk T k) sort=true):dM T sm sort (f+1) x k=aK sm (λy k'=>dM T sm sort f (x.add y<|aG T k') k') k:=by
 show(if aF (tk T k) sort=true then _ else _)=_;rw[if_pos h]
def rU{T:List jc}{sm:M Nd}{sort c:Nat}{nm:BA}{n fr at_:Nat}:∀f L k a k2,dM T sm sort f (.mk c nm n L fr (aG T k) at_) k=.ok (a,k2)->∃L',a=.mk c nm n L' fr (aG T k2) at_
 |0,L,k,a,k2,h=>by cases h;exact⟨L,rfl⟩|f+1,L,k,a,k2,h=>by
  unfold dM at h;split at h
  .have⟨y,k1,_,h2⟩:=aA h;exact rU f (L++[y]) k1 a k2 h2
  .cases h;exact⟨L,rfl⟩
def Fi(f:M α)k:f k=aK f (λa k=>.ok (a,k)) k:=by rw[aK];cases f k<;>rfl
def adl R nm w P(a:Nd)v:=∃L fr tz at_,a=.mk 2 nm 0 L fr tz at_/\RowV (Q1 R) 1 w P L v
def Tab N rb sb m s R(sm:M Nd)sort b w k:=∃L,MS jv w b L/\
 (aF (tk (ja s 0) k) sort=true/\((∃F,a_ (aq<|tk (ja s 0) k) L=some (oZ F rb)/\(∀args w,(callFunc F args).run jy w=.ok (.enter F args) w)/\∀W,Bq w W->Cq F #[rp rb] W (ap R N rb sb m s (sm k) W))\/
  (∃F x,a_ (aq<|tk (ja s 0) k) L=some (nF F x)/\(∀args w,(callFunc F args).run jy w=.ok (.enter F args) w)/\∀W,Bq w W->Cq F #[Pv x] W (ap R N rb sb m s (sm k) W)))\/
  aF (tk (ja s 0) k) sort=false/\a_ (aq<|tk (ja s 0) k) L=none)
section
variable {m:MV} {b:Nat} {p:M Nd}
def JO(hF:mt=147\/mt=146\/mt=145)(hM:MS jv w b L)x:(Instr.lookup mt (Mv b) (.string x) true).run jy w=.ok (lC (a_ x L) .nilFunc) w:=by
 obtain rfl|rfl|rfl:=hF
 .exact eJ hM Tryz.underlying147 (agI w) x
 .exact eJ hM Tryz.underlying146 (adj w) x
 .exact eJ hM Tryz.underlying145 (tG w) x
def Rz{p:Prop}(h:p:=by
 obtain⟨rfl,QZ⟩:=hp.bad hA
 exact⟨rfl,hp⟩):p:=h
def afh{FO}(hF:FO=180/\mt=147\/FO=163/\mt=146\/FO=144/\mt=145)(hI:∀{w P a v},R w P a v->∃t x,v=.iface t (.agg x))(h:SX w N rb sb m s k)(Y:Tab N rb sb m s R (aH (ja s 0) p q sort) sort b w k):
 Cq FO #[rp rb,Mv b] w (ap R N rb sb m s (aH (ja s 0) p q sort k) w):=by
 obtain⟨L,hM,Y⟩:=Y;have hl:=JO (mt:=mt) (by obtain h|h|h:=hF<;>simp[h.2]) hM (aq<|tk (ja s 0) k);have⟨c,f,z⟩:=h.bx;obtain⟨hb,⟨F,hg,ZE,HC⟩|⟨F,x,hg,ZE,HC⟩⟩|⟨hb,hg⟩:=Y;all_goals simp only[hg,lC]at hl
 all_goals clear hg hM
 all_goals obtain⟨rfl,rfl⟩|⟨rfl,rfl⟩|⟨rfl,rfl⟩:=hF
 all_goals(
  first
  |go_enter func180,ntmps180
  |go_enter func163,ntmps163
  |go_enter func144,ntmps144
  first
  |(go_wp2_with(go_at_call 66;refine(wi h.rd).mono ?_;rintro e w1⟨rfl,QZ⟩)
    refine⟨rfl,j9 QZ,?_⟩;rw[show aH (ja s 0) p q sort k=.error (d_<|tk (ja s 0) k) by rw[aH];rw[hb];rfl,d_,if_neg h.ok]
    rfl)
  |(go_wp2_with fail
    refine(HC _<|qg _ _).mono ?_;intro e w1 hp
    cases hA:fin (ja s 0) (aH (ja s 0) p q sort k)with
    |error f'=>
     exact Rz
    |ok r=>
    obtain⟨a,k2⟩:=r;obtain⟨v,rfl,_,_,hR⟩:=hp.ok hA;obtain⟨tv,xv,rfl⟩:=hI hR
    go_wp2
    go_ret
    exact hp))
def ZF{FM et}(hT:(ja s 0).length<=1001)(hF:FM=158/\mt=147/\et=125\/FM=164/\mt=146/\et=208)(hI:∀{w P a v},R w P a v->∃t x,v=.iface t (.agg x))(mv:Mov R)(lts:mY sm)(D:∀w k',SX w N rb sb m s k'->k<=k'->Tab N rb sb m s R sm sort b w k')(h:SX w N rb sb m s k)nm(fr tz at_:Nat):
 Cq FM #[rp rb,Mv b] w (ap (adl R nm) N rb sb m s (dM (ja s 0) sm sort (ja s 0).length (.mk 2 nm 0 [] fr tz at_) k) w):=by
 have mvs:gy (Q1 R):=λ_ _ _ _ _ _ h a b c=>mv _ _ _ _ _ _ h a b c;obtain⟨r,hr⟩:∃r,r=dM (ja s 0) sm sort (ja s 0).length (.mk 2 nm 0 [] fr tz at_) k:=⟨_,rfl⟩;rw[<-hr];have H:=cI.at h hr
 replace D:=ai D
 have tl:=ai (λ(w:World)(L:List (BA×Value))(h:MS Sv w b L)=>JO (mt:=mt) (by obtain h|h:=hF<;>simp[h.2.1]) h);clear h hr;obtain⟨rfl,rfl,he⟩|⟨rfl,rfl,he⟩:=hF
 all_goals(
  replace he:=ai he
  first
  |go_enter func158,ntmps158
  |go_enter func164,ntmps164
  go_wp2
  go_loopg[5] ((ja s 0).length-k) (λgk v wr=>Fh (λ_=>True) (Q1 R) et 1 N rb sb m s k w r (λf L tz=>dM (ja s 0) sm sort f<|.mk 2 nm 0 L fr tz at_) gk v wr)
  case atStart=>exact⟨k,[],(ja s 0).length,none,0,tz,rfl,trivial,H.row mvs (dq.nil _ _ _ _ _) ⟨br _,.inl rfl⟩,ai rfl,br _,ag,ae⟩
  case round=>
   clear H;obtain rfl:=uh he;obtain⟨kr,L,f,va,vc,to',rfl,-,H,dl,hle,hLl,hfu⟩:=hrel;have⟨X,hM,Y⟩:=uh D _ _ H.sx hle;have hl:=uh tl _ _ hM<|aq<|tk (ja s 0) kr;have ZG:=H.sx.lt;have zw:=H.ke.size;have ZH:=H.p.block;have⟨c,ff,z⟩:=H.sx.bx;obtain⟨hb,Y⟩|⟨hb,hg⟩:=Y
   .obtain⟨f,rfl⟩:∃f',f=f'+1:=⟨f-1,ae⟩;obtain⟨F,hg,ZE,HC⟩|⟨F,x,hg,ZE,HC⟩:=Y
    all_goals(
     simp only[hg,lC]at hl;clear hg;go_wp2_with fail;refine(H.re<|UW hb).call (HC _<|qg _ _) ?_ (st:=λa q h=>jK _ _ _ _ q h) (mv:=mv);intro a k2 v w1 H q V;obtain⟨tv,xv,rfl⟩:=hI V;have l2:=lts _ _ _ q;clear HC ZE c ff z hl hM q;go_wp2_with(at_builtin;go_must(refine H.append (D:=[Fv tv<|Av xv]) (z:=Zv) (bytes:=16) hT mvs (by first|exact JM|exact adk) (by first|exact Ah|exact UU) H.p.1 zw (λb e=>(ZH b e).2) (c:=λ_=>Fv tv<|Av xv) V ae ?_;intro q3 c3 w3 H));go_roundg((ja s 0).length-k2)
     case measure=>rw[uh dl];omega
     case rel=>exact⟨k2,L++[a],f,_,c3,_,ag,trivial,H.re rfl,ai rfl,ae,bF,ae⟩)
   .simp only[hg,lC]at hl
    go_wp2
    go_ret
    exact H.done (λR=>⟨L,_,_,_,rfl,R.v mvs⟩)<|JN hb)
end
section
variable {m:MV} {b:Nat} {p:M Nd}
def JP{nm}(mv:Mov R):Mov (adl R nm):=λ_ _ _ _ _ _⟨L,a,b,c,d,e⟩x y z=>⟨L,a,b,c,d,e.move (λ_ _ _ _ _ _ h a b c=>mv _ _ _ _ _ _ h a b c) x y z⟩
def adl.sl{nm}{v}(h:adl R nm w P a v):∃va L vc,v=.slice va L vc:=by obtain⟨_,_,_,_,_,_,_,_,rfl,-⟩:=h;exact⟨_,_,_,rfl⟩
def ZI{FH tt}(hs:s.size<=1000)(hT:(ja s 0).length<=1001)(hF:FH=141/\tt=263/\m.d=Mv b\/FH=162/\tt=194/\b=sb)(hI:∀{w P a v},R w P a v->∃t x,v=.iface t (.agg x))(mv:Mov R)(lts:mY (aH (ja s 0) p q sort))(D:∀w k',SX w N rb sb m s k'->k<=k'->Tab N rb sb m s R (aH (ja s 0) p q sort) sort b w k')(h:SX w N rb sb m s k)(mk:∀{w P nm L v}{f t a y:Nat},od nm->y=a+nm.size->RowV (Q1 R) 1 w P L v->R w P (.mk 2 nm 0 L f t a) (.iface tt<|.agg #[Nv f,Nv t,Nv a,Nv y,.string nm,v])):
 Cq FH #[rp rb] w (ap R N rb sb m s (iY (ja s 0) (aH (ja s 0) p q sort) sort k) w):=by
 have ho:=eX s k h.lt;have rj:=(o7 s k h.lt).sp;have hku:=EZ ho h.ok;rw[show Jq.toList=[117,112,32,110,97,109,101]from toList_mk _]at hku;have⟨c,f,z⟩:=h.bx
 replace D:=ai D
 replace rj:=ai rj
 by_cases h2:(tk (ja s 0) k).kind=2
 .rw[h2]at hku;have⟨k1,e1,e2⟩:=QT s k h.lt ae;have HE:iY (ja s 0) (aH (ja s 0) p q sort) sort k=aK (cY (ja s 0) 2) (λ_=>dM (ja s 0) (aH (ja s 0) p q sort) sort (ja s 0).length<|.mk 2 (tk (ja s 0) k).text 0 [] (tk (ja s 0) k).al (aG (ja s 0)<|k+1) (tk (ja s 0) k).al) k:=by
   unfold iY;rw[if_pos<|by simp[h2]];unfold aK;rw[ZK sort k h2,tA h2,e2];unfold b_ bI eO;simp[h2]
  obtain⟨rfl,rfl,wH⟩|⟨rfl,rfl,rfl⟩:=hF
  all_goals(
   refine cI.Ae h HE λH=>?_;clear HE e1 e2;first
   |go_enter func141,ntmps141
   |go_enter func162,ntmps162
   go_wp2_with fail;refine H.call (uM h hs 2 Jq<|j6 ⟨rfl,rfl⟩) ?_ (st:=λ_=>jK _ _ _ _);intro t k1 v w1 H q V
   cases V
   rw[tA h2]at q
   cases q
   have H:=H.box (D:=#[Nv (tk (ja s 0) k).al,Nv (tk (ja s 0) k).to,Sv (tk (ja s 0) k).text]) (t:=74);clear c f z;have⟨c,f,z⟩:=H.sx.bx;go_wp2_with fail;clear c f z;refine(H.re<|Fi (dM (ja s 0) (aH (ja s 0) p q sort) sort (ja s 0).length<|.mk 2 (tk (ja s 0) k).text 0 [] (tk (ja s 0) k).al (aG (ja s 0)<|k+1) (tk (ja s 0) k).al)<|k+1).call (ZF hT (by first|exact .inl ⟨rfl,rfl,rfl⟩|exact .inr ⟨rfl,rfl,rfl⟩) hI mv lts (λw k' S l=>uh D w k' S ae) H.sx _ _ _ _) ?_ (mv:=JP mv);intro a k2 v w3 H q V;have⟨L',hL'⟩:=rU _ _ _ _ _ q;subst hL';obtain⟨va,L,vc,rfl⟩:=V.sl;clear V q;have⟨⟨_,c3,f3,z3⟩,_⟩:=H.p
   go_wp2
   go_region_with(go_at_call 133;refine H.drew.since ?_;intro w4 H;have⟨⟨_,c4,f4,z4⟩,_⟩:=H.p)
   all_goals(
    go_wp2
    go_ret;refine H.done ?_;rintro⟨_,L1,fr,tz,at_,e,V⟩;injection e with _ _ _ e3 e4 e5 e6;subst e3 e4 e5 e6
    exact mk (ho.v2 h2) rj V))
 .rw[show((tk (ja s 0) k).kind==2)=false by simp[h2]]at hku;have HE:iY (ja s 0) (aH (ja s 0) p q sort) sort k=(aH (ja s 0) p q sort) k:=by unfold iY;rw[if_neg<|by simp[h2]]
  rw[HE];obtain⟨rfl,rfl,wH⟩|⟨rfl,rfl,rfl⟩:=hF
  all_goals(
   first
   |go_enter func141,ntmps141
   |go_enter func162,ntmps162
   go_wp2_with fail;refine(afh (by first|exact .inl ⟨rfl,rfl⟩|exact .inr<|.inl ⟨rfl,rfl⟩) hI h<|uh D _ _ h<|br _).mono ?_;intro e w1 hp
   cases hA:fin (ja s 0) ((aH (ja s 0) p q sort) k)with
   |error f'=>
    exact Rz
   |ok r=>
   obtain⟨a,k2⟩:=r;obtain⟨v,rfl,_,_,hR⟩:=hp.ok hA;obtain⟨tv,xv,rfl⟩:=hI hR
   go_wp2
   go_ret
   exact hp)
end
abbrev Dj s n:=aH (ja s 0) (gP (ja s 0) n) (gP (ja s 0) n) 1
def RowV.pt{L}{v}{nm}{t a}(hu:od nm)(hy:y=a+nm.size)(h:RowV (Q1 PT) 1 w P L v):PT w P (.mk 2 nm 0 L f t a) (.iface 194<|.agg #[Nv f,Nv t,Nv a,Nv y,.string nm,v]):=by
 obtain⟨va,vc,cs,rfl,aO,hr⟩:=h;exact .up nm 0 L f t a _ _ _ _ va vc (λi=>cs i 0) hu (aO.imp id λ⟨g,h1,h2,h3,h4⟩=>⟨g,h1,h2,h3,λi hi=>by simpa using h4 i hi 0 aB⟩) hr rfl (by rw[hy])
def ZL s n:=∀(w:World)(N rb sb:Nat)(m:MV)(k:Nat),SX w N rb sb m s k->(ja s 0).length<=k+n->Cq 140 #[rp rb] w (ap PT N rb sb m s (gP (ja s 0) n k) w)
section
variable {m:MV}
def JQ(hs:s.size<=1000)(IH:ZL s n)(h:SX w N rb sb m s k)(hn:(ja s 0).length<=k+1+n)(ho:aU (tk (ja s 0) k) nC=true):Cq 101 #[rp rb] w (ap PT N rb sb m s (Dj s n k) w):=by
 have W5:=h_;have Zy:=kL;refine cI.Ae h (uO ho) λH=>?_;go_enter func101,ntmps101;go_wp2_with fail;refine H.take ?_;intro w1 H;go_wp2_with fail;refine(H.re (g':=aK (gP (Pu.bH s 0) n)<|kx (Pu.bH s 0) (gP (Pu.bH s 0) n) (gP (Pu.bH s 0) n) 1 (tk (Pu.bH s 0) k).al) (by rw[gq];rw[if_neg ag])).call (IH _ _ _ _ _ _ H.sx ae) ?_;intro a k2 v w2 H q V;obtain⟨t2,x2,rfl⟩:=V.iface;have l2:=df (T:=(Pu.bH s 0)) n _ _ _ q;go_wp2_with fail
 cases hm:aU (tk (ja s 0) k2) rS
 .exact T8
 .refine(H.re<|pd hm).Ce hm ?_;intro w3 H;go_wp2_with fail;refine H.call (IH _ _ _ _ _ _ H.sx ae) ?_;intro b k4 v w4 H q V;obtain⟨t4,x4,rfl⟩:=V.iface;go_wp2_with fail;refine H.take ?_;intro w5 H;go_wp2_with fail;refine H.since ?_;intro w6 H
  go_wp2
  go_ret;exact H.done λ⟨⟨_,A⟩,B⟩=>.pr _ _ _ _ _ _ _ _ _ _ _ A B
def aje(hs:s.size<=1000)(IH:ZL s n)(h:SX w N rb sb m s k)(hn:(ja s 0).length<=k+1+n):Tab N rb sb m s PT (Dj s n) 1 sb w k:=by
 have ho:=eX s k h.lt;have ht:=tn s k h.lt;refine⟨smL rb,h.ev.sm,?_⟩
 cases hb:aF (tk (ja s 0) k) 1
 .exact .inr ⟨rfl,Zi ho h.ok hb⟩
 .refine .inl ⟨rfl,.inl ⟨_,ac9 ho h.ok hb,Zh _,λW hW=>?_⟩⟩;have h:=h.af hW;rw[fid];by_cases h3:(tk (ja s 0) k).kind=3
  .rw[if_pos h3,show Dj s n k=_ from wj (j5 h3)];refine(UO h.rd hs ht h3 ho).mono λe w' q=>q.x h ae ?_;rw[show b_ (tk (ja s 0) k)=.mk 16 (tk (ja s 0) k).text 0 [] (tk (ja s 0) k).al (tk (ja s 0) k).to (tk (ja s 0) k).al by rw[b_,bI,eO];simp[h3]];exact .var _ _ _ _ _ _ _ (ho.v3 h3) rfl (by rw[afd s k h.lt])
  rw[if_neg h3];by_cases h2:(tk (ja s 0) k).kind=2
  .rw[if_pos h2,show Dj s n k=_ from wj (j6 h2)];refine(Ob h.rd hs ht h2).mono λe w' q=>q.x h ae ?_;rw[show b_ (tk (ja s 0) k)=.mk 2 (tk (ja s 0) k).text 0 [] (tk (ja s 0) k).al (tk (ja s 0) k).to (tk (ja s 0) k).al by rw[b_,bI,eO];simp[h2]];exact .up _ _ [] _ _ _ _ _ _ _ none 0 (λ_=>Zv) (ho.v2 h2) (j5 rfl) (λi hi=>by simp at hi) rfl (by rw[afd s k h.lt])
  rw[if_neg h2];rw[uK ho]at hb;exact JQ hs IH h hn (by simpa[h2,h3]using hb)
def Om(hs:s.size<=1000)(hT:(ja s 0).length<=1001)(IH:ZL s n):ZL s (n+1):=by
 intro w N rb sb m k h hn;have sl:mY (Dj s n):=cH (df (T:=(Pu.bH s 0)) n) (df n) 1;refine cI.Ae (mm:=iY (Pu.bH s 0) (Dj s n) 1) (g:=oK (Pu.bH s 0) (gP (Pu.bH s 0) n) (tk (Pu.bH s 0) k).al) h rfl λH=>?_;have⟨c,f,z⟩:=h.bx;go_enter func140,ntmps140;go_wp2_with fail;refine H.call (ZI (R:=PT) hs hT (.inr ⟨rfl,rfl,rfl⟩) PT.iface (λ_ _ _ _ _ _ h a b c=>h.move a b c) sl (λw k' S l=>aje hs IH S ae) h RowV.pt) ?_ (st:=λa=>wo _ _ _ a);intro a k2 v w1 H q V;obtain⟨tv,xv,rfl⟩:=V.iface;have l2:=uQ sl 1 _ _ _ q;clear V q;go_wp2_with fail
 cases hc:aU (tk (ja s 0) k2) rG
 .refine H.Ff hc ?_;have H:=H.re (g':=λk=>.ok (a,k)) (by rw[oK];rw[hc];rfl)
  go_wp2
  go_ret;exact H.done λh=>h.2
 .refine(H.re (g':=aK qT λ_=>aK (gP (ja s 0) n) λb k'=>.ok (.mk 17 eW 0 [a,b] (tk (ja s 0) k).al (aG (ja s 0) k') (tk (ja s 0) k).al,k')) (by rw[oK];rw[if_pos hc];rfl)).Ce hc ?_;intro w3 H;go_wp2_with fail;refine H.call (IH _ _ _ _ _ _ H.sx ae) ?_;intro b k4 v w4 H q V;obtain⟨t4,x4,rfl⟩:=V.iface;go_wp2_with fail;refine H.since ?_;intro w5 H
  go_wp2
  go_ret;exact H.done λ⟨⟨_,A⟩,B⟩=>.fn _ _ _ _ _ _ _ _ _ _ _ A B
def ZM(hs:s.size<=1000)(hT:(ja s 0).length<=1001):∀n,ZL s n
 |0=>λw N rb sb m k h hn=>by have:=h.lt;omega|n+1=>Om hs hT<|ZM hs hT n
def adm(hs:s.size<=1000)(hT:(ja s 0).length<=1001)(h:SX w N rb sb m s k)(hn:(ja s 0).length<=k+n):Cq 140 #[rp rb] w (ap PT N rb sb m s (gP (ja s 0) n k) w):=ZM hs hT n _ _ _ _ _ _ h hn
end
abbrev smP s n:=aH (ja s 0) (dv (ja s 0) n) (lO<|ja s 0) 2
section
variable {m:MV}
def SX.plain(h:SX w N rb sb m s k){b}(hb:m.d=Mv b):∃x,Bx w x #[rp rb]/\MS jv w b (rN rb x):=by
 have⟨x,hx,b',e,_,_,hM⟩:=h.ev.mp.pl;rw[hb]at e
 cases e
 exact⟨x,hx.2.2,hM⟩
def alF(hs:s.size<=1000)(IH:Cd s n)(h:SX w N rb sb m s k)(hn:(ja s 0).length<=k+1+n){b}(hb:m.d=Mv b):Tab N rb sb m s PP (smP s n) 2 b w k:=by
 have⟨x,hx,hM⟩:=h.plain hb;refine⟨_,hM,?_⟩
 cases hc:aF (tk (ja s 0) k) 2
 .exact .inr ⟨rfl,ZD h hc x⟩
 .exact .inl ⟨rfl,(UT hs IH h hn hc hx).imp id λ⟨f,h⟩=>⟨f,x,h⟩⟩
end
section
variable {m:MV}
def SX.md(h:SX w N rb sb m s k):∃b,m.d=Mv b:=by
 have⟨x,_,b,e,_⟩:=h.ev.mp.pl;exact⟨b,e⟩
def RowV.up{P}{L}{v}(h:RowV (Q1 PP) 1 w P L v)s n f t a y(hu:od s)(hy:y=a+s.size):PP w P (.mk 2 s n L f t a) (.iface 263<|.agg #[Nv f,Nv t,Nv a,Nv y,.string s,v]):=by
 obtain⟨va,vc,cs,rfl,aO,hr⟩:=h;refine .up s n L f t a y va vc (λi=>cs i 0) hu hy ?_ hr;obtain h0|⟨g,h1,h2,h3,h4⟩:=aO
 .exact j5 h0
 .grind
def Gr(hs:s.size<=1000)(hT:(ja s 0).length<=1001)(IH:Cd s n):Cd s (n+1):=by
 intro w N rb sb m k h hn;have⟨b,hb⟩:=h.md;exact ZI (R:=PP) hs hT (.inl ⟨rfl,rfl,hb⟩) PP.iface (λ_ _ _ _ _ _ h a b c=>h.move a b c) (cH (ph (T:=(ja s 0)) n) nM 2) (λw k' S l=>alF hs IH S ae hb) h λhu hy h=>h.up _ _ _ _ _ _ hu hy
def DP(hs:s.size<=1000)(hT:(ja s 0).length<=1001):∀n,Cd s n
 |0=>λw N rb sb m k h hn=>by have:=h.lt;omega|n+1=>Gr hs hT<|DP hs hT n
end
section
variable {m:MV}
def ad1{n}(hs:s.size<=1000)(hT:(ja s 0).length<=1001)(IH:fA s n)(h:SX w N rb sb m s k)(hn:(ja s 0).length<=k+1+n)(ho:aU (tk (ja s 0) k) nC=true):
 Cq 91 #[rp rb] w (ap PE N rb sb m s (aH (ja s 0) (bq (ja s 0) n) (gP (ja s 0) n) 3 k) w):=by
 have W5:=h_;have Zy:=kL;refine cI.Ae h (uO ho) λH=>?_;go_enter func91,ntmps91;go_wp2_with fail;refine H.take ?_;intro w1 H;go_wp2_with fail
 cases hc:aU (tk (ja s 0)<|k+1) lS
 .refine H.Ff hc ?_;go_wp2_with fail;refine(H.re<|Ad hc).expr IH ?_;intro a k2 t2 x2 w2 H l2;go_wp2_with fail
  cases hm:aU (tk (ja s 0) k2) rS
  .refine H.Ff hm ?_;go_wp2_with fail
   cases hl:aU (tk (ja s 0) k2) Fc
   .refine H.Ff hl ?_;go_wp2_with fail;refine(H.re<|wE hm λ_=>hl).take ?_;intro w5 H
    go_wp2
    go_ret;exact H.done λ⟨_,A⟩=>A
   .refine(H.re<|JK hm hl).Ce hl ?_;intro w3 H;go_wp2_with fail;refine H.call (adm hs hT H.sx ae) ?_;intro b k4 v4 w4 H _ V;obtain⟨t4,x4,rfl⟩:=V.iface;go_wp2_with fail;refine H.take ?_;intro w5 H;go_wp2_with fail;refine H.since ?_;intro w6 H
    go_wp2
    go_ret;exact H.done λ⟨⟨_,A⟩,B⟩=>.of _ _ _ _ _ _ _ _ _ A B
  .refine(H.re<|pd hm).Ce hm ?_;intro w3 H;go_wp2_with fail;refine H.expr IH ?_;exact QY
 .exact QX
def Lq(hs:s.size<=1000)(hT:(ja s 0).length<=1001)(IH:fA s n)(h:SX w N rb sb m s k)(hn:(ja s 0).length<=k+1+n)(hb:aF (tk (ja s 0) k) 3=true){x:Nat}(hx:Bx w x #[rp rb]):
 (∃f,a_ (aq<|tk (ja s 0) k) (tq rb x)=some (oZ f rb)/\(∀args w,(callFunc f args).run jy w=.ok (.enter f args) w)/\∀W,Bq w W->Cq f #[rp rb] W (ap PE N rb sb m s (aH (ja s 0) (bq (ja s 0) n) (gP (ja s 0) n) 3 k) W))\/
 (∃f,a_ (aq<|tk (ja s 0) k) (tq rb x)=some (nF f x)/\(∀args w,(callFunc f args).run jy w=.ok (.enter f args) w)/\∀W,Bq w W->Cq f #[Pv x] W (ap PE N rb sb m s (aH (ja s 0) (bq (ja s 0) n) (gP (ja s 0) n) 3 k) W)):=by
 have ho:=eX s k h.lt;obtain hk|hk|hk|hk|hk|⟨h9,hk⟩|hk:=tD ho aB hb
 .refine j6 ⟨83,by rw[jH hk];rfl,λ_ _=>qkr,?_⟩;rw[cy hb<|pX ae _];exact λW hW=>(Zu (h.af hW) hs hk x<|hx.below hW).1
 .refine j5 ⟨85,by rw[im hk];rfl,λ_ _=>qkr,?_⟩;rw[cy hb<|pX ae _];exact λW hW=>(aff (h.af hW) hs hk).1
 .refine j6 ⟨86,by rw[jI hk];rfl,λ_ _=>qkr,?_⟩;rw[cy hb<|pX ae _];exact λW hW=>(Zw (h.af hW) hs hk x<|hx.below hW).1
 .refine j6 ⟨88,qBk,λ_ _=>qkr,?_⟩;rw[cy hb<|tE hk qAp];exact λW hW=>(yp (h.af hW) hs (j5 hk) x<|hx.below hW).1
 .refine j6 ⟨90,qBk,λ_ _=>qkr,?_⟩;rw[cy hb<|tE hk qAp];exact λW hW=>(yp (h.af hW) hs (j6 hk) x<|hx.below hW).2.1
 .omega
 .refine j5 ⟨91,qBk,λ_ _=>qkr,λW hW=>ad1 hs hT IH (h.af hW) hn hk⟩
def SO(h:SX w N rb sb m s k)(hb:aF (tk (ja s 0) k) 3=false)x:a_ (aq<|tk (ja s 0) k) (tq rb x)=none:=by
 have ho:=eX s k h.lt;have⟨n1,n2,n4,nt,nf,na,no⟩:=wG aB hb;obtain h'|h'|h'|h'|h'|h'|h':=ho.kd
 .exact absurd h' n1
 .exact absurd h' n2
 .rw[iq h'];rfl
 .exact absurd h' n4
 .rw[pU h'];have hz:=ho.s5 h';have qN:∀c:BA,5<c.size->c≠(tk (ja s 0) k).text:=λc hc e=>by rw[e]at hc;omega
  refine Fg λp hp=>?_;simp only[tq,ql,qk,or_false]at hp;obtain rfl|rfl|rfl|rfl|rfl|rfl:=hp
  .exact qN E9 aB
  .exact qN Jq aB
  .exact qN Oc aB
  .exact rT h' nt
  .exact rT h' nf
  .exact rT h' no
 .exact absurd h' h.ok
 .rw[jJ h'];rfl
def alI(hs:s.size<=1000)(hT:(ja s 0).length<=1001)(IH:fA s n)(h:SX w N rb sb m s k)(hn:(ja s 0).length<=k+1+n){b x:Nat}(hM:MS jv w b (tq rb x))(hx:Bx w x #[rp rb]):Tab N rb sb m s PE (aH (ja s 0) (bq (ja s 0) n) (gP (ja s 0) n) 3) 3 b w k:=by
 refine⟨_,hM,?_⟩
 cases hc:aF (tk (ja s 0) k) 3
 .exact .inr ⟨rfl,SO h hc x⟩
 .exact .inl ⟨rfl,(Lq hs hT IH h hn hc hx).imp id λ⟨f,h⟩=>⟨f,x,h⟩⟩
def VQ(hs:s.size<=1000)(hT:(ja s 0).length<=1001)(IH:fA s n)(h:SX w N rb sb m s k)(hn:(ja s 0).length<=k+1+n){b x:Nat}(hM:MS jv w b (tq rb x))(hx:Bx w x #[rp rb]):
 Cq 144 #[rp rb,Mv b] w (ap PE N rb sb m s (aH (ja s 0) (bq (ja s 0) n) (gP (ja s 0) n) 3 k) w):=afh (.inr<|.inr ⟨rfl,rfl⟩) PE.iface h<|alI hs hT IH h hn hM hx
def SX.atom(h:SX w N rb sb m s k){b:Nat}(hb:m.c=Mv b):∃x,Bx w x #[rp rb]/\MS jv w b (tq rb x):=by
 have⟨x,hx,b',e,_,_,hM⟩:=h.ev.mp.at_;rw[hb]at e
 cases e
 exact⟨x,hx.2.2,hM⟩
def SX.mc(h:SX w N rb sb m s k):∃b,m.c=Mv b:=by
 have⟨x,_,b,e,_⟩:=h.ev.mp.at_;exact⟨b,e⟩
end
abbrev yF s n:=aH (ja s 0) (bq (ja s 0) n) (gP (ja s 0) n) 3
def SQ N rb sb m s k w r(g:Nat->Nd->M Nd)gk v wr:=
 ∃(kr:Nat)(nd:Nd)(f:Nat),cI N rb sb m s r w rb #[] (g f nd) (λw'=>PE w' (λb=>w.heap.size<=b) nd v) kr wr/\Hid (gk=(ja s 0).length-kr)/\k<kr/\(ja s 0).length<=kr+f
def below_drewN w q:Below n w (w.drewN q):=⟨rfl,rfl,rfl,br _,λ_ _=>rfl⟩
def abh{x:Nd}(h:aF (tk T k) 3=true):gp T sm fr (f+1) x k=aK sm (λy k'=>gp T sm fr f (.mk 8 eW 0 [x,y] fr (aG T k') fr) k') k:=by
 show(if aF (tk T k) 3=true then _ else _)=_;rw[if_pos h]
def VR{x:Nd}(h:aF (tk T k) 3=false):gp T sm fr f x k=.ok (x,k):=by
 cases f with
 |zero=>rfl|succ f=>unfold gp;rw[h];rfl
section
variable {m:MV}
def ahw(hs:s.size<=1000)(hT:(ja s 0).length<=1001)(IH:fA s n)(h:SX w N rb sb m s k)(hn:(ja s 0).length<=k+1+n):
 Cq 105 #[rp rb] w (ap PE N rb sb m s (cO (ja s 0) (yF s n) k) w):=by
 have⟨b,hmc⟩:=h.mc;have⟨x,hx,hM⟩:=h.atom hmc;obtain⟨r,hr⟩:∃r,r=cO (Pu.bH s 0) (yF s n) k:=⟨_,rfl⟩;rw[<-hr];refine cI.Ae (g:=gp (Pu.bH s 0) (yF s n) (tk (Pu.bH s 0) k).al (Pu.bH s 0).length) h hr λH=>?_;clear hr;have⟨c,ff,z⟩:=h.bx;go_enter func105,ntmps105;go_wp2_with fail;refine H.call (VQ hs hT IH h hn hM hx) ?_;intro a k1 v0 w1 H q V;obtain⟨t0,x0,rfl⟩:=V.iface;have l1:=cH (u_ (T:=(Pu.bH s 0)) n) (df n) 3 _ _ _ q;clear hx hM c ff z V q
 go_wp2
 go_loopg[4] ((ja s 0).length-k1) (λgk v wr=>SQ N rb sb m s k w r (λf nd=>gp (ja s 0) (yF s n) (tk (ja s 0) k).al f nd) gk v wr)
 case atStart=>exact⟨k1,a,_,H.imp λ_ h=>h.2,ai rfl,l1,ae⟩
 case round=>
  clear H;obtain⟨kr,nd,f,H,dl,hle,hfu⟩:=hrel;have⟨x,hx,hM⟩:=H.sx.atom hmc;have hl:=λq=>eJ (hM.same (w':=wr.drewN q) rfl) Tryz.underlying145 (tG _)<|aq<|tk (ja s 0) kr;have Cu:=eJ hM Tryz.underlying145 (tG _)<|aq<|tk (ja s 0) kr;have ZG:=H.sx.lt;obtain⟨tv,xv,rfl⟩:=H.p.iface;have⟨c,ff,z⟩:=H.sx.bx
  cases hb:aF (tk (ja s 0) kr) 3
  .simp only[SO H.sx hb x,lC]at hl Cu
   go_wp2
   go_quiet(fail)
   go_wp2
   go_ret;exact(H.af<|below_drewN _ nq).done id (VR hb)
  .obtain⟨f,rfl⟩:∃f',f=f'+1:=⟨f-1,ae⟩;obtain⟨F,hg,ZE,HC⟩|⟨F,hg,ZE,HC⟩:=Lq hs hT IH H.sx ae hb hx
   all_goals(
    simp only[hg,lC]at hl Cu;clear hg
    go_wp2
    go_quiet(fail);go_wp2_with fail;refine((H.af<|below_drewN _ nq).re<|abh hb).call (HC _<|below_drewN _ nq) ?_;intro a k2 v1 w1 H q V;obtain⟨t1,x1,rfl⟩:=V.iface;have l2:=cH (u_ (T:=(ja s 0)) n) (df n) 3 _ _ _ q;clear HC ZE c ff z hl Cu hM hx V q;go_wp2_with fail;refine H.since ?_;intro w2 H
    go_wp2
    go_roundg((ja s 0).length-k2)
    case measure=>rw[uh dl];omega
    case rel=>exact⟨k2,_,f,(H.re rfl).imp λ_ h=>PE.call _ _ _ _ _ _ _ _ _ h.1 h.2,ai rfl,ae,ae⟩)
end
def opM(T:List jc)(sub:M Nd)(op:BA)(fr:Nat)(x:Nd):M Nd:=λk=>aK sub (λy k'=>.ok (.mk 7 op 0 [x,y] fr (aG T k') fr,k'))<|k+1
def ahx{sub}{op}{x:Nd}:opM T sub op fr x k=aK qT (λ_=>aK sub<|λy k'=>.ok (.mk 7 op 0 [x,y] fr (aG T k') fr,k')) k:=rfl
def anq{sub}{x:Nd}(h:aU (tk T k) fc=true):iX T sub fr (f+1) x k=aK (opM T sub fc fr x) (iX T sub fr f) k:=by
 show(if aU (tk T k) fc=true then _ else _)=_;rw[if_pos h];unfold opM aK;dsimp only
 cases sub (k+1)<;>rfl
def VS{sub}{x:Nd}(h:aU (tk T k) fc=false):iX T sub fr f x k=.ok (x,k):=by
 cases f with
 |zero=>rfl|succ f=>unfold iX;rw[h];rfl
def SR{sub}{x:Nd}(h:aU (tk T k) gh=true\/aU (tk T k) dE=true):qD T sub fr (f+1) x k=aK (opM T sub (tk T k).text fr x) (qD T sub fr f) k:=by
 show(if aU (tk T k) gh=true\/aU (tk T k) dE=true then _ else _)=_;rw[if_pos h];unfold opM aK;dsimp only
 cases sub (k+1)<;>rfl
def abj{sub}{x:Nd}(h:aU (tk T k) gh=false)(h':aU (tk T k) dE=false):qD T sub fr f x k=.ok (x,k):=by
 cases f with
 |zero=>rfl|succ f=>unfold qD;rw[h,h'];rfl
def yG(h:aU t c=true):t.text=c:=by grind[aU,afg]
def PEo(P:Nat->Prop)w(Q:Nat->Prop)a v:=PE w (λb=>P b\/Q b) a v
def ahy a b c d w:(Instr.field 141 (.agg #[a,b,c,d]) 2).run jy w=.ok d w:=qkr
section
variable {m:MV}
def O6 s n F(sub:M Nd):=∀(w:World)(N rb sb:Nat)(m:MV)(k:Nat),SX w N rb sb m s k->(ja s 0).length<=k+1+n->Cq F #[rp rb] w (ap PE N rb sb m s (sub k) w)
def ajT{sub}(hs:s.size<=1000)(HF:O6 s n F sub)(ZE:∀args w,(callFunc F args).run jy w=.ok (.enter F args) w)(jQ:aS (ja s 0) sub)(h:SX w N rb sb m s k)(hn:(ja s 0).length<=k+1+n)(EB:(tk (ja s 0) k).text=gh\/(tk (ja s 0) k).text=dE\/(tk (ja s 0) k).text=fc\/(tk (ja s 0) k).text=dL)(h7:(tk (ja s 0) k).kind≠7)fr{x}(hx:gW w N rb x #[rp rb])(hy:gW w N rb y #[oZ F rb])(hP:∀b,P b->b≠rb){v}(hv:PE w P nd v):
 Cq 142 #[Nv fr,v,Pv x,Pv y] w (ap (PEo P) N rb sb m s (opM (ja s 0) sub (tk (ja s 0) k).text fr nd k) w):=by
 have Zy:=ahy;obtain⟨tv,xv,rfl⟩:=hv.iface;refine cI.Ae h ahx λH=>?_;have H:=((H.add λw' a q=>hx.2.2.same a<|q x hx.2.2.z hx.2.1 hx.2.1).add λw' a q=>hy.2.2.same a<|q y hy.2.2.z hy.2.1 hy.2.1).add λw' a q=>hv.move a (λb p z=>q b z (hP b p)<|hP b p) λ_ p _=>p;clear hx hy hv;have⟨⟨⟨_,c0,f0,z0⟩,c1,f1,z1⟩,_⟩:=H.p;go_enter func142,ntmps142;go_wp2_with fail;refine H.call (Zs h hs h7) ?_;intro _ _ _ w1 H q V
 cases V
 cases q
 have⟨⟨⟨⟨_,c0,f0,z0⟩,c1,f1,z1⟩,_⟩,_⟩:=H.p;go_wp2_with fail;refine H.call (HF _ _ _ _ _ _ H.sx ae) ?_;intro a k2 v2 w2 H q V;obtain⟨t2,x2,rfl⟩:=V.iface;clear V q;have⟨⟨⟨⟨⟨_,c0,f0,z0⟩,_⟩,_⟩,_⟩,_⟩:=H.p;go_wp2_with fail;refine H.since ?_;intro w3 H
 go_wp2
 go_ret;exact H.done λ⟨⟨⟨_,A⟩,_⟩,B⟩=>.op _ _ _ _ _ _ _ _ _ EB (A.wide λb p=>j5 p)<|B.wide λb p=>j6 p
def cI.op{sub}{op}{fr}{nd}{r}{w0}{C}{P}{g}{f}{args}{post}(H:cI N rb sb m s r w0 rb C (aK (opM (ja s 0) sub op fr nd) g) P k w)(AU:mY sub)(hC:Cq f args w (ap (PEo<|λb=>w0.heap.size<=b) N rb sb m s (opM (ja s 0) sub op fr nd k) w))(ok:∀a k' t x w',cI N rb sb m s r w0 rb C (g a) (λw'=>PE w' (λb=>w0.heap.size<=b) a<|.iface t<|.agg x) k' w'->k<k'->post (.returned<|.iface t<|.agg x) w')(st:∀a,aS (ja s 0)<|g a:=by exact Zx)(bad:∀f' w',ap PE N rb sb m s r w0 (bU f') w'->post (bU f') w':=by exact λ_ _ h=>⟨rfl,h⟩):Cq f args w post:=
 hC.mono λe w' hp=>by
  cases hA:fin (ja s 0) (opM (ja s 0) sub op fr nd k)with
  |error f=>obtain⟨rfl,h⟩:=H.lost hp hA st;exact bad _ _ h
  |ok p=>
   obtain⟨a,j⟩:=p;obtain⟨v,rfl,hb,S,V⟩:=hp.ok hA;obtain⟨t,x,rfl⟩:=PE.iface V;refine ok _ _ t x w' (((H.mv hb S<|H.eq.trans<|nE hA).add λw2 a1 b1=>PE.move V a1 (λb p z=>?_) λb p _=>p.elim id λp=>jo H.ke.size p).imp λ_ h=>h.2) ?_
   .have h1:w0.heap.size<=b:=p.elim id λp=>jo H.ke.size p;have:=H.rz.1;exact b1 b z ae ae
   .have⟨_,j,h1,h2⟩:=aA (m:=sub) (k:=k+1) (uL hA).1
    cases h2
    have:=AU _ _ _ h1;omega
def tX(ho:gA t)(h6:t.kind≠6)(hL:∀p∈L,p.1.size<=5/\aU t p.1=false):a_ (aq t) L=none:=by grind[aU,a_,aq,Fg,tw]
def O7 w:(zeroValue 211).run jy w=.ok .nilFunc w:=qkr
def AV{b:Nat}{sub}{g:Nat->Nd->M Nd}(hs:s.size<=1000)(HF:O6 s n F sub)(hcF:∀args w,(callFunc F args).run jy w=.ok (.enter F args) w)(jQ:aS (ja s 0) sub)(AU:mY sub)(hg:∀f a,aS (ja s 0)<|g f a)(h:SX w N rb sb m s k)(hn:(ja s 0).length<=k+1+n)(hr:r=aK sub (g (ja s 0).length) k)(D:∀w k',SX w N rb sb m s k'->∃L,MS jv w b L/\((∃x y,gW w N rb x #[rp rb]/\gW w N rb y #[oZ F rb]/\a_ (aq<|tk (ja s 0) k') L=some (UP x y)/\(∃c,aU (tk (ja s 0) k') c=true/\(c=gh\/c=dE\/c=fc\/c=dL))/\∀f a,g (f+1) a k'=aK (opM (ja s 0) sub (tk (ja s 0) k').text (tk (ja s 0) k).al a) (g f) k')\/a_ (aq<|tk (ja s 0) k') L=none/\∀f a,g f a k'=.ok (a,k'))):
 Cq 143 #[rp rb,oZ F rb,Mv b] w (ap PE N rb sb m s r w):=by
 have hcO:∀args w,(callFunc 142 args).run jy w=.ok (.enter 142 args) w:=λ_ _=>qkr
 replace D:=ai D
 refine cI.Ae h hr λH=>?_;clear hr;have⟨c,ff,z⟩:=h.bx;go_enter func143,ntmps143;go_wp2_with fail;refine H.call (HF _ _ _ _ _ _ h hn) ?_ (st:=hg _);intro a k1 v0 w1 H q V;obtain⟨t0,x0,rfl⟩:=V.iface;have l1:=AU _ _ _ q;clear c ff z V q
 go_wp2
 go_loopg[8] ((ja s 0).length-k1) (λgk v wr=>SQ N rb sb m s k w r g gk v wr)
 case atStart=>exact⟨k1,a,_,H.imp λ_ h=>h.2,ai rfl,l1,ae⟩
 case round=>
  clear H;obtain⟨kr,nd,f,H,dl,hle,hfu⟩:=hrel;have⟨L,hM,Y⟩:=uh D _ _ H.sx;have hl:=eJ hM Tryz.underlying148 (O7 _)<|aq<|tk (ja s 0) kr;have ZG:=H.sx.lt;obtain⟨tv,xv,rfl⟩:=H.p.iface;have⟨c,ff,z⟩:=H.sx.bx;obtain⟨x,y,bx,yb,hq,⟨o,ho,hO⟩,E⟩|⟨hq,E⟩:=Y
  .obtain⟨f,rfl⟩:∃f',f=f'+1:=⟨f-1,ae⟩;simp only[hq,lC]at hl;have HC:=ajT hs HF hcF jQ H.sx ae (by rw[yG ho];exact hO) (Jy ho) (tk (ja s 0) k).al bx yb (P:=λb=>w.heap.size<=b) (λb p=>by have p':w.heap.size<=b:=p;have:=H.rz.1;omega) H.p;have H:=H.re<|E f nd;clear E ho hO;go_wp2_with fail;refine H.op AU HC ?_ (st:=hg _);intro a k2 t x w1 H l2;clear HC bx yb c ff z hl hM hq
   go_wp2
   go_roundg((ja s 0).length-k2)
   case measure=>rw[uh dl];omega
   case rel=>exact⟨k2,_,f,H,ai rfl,ae,ae⟩
  .simp only[hq,lC]at hl;have H:=H.re (g':=λk=>.ok (nd,k))<|E f nd;clear E
   go_wp2
   go_ret;exact H.done id
def O_{n}(hs:s.size<=1000)(hT:(ja s 0).length<=1001)(HF:O6 s n 105 (cO (ja s 0)<|yF s n))(jQ:aS (ja s 0) (cO (ja s 0)<|yF s n))(AU:mY (cO (ja s 0)<|yF s n))(h:SX w N rb sb m s k)(hn:(ja s 0).length<=k+1+n){b:Nat}(wH:m.h=Mv b):
 Cq 143 #[rp rb,oZ 105 rb,Mv b] w (ap PE N rb sb m s (eE (ja s 0) (cO (ja s 0)<|yF s n) k) w):=
 AV hs HF (λ_ _=>qkr) jQ AU (g:=iX (ja s 0) (cO (ja s 0)<|yF s n) (tk (ja s 0) k).al) (λf a=>o_ _ _ _ _) h hn rfl λw k' S=>by
  have⟨x0,y0,h0,g0,b',e,_,_,hM⟩:=S.ev.mp.pr;rw[wH]at e
  cases e
  refine⟨_,hM,?_⟩
  cases hb:aU (tk (ja s 0) k') fc
  .exact .inr ⟨tX (eX s k' S.lt) S.ok (by simp[hb];decide),λ_ _=>VS hb⟩
  .exact .inl ⟨x0,y0,h0,g0,by rw[gC hb];rfl,⟨_,hb,ag⟩,λf a=>by rw[yG hb];exact anq hb⟩
def VT{n}(hs:s.size<=1000)(hT:(ja s 0).length<=1001)(HF:O6 s n 104 (eE (ja s 0)<|cO (ja s 0)<|yF s n))(jQ:aS (ja s 0) (eE (ja s 0)<|cO (ja s 0)<|yF s n))(AU:mY (eE (ja s 0)<|cO (ja s 0)<|yF s n))(h:SX w N rb sb m s k)(hn:(ja s 0).length<=k+1+n){b:Nat}(wH:m.g=Mv b):
 Cq 143 #[rp rb,oZ 104 rb,Mv b] w (ap PE N rb sb m s (rE (ja s 0) (eE (ja s 0)<|cO (ja s 0)<|yF s n) k) w):=
 AV hs HF (λ_ _=>qkr) jQ AU (g:=qD (ja s 0) (eE (ja s 0)<|cO (ja s 0)<|yF s n) (tk (ja s 0) k).al) (λf a=>rP _ _ _ _) h hn rfl λw k' S=>by
  have⟨x0,y0,x1,y1,h0,g0,h1,g1,b',e,_,_,hM⟩:=S.ev.mp.sm;rw[wH]at e
  cases e
  refine⟨_,hM,?_⟩
  cases hb:aU (tk (ja s 0) k') gh
  .cases hc:aU (tk (ja s 0) k') dE
   .exact .inr ⟨tX (eX s k' S.lt) S.ok (by simp[hb,hc];decide),λ_ _=>abj hb hc⟩
   .exact .inl ⟨x1,y1,h1,g1,by rw[gC hc];rfl,⟨_,hc,ag⟩,λf a=>SR<|.inr hc⟩
  .exact .inl ⟨x0,y0,h0,g0,by rw[gC hb];rfl,⟨_,hb,ag⟩,λf a=>SR<|.inl hb⟩
def SX.hm(h:SX w N rb sb m s k):∃b,m.h=Mv b:=by
 have⟨x0,y0,h0,g0,b',e,_,_,hM⟩:=h.ev.mp.pr;exact⟨b',e⟩
def SX.gm(h:SX w N rb sb m s k):∃b,m.g=Mv b:=by
 have⟨x0,y0,x1,y1,h0,g0,h1,g1,b',e,_,_,hM⟩:=h.ev.mp.sm;exact⟨b',e⟩
end
section
variable {m:MV}
def Pa:mY (yF s n):=cH (u_ n) (df n) 3
def AW:aS (ja s 0) (yF s n):=nI _ _ _
def ad2(hs:s.size<=1000)(hT:(ja s 0).length<=1001)(IH:fA s n):O6 s n 105 (cO (ja s 0)<|yF s n):=λw N rb sb m k h hn=>ahw hs hT IH h hn
def abk{F1 F2 b}(h:SX w N rb sb m s k)(hF:F1=104/\F2=105/\m.h=Mv b\/F1=103/\F2=104/\m.g=Mv b)(HC:Cq 143 #[rp rb,oZ F2 rb,Mv b] w (ap PE N rb sb m s r w)):Cq F1 #[rp rb] w (ap PE N rb sb m s r w):=by
 have⟨c,ff,z⟩:=h.bx;obtain⟨rfl,rfl,wH⟩|⟨rfl,rfl,wH⟩:=hF
 all_goals(
  first
  |go_enter func104,ntmps104
  |go_enter func103,ntmps103
  go_wp2_with fail;refine HC.mono ?_;intro e w1 hp
  cases hA:fin (ja s 0) r with
  |error f'=>
   exact Rz
  |ok r=>
  obtain⟨a,k2⟩:=r;obtain⟨v,rfl,_,_,hR⟩:=hp.ok hA;obtain⟨tv,xv,rfl⟩:=hR.iface
  go_wp2
  go_ret
  exact hp)
def Pb(hs:s.size<=1000)(hT:(ja s 0).length<=1001)(IH:fA s n):O6 s n 104 (eE (ja s 0)<|cO (ja s 0)<|yF s n):=by
 intro w N rb sb m k h hn;have⟨b,wH⟩:=h.hm;exact abk h (.inl ⟨rfl,rfl,wH⟩)<|O_ hs hT (ad2 hs hT IH) (nJ AW) (tS Pa) h hn wH
def ahz(hs:s.size<=1000)(hT:(ja s 0).length<=1001)(IH:fA s n):O6 s n 103 (rE (ja s 0)<|eE (ja s 0)<|cO (ja s 0)<|yF s n):=by
 intro w N rb sb m k h hn;have⟨b,wH⟩:=h.gm;exact abk h (.inr ⟨rfl,rfl,wH⟩)<|VT hs hT (Pb hs hT IH) (rQ<|nJ AW) (AK<|tS Pa) h hn wH
def Gv(hs:s.size<=1000)(hT:(ja s 0).length<=1001)(IH:fA s n)(h:SX w N rb sb m s k)(hn:(ja s 0).length<=k+1+n):Cq 159 #[rp rb] w (ap PE N rb sb m s (oH (ja s 0) (rE (ja s 0)<|eE (ja s 0)<|cO (ja s 0)<|yF s n) k) w):=by
 have hcO:∀args w,(callFunc 142 args).run Tryz.prog w=.ok (.enter 142 args) w:=λ_ _=>qkr;have hcF:∀args w,(callFunc 103 args).run Tryz.prog w=.ok (.enter 103 args) w:=λ_ _=>qkr;have HF:=ahz (n:=n) hs hT IH;have jQ:aS (Pu.bH s 0) (rE (Pu.bH s 0)<|eE (Pu.bH s 0)<|cO (Pu.bH s 0)<|yF s n):=Di<|rQ<|nJ AW;have AU:mY (rE (Pu.bH s 0)<|eE (Pu.bH s 0)<|cO (Pu.bH s 0)<|yF s n):=Sg<|AK<|tS Pa;obtain⟨-,-,-,-,b,wH,-⟩:=h.ev.mp.cm;refine cI.Ae h (adh _ _) λH=>?_;have⟨c,ff,z⟩:=h.bx;go_enter func159,ntmps159;go_wp2_with fail;refine H.call (HF _ _ _ _ _ _ h hn) ?_ (st:=λa=>wC _ _ _);intro a k1 v0 w1 H q V;have l1:=AU _ _ _ q;obtain⟨x0,y0,bx0,by0,b',e,-,-,hM⟩:=H.sx.ev.mp.cm;rw[wH]at e
 cases e
 have hl:=λq=>eJ (hM.same (w':=w1.drewN q) rfl) Tryz.underlying148 (O7 _)<|aq<|tk (ja s 0) k1;have Cu:=eJ hM Tryz.underlying148 (O7 _)<|aq<|tk (ja s 0) k1;have ZG:=H.sx.lt;obtain⟨tv,xv,rfl⟩:=V.iface;clear V q;have⟨c,ff,z⟩:=H.sx.bx
 cases hb:aU (tk (ja s 0) k1) dL
 .have H:=H.re (g':=λk=>.ok (a,k)) (by rw[JI];rw[hb];rfl);simp only[tX (eX s k1 ZG) H.sx.ok (L:=[(dL,UP x0 y0)]) (by simp[hb];decide),lC]at hl Cu
  go_wp2
  go_quiet(fail)
  go_wp2
  go_ret;exact(H.af<|below_drewN _ nq).done λh=>h.2
 .have hg:a_ (aq<|tk (ja s 0) k1) [(dL,UP x0 y0)]=some (UP x0 y0):=by rw[gC hb];rfl
  simp only[hg,lC]at hl Cu;have H:=H.re (g':=aK (opM (ja s 0) (rE (ja s 0)<|eE (ja s 0)<|cO (ja s 0)<|yF s n) (tk (ja s 0) k1).text (tk (ja s 0) k).al a) λa k=>.ok (a,k)) (by rw[<-Fi,yG hb];rw[JI];rw[if_pos hb];rfl);have HC:=λq=>ajT hs HF hcF jQ (H.af<|below_drewN _ q).sx ae (by rw[yG hb];simp) (Jy hb) (tk (ja s 0) k).al (bx0.move (br _) λ_ _ _=>rfl) (by0.move (br _) λ_ _ _=>rfl) (P:=λb=>w.heap.size<=b) (λb p=>by have p':w.heap.size<=b:=p;have:=H.rz.1;omega) (H.af<|below_drewN _ q).p.2
  go_wp2
  go_quiet(fail);go_wp2_with fail;refine(H.af<|below_drewN _ nq).op AU (HC nq) ?_;intro a k2 t x w1 H _
  go_wp2
  go_ret;exact H.done id
end
section
variable {m:MV}
def rY(hs:s.size<=1000)(IH:fA s n)(h:SX w N rb sb m s k)(hn:(ja s 0).length<=k+1+n):
 Cq 79 #[rp rb] w (ap PE N rb sb m s (rF (ja s 0) (bq (ja s 0) n) k) w):=by
 have W5:=h_;have Zy:=kL;refine cI.Ae h rfl λH=>?_;go_enter func79,ntmps79;go_wp2_with fail;refine H.take ?_;intro w1 H;go_wp2_with fail;refine H.name ?_;intro t w2 H Ht;go_wp2_with fail;refine H.box.take ?_;intro w3 H;go_wp2_with fail;refine H.expr IH ?_;intro a k4 t4 x4 w4 H l4;have⟨⟨_,c,f,z⟩,_⟩:=H.p
 go_wp2
 go_region_with(go_at_call 133;refine H.drew.since ?_;intro w5 H;have⟨⟨_,c,f,z⟩,_⟩:=H.p)
 all_goals(
  go_wp2
  go_ret
  exact H.done λ⟨_,V⟩=>.fn _ _ _ _ _ _ _ _ Ht.1 Ht.2 V)
def abc(hs:s.size<=1000)(IH:fA s n)(h:SX w N rb sb m s k)(hn:(ja s 0).length<=k+1+n):
 Cq 81 #[rp rb] w (ap PE N rb sb m s (lz (ja s 0) (bq (ja s 0) n) k) w):=by
 have W5:=h_;have Zy:=kL;refine cI.Ae h rfl λH=>?_;go_enter func81,ntmps81;go_wp2_with fail;refine H.take ?_;intro w1 H;go_wp2_with fail;refine H.expr IH ?_;intro a k2 t2 x2 w2 H l2;go_wp2_with fail;refine H.take ?_;intro w3 H;go_wp2_with fail;refine H.expr IH ?_;intro b k4 t4 x4 w4 H l4;go_wp2_with fail;refine H.take ?_;intro w5 H;go_wp2_with fail;refine H.expr IH ?_;intro c k6 t6 x6 w6 H l6;go_wp2_with fail;refine H.since ?_;intro w7 H
 go_wp2
 go_ret;exact H.done λ⟨⟨⟨_,A⟩,B⟩,C⟩=>.ite _ _ _ _ _ _ _ _ _ _ _ A B C
end
def bindM T e:=λk=>
 if aU (tk T k) ZS=true then aK (cY T 1) (λt=>aK (bz T QE) λ_=>aK (rF T e) λe k'=>.ok ((11,t,e),k')) (k+1)
 else aK (cY T 1) (λt=>aK (bz T QE) λ_=>aK e λe k'=>.ok ((10,t,e),k')) k
def VM{e:M Nd}(h:aU (tk T k) ZS=true):bindM T e k=aK qT (λ_=>aK (cY T 1) λt=>aK (bz T QE) λ_=>aK (rF T e) λe k'=>.ok ((11,t,e),k')) k:=by rw[bindM];rw[if_pos h];rfl
def Lk{e:M Nd}(h:aU (tk T k) ZS=false):bindM T e k=aK (cY T 1) (λt=>aK (bz T QE) λ_=>aK e λe k'=>.ok ((10,t,e),k')) k:=by rw[bindM];rw[h];rfl
def Oi e:aS T (bindM T e):=λk h=>by
 rw[Lk<|eI h _];exact b8 (rO T 1 aB k h) λ_ q g=>by
  rw[aK];rw[show bz T QE q=.error (d_<|tk T q) by rw[bz];rw[eI g];rfl];rfl
def AR w P(b:Nat×jc×Nd)(v:Value):=
 ∃ve,v=.agg #[.bool<|b.1==11,Nv b.2.1.al,Nv b.2.1.to,.string b.2.1.text,ve]/\PE w P b.2.2 ve/\(b.1=10\/b.1=11)/\Cc b.2.1.text/\b.2.1.to=b.2.1.al+b.2.1.text.size
def Bx.alG{b:Nat}(h:Bx w b C)(hC:C.size=5)v0 v1 v2 v3 v4:Bx (((((w.setCell ⟨b,0,none⟩ v0).setCell ⟨b,1,none⟩ v1).setCell ⟨b,2,none⟩ v2).setCell ⟨b,3,none⟩ v3).setCell ⟨b,4,none⟩ v4) b #[v0,v1,v2,v3,v4]:=by
 obtain⟨a0,a1,a2,a3,a4,rfl⟩:∃a0 a1 a2 a3 a4,C=#[a0,a1,a2,a3,a4]:=by
  obtain⟨l⟩:=C
  match l,hC with
  |[a,b,c,d,e],_=>grind
 exact((((h.aR 0 v0 #[v0,a1,a2,a3,a4] rfl ag).aR 1 v1 #[v0,v1,a2,a3,a4] rfl ag).aR 2 v2 #[v0,v1,v2,a3,a4] rfl ag).aR 3 v3 #[v0,v1,v2,v3,a4] rfl ag).aR 4 v4 #[v0,v1,v2,v3,v4] rfl ag
section
variable {m:MV}
theorem AR.move{w w'}{P Q}{b}{v}(h:AR w P b v)(hs:w.heap.size<=w'.heap.size)(hb:∀b,P b->b<w.heap.size->w'.heap[b]? =w.heap[b]?)(hq:∀b,P b->b<w.heap.size->Q b):AR w' Q b v:=by
 obtain⟨ve,h1,h2,h3⟩:=h;exact⟨ve,h1,h2.move hs hb hq,h3⟩
def Ll{c}{tv}{xv}{g}{P:World->Prop}{r}{bb}(o:w.heap.size≠rb)(hc:(c==11)=bb)(Ht:Hid (Cc t.text/\t.to=t.al+t.text.size))(H:cI N rb sb m s r w w.heap.size D g (λw'=>P w'/\PE w' (λb=>w.heap.size<=b) a (.iface tv<|.agg xv)) k' w')(hD:D.size=5)(hg:g k'=.ok ((c,t,a),k'))(h1:c=10\/c=11):∃W,W=(((((w'.setCell ⟨w.heap.size,0,none⟩<|.bool bb).setCell ⟨w.heap.size,1,none⟩<|Nv t.al).setCell ⟨w.heap.size,2,none⟩<|Nv t.to).setCell ⟨w.heap.size,3,none⟩<|.string t.text).setCell ⟨w.heap.size,4,none⟩<|.iface tv<|.agg xv)/\
 Bx W w.heap.size #[.bool bb,Nv t.al,Nv t.to,.string t.text,.iface tv<|.agg xv]/\ap AR N rb sb m s r w (.returned<|.agg #[.bool bb,Nv t.al,Nv t.to,.string t.text,.iface tv<|.agg xv]) W:=by
 have B:=(H.bo o).alG hD (.bool bb) (Nv t.al) (Nv t.to) (Sv t.text)<|Fv tv<|Av xv;subst hc;exact⟨_,rfl,B,(H.put o B<|cR<|cR<|cR<|cR<|cR ⟨rfl,rfl,rfl,rfl,λ_ _=>rfl⟩).done (λV=>⟨_,rfl,V.2,h1,Ht.1,Ht.2⟩) hg⟩
def DQ(hs:s.size<=1000)(IH:fA s n)(h:SX w N rb sb m s k)(hn:(ja s 0).length<=k+n):
 Calls jy 134 #[rp rb] w (ap AR N rb sb m s (bindM (ja s 0) (bq (ja s 0) n) k) w):=by
 have W5:=h_;have Zy:=kL;have hcE:∀args w,(callFunc 135 args).run jy w=.ok (.enter 135 args) w:=λ_ _=>qkr;have hcF:∀args w,(callFunc 79 args).run jy w=.ok (.enter 79 args) w:=λ_ _=>qkr;have o:w.heap.size≠rb:=by have:=h.z;omega
 cases hc:aU (tk (ja s 0) k) ZS
 .refine cI.Ae h (Lk hc) λH=>?_;go_enter func134,ntmps134;go_wp2_with fail;refine H.own.Ff hc ?_;go_wp2_with fail;refine H.own.name ?_;intro t w2 H Ht;go_wp2_with fail;refine H.box.take ?_;intro w3 H;go_wp2_with fail;have⟨_,c1,f1,z1⟩:=H.p;have⟨c2,f2,z2⟩:=H.bo o
  cases hA:fin (ja s 0) (bq (ja s 0) n<|k+1+1)with
  |error f'=>
   go_region_dies
   all_goals(refine(IH _ _ _ _ _ _ H.drew.sx ae).mono ?_;intro e w5 hp;obtain⟨rfl,hb⟩:=H.drew.lost (R':=AR) hp hA;exact⟨rfl,hb⟩)
  |ok rr=>
  obtain⟨a,k4⟩:=rr;go_region_with(go_at_call 135;refine(IH _ _ _ _ _ _ H.drew.sx ae).mono ?_;intro e w5 hp;obtain⟨v,rfl,H,V⟩:=H.drew.a_ hp hA;obtain⟨tv,xv,rfl⟩:=V.iface;have⟨⟨_,c1,f1,z1⟩,_⟩:=H.p;have⟨c2,f2,z2⟩:=H.bo o;clear hp V)
  all_goals(
   go_wp2_with fail;obtain⟨_,rfl,⟨cF,fF,zF⟩,h⟩:=Ll (c:=10) (bb:=false) o rfl Ht H rfl rfl (.inl rfl)
   exact bodyPost_ret (by simp[results,jz,go_sem,cF]) rfl h)
 .refine cI.Ae h (VM hc) λH=>?_;go_enter func134,ntmps134;go_wp2_with fail;refine H.own.Ce hc ?_;intro w1 H;go_wp2_with fail;refine H.name ?_;intro t w2 H Ht;go_wp2_with fail;refine H.box.take ?_;intro w3 H;go_wp2_with fail;have⟨_,c1,f1,z1⟩:=H.p;have⟨c2,f2,z2⟩:=H.bo o
  cases hA:fin (ja s 0) (rF (ja s 0) (bq (ja s 0) n)<|k+1+1+1)with
  |error f'=>
   go_region_dies
   all_goals(refine(rY hs IH H.drew.sx ae).mono ?_;intro e w5 hp;obtain⟨rfl,hb⟩:=H.drew.lost (R':=AR) hp hA;exact⟨rfl,hb⟩)
  |ok rr=>
  obtain⟨a,k4⟩:=rr;go_region_with(go_at_call 79;refine(rY hs IH H.drew.sx ae).mono ?_;intro e w5 hp;obtain⟨v,rfl,H,V⟩:=H.drew.a_ hp hA;obtain⟨tv,xv,rfl⟩:=V.iface;have⟨⟨_,c1,f1,z1⟩,_⟩:=H.p;have⟨c2,f2,z2⟩:=H.bo o;clear hp V)
  all_goals(
   go_wp2_with fail;obtain⟨_,rfl,⟨cF,fF,zF⟩,h⟩:=Ll (c:=11) (bb:=true) o rfl Ht H rfl rfl (.inr rfl)
   exact bodyPost_ret (by simp[results,jz,go_sem,cF]) rfl h)
end
end
end Go.Proofs.YtnldmeakhapdhaaGreatDoor

import Derived.Test.YtfnkchdeheeiiaaGreatDoorCBo
import Derived.Test.YtfnkchdeheeiiaaGreatDoorCXx
import Derived.Test.YtfnkchdeheeiiaaGreatDoorCXu
set_option linter.all false
set_option maxRecDepth 100000
set_option maxHeartbeats 4000000
namespace Go.Proofs.YtfnkchdeheeiiaaGreatDoor
open Pu renaming Tok->ja,bC->jc,cN->jd,dT->jf,mE->jh,aZ->ji,gu->jj,at_->jk,Aq->jl,gI->jm,k9->jo
open _root_.List renaming mem_cons->jp,mem_append->jq,append_nil->jt,not_mem_nil->ju
open Or renaming inr->jv,inl->jx
open Bool renaming and_eq_true->jy
open _root_.Nat renaming not_lt_zero->jz,le_of_lt->j3,le_succ->j5
open Go.RowKit.Below renaming refl->j6
open Go Go.RowKit Proofs.Tryz
variable {s:BA} {o:Except In.Ft (Un.Ty×In.St)} {Γ:In.Env} {mk mks:In.Mks} {σ:In.St} {nl:List BA} {l:List Nat} {part sm DO:M Nd} {a f i j k n t v:Nat} {e x y:Nd} {α β:Type} {B T b:Un.Ty}
def Zg(s:BA):=∃x r,s.toList=x::r/\jm x.toNat=true/\(∀y∈r,ji y.toNat=true)/\Pu.fI ⟨(x::r).toArray⟩=false
def NmV(s:BA):=∃x r,s.toList=39::x::r/\jm x.toNat=true/\(∀y∈r,ji y.toNat=true)/\Pu.fI ⟨(x::r).toArray⟩=false
structure ad3(t:ja):Prop where
 low:t.kind=1->Zg t.text
 up:t.kind=2->DP t.text
 var:t.kind=3->NmV t.text
 num:t.kind=4->wQ t.text<1000000000
 sz:t.text.size<=400
structure ew T e:Prop where
 en:(tk T e).kind=7
 tok:∀k,ad3<|tk T k
 pos:0<T.length
inductive si:Nd->Prop where
 |var(s:BA)(n f t a:Nat):NmV s->s.size<=400->n=0->si (.mk 16 s n [] f t a)
 |up(s:BA)(n:Nat)(L:List Nd)(f t a:Nat):DP s->s.size<=400->n=0->(∀x∈L,si x)->si (.mk 2 s n L f t a)
 |pr(x y:Nd)(f t a:Nat):si x->si y->si (.mk 6 iq 0 [x,y] f t a)
 |fn(x y:Nd)(f t a:Nat):si x->si y->si (.mk 17 iq 0 [x,y] f t a)
inductive wR:Nd->Prop where
 |any(s:BA)(f t a:Nat):s.size<=400->wR (.mk 15 s 0 [] f t a)
 |low(s:BA)(f t a:Nat):Zg s->s.size<=400->wR (.mk 1 s 0 [] f t a)
 |num(s:BA)(n f t a:Nat):n<1000000000->s.size<=400->wR (.mk 3 s n [] f t a)
 |word(s:BA)(f t a:Nat):s.toList=fJ.toList\/s.toList=dz.toList->s.size<=400->wR (.mk 4 s 0 [] f t a)
 |unit(f t a:Nat):wR (.mk 5 iq 0 [] f t a)
 |pr(x y:Nd)(f t a:Nat):wR x->wR y->wR (.mk 6 iq 0 [x,y] f t a)
 |up(s:BA)(n:Nat)(L:List Nd)(f t a:Nat):DP s->s.size<=400->n=0->(∀x∈L,wR x)->wR (.mk 2 s n L f t a)
inductive ig:Nd->Prop where
 |low(s:BA)(f t a:Nat):Zg s->s.size<=400->ig (.mk 1 s 0 [] f t a)
 |up(s:BA)(f t a:Nat):DP s->s.size<=400->ig (.mk 2 s 0 [] f t a)
 |num(s:BA)(n f t a:Nat):n<1000000000->s.size<=400->ig (.mk 3 s n [] f t a)
 |word(s:BA)(f t a:Nat):s.toList=fJ.toList\/s.toList=dz.toList->s.size<=400->ig (.mk 4 s 0 [] f t a)
 |unit(f t a:Nat):ig (.mk 5 iq 0 [] f t a)
 |pr(x y:Nd)(f t a:Nat):ig x->ig y->ig (.mk 6 iq 0 [x,y] f t a)
 |of(x y:Nd)(f t a:Nat):ig x->si y->ig (.mk 14 iq 0 [x,y] f t a)
 |op(s:BA)(x y:Nd)(f t a:Nat):s=gU\/s=dP\/s=fG\/s=du->ig x->ig y->ig (.mk 7 s 0 [x,y] f t a)
 |call(x y:Nd)(f t a:Nat):ig x->ig y->ig (.mk 8 iq 0 [x,y] f t a)
 |fn(s:BA)(x:Nd)(f t a:Nat):Zg s->s.size<=400->ig x->ig (.mk 9 s 0 [x] f t a)
 |lt(s:BA)(x z:Nd)(f t a:Nat):Zg s->s.size<=400->ig x->ig z->ig (.mk 10 s 0 [x,z] f t a)
 |ltr(s s':BA)(x z:Nd)(f t a f' t' a':Nat):Zg s->s.size<=400->Zg s'->s'.size<=400->ig x->ig z->ig (.mk 11 s 0 [.mk 9 s' 0 [x] f' t' a',z] f t a)
 |ite(x y z:Nd)(f t a:Nat):ig x->ig y->ig z->ig (.mk 12 iq 0 [x,y,z] f t a)
 |mt(x:Nd)(A:List (Nd×Nd))(f t a:Nat):A≠[]->ig x->(∀p∈A,wR p.1)->(∀p∈A,ig p.2)->ig (.mk 13 iq 0 (x::aT A) f t a)
def Fn3(nd:Nd):=∃s x f t a,nd=.mk 9 s 0 [x] f t a/\Zg s/\s.size<=400/\ig x
def Fn3.ex{nd:Nd}(h:Fn3 nd):ig nd:=by
 obtain⟨s,x,f,t,a,rfl,h1,h2,h3⟩:=h;exact .fn s x f t a h1 h2 h3
def ad4 T f:=∃j,f=db (tk T j)
def tT{α:Type}T(r:Except Fl (α×Nat))(Q:α->Nat->Prop):=match r with
 |.error f=>ad4 T f|.ok (a,k')=>Q a k'
section
variable {T:List ja} {e:Nat}
theorem tT.aM{m}{f}{k}{Q:α->Nat->Prop}{R:β->Nat->Prop}(h:tT T (m k) Q)(h2:∀a k',Q a k'->tT T (f a k') R):tT T (Go.Proofs.YtfnkchdeheeiiaaGreatDoor.aM m f k) R:=by
 rw[Go.Proofs.YtfnkchdeheeiiaaGreatDoor.aM]
 cases hm:m k with
 |error e=>rw[hm]at h;exact h|ok p=>rw[hm]at h;exact h2 _ _ h
def tT.mono{r}{Q R:α->Nat->Prop}(h:tT T r Q)(h2:∀a k',Q a k'->R a k'):tT T r R:=by
 cases r with
 |error f=>exact h|ok p=>exact h2 _ _ h
def fe{Q}:tT T (.error (db<|tk T k):Except Fl (α×Nat)) Q:=⟨k,rfl⟩
def ew.step(h:ew T e){k}(hk:k<=e)(hn:(tk T k).kind≠7):k+1<=e:=by
 have:k≠e:=λq=>hn (by rw[q];exact h.en);omega
def Ez{t:ja}(h:a_ t s=true):t.kind=5:=by grind[a_]
def bW(h:ew T e)(hk:k<=e)s:tT T (bt T s k) (λ_ k'=>k'=k+1/\k'<=e):=by
 rw[bt];split
 .rename_i q;exact⟨rfl,h.step hk (by rw[Ez q];decide)⟩
 .exact fe
def nh(h:ew T e)(hk:k<=e)n(hn:n≠7):tT T (di T n k) (λt k'=>t=tk T k/\t.kind=n/\k'=k+1/\k'<=e):=by
 rw[di];split
 .rename_i q;have q':(tk T k).kind=n:=by simpa using q
  exact⟨rfl,q',rfl,h.step hk (by rw[q'];exact hn)⟩
 .exact fe
def sD(h:ew T e)(hk:k<=e)mk:tT T (sE T mk k) (λa k'=>a=mk k'/\k'=k+1/\k'<=e):=
 (bW h hk kG).aM λ_ k' q=>⟨rfl,q.1,q.2⟩
def wS{t:ja}{c}(q:bE t=c):(c=1->t.kind=1)/\(c=2->t.kind=2)/\(c=16->t.kind=3)/\(c=3->t.kind=4):=by grind[bE]
def UG{t:ja}{sort:Nat}(h:aG t sort=true):t.kind≠7:=by
 intro h7;have e1:a_ t fJ=false:=by simp[a_,h7]
 have e2:a_ t dz=false:=by simp[a_,h7]
 have e3:a_ t wU=false:=by simp[a_,h7]
 have e4:a_ t o9=false:=by simp[a_,h7]
 have hl:bE t=0:=by rw[bE];rw[e1,e2,e3];simp[h7]
 rw[aG]at h;rw[e4,hl]at h;revert h;simp
def UH x y u:nn (x.add y u)=nn x+nn y:=by
 obtain⟨k,s,n,L,f,t,a⟩:=x;simp[Nd.add,nn,qT,bY];omega
def EA(P:Nd->Prop)(nd:Nd):=∃s L f t a,nd=.mk 2 s 0 L f t a/\DP s/\s.size<=400/\∀x∈L,P x
def EA.add{P:Nd->Prop}{x y}(h:EA P x)(hy:P y)u:EA P (x.add y u):=by
 obtain⟨s,L,f,t,a,rfl,h1,h2,h3⟩:=h
 exact⟨s,L++[y],f,u,a,rfl,h1,h2,λz hz=>by
  obtain q|q:=List.mem_append.1 hz
  .exact h3 z q
  .rw[List.mem_singleton.1 q];exact hy⟩
def agl(h:ew T e)(hb:aG (tk T k) 1=true)(ho:a_ (tk T k) o9=false):si (cu<|tk T k):=by
 have g:=h.tok k;rw[aG]at hb;rw[ho]at hb;simp at hb;rw[cu];obtain q|q:=hb
 .rw[q];have h3:=(wS q).2.2.1 rfl;exact .var _ _ _ _ _ (g.var h3) g.sz (by simp[eC,h3])
 .rw[q];have h3:=(wS q).2.1 rfl;exact .up _ _ _ _ _ _ (g.up h3) g.sz (by simp[eC,h3]) ag
def EA.ty{nd:Nd}(h:EA si nd):si nd:=by obtain⟨s,L,f,t,a,rfl,h1,h2,h3⟩:=h;exact .up s 0 L f t a h1 h2 rfl h3
def EA.pa{nd:Nd}(h:EA wR nd):wR nd:=by obtain⟨s,L,f,t,a,rfl,h1,h2,h3⟩:=h;exact .up s 0 L f t a h1 h2 rfl h3
def Ar{t:ja}(h:bE t=4):t.text.toList=fJ.toList\/t.text.toList=dz.toList:=by grind[bE,a_,toList_mk]
def i'{t:ja}(h:bE t≠3):eC t=0:=by grind[bE,eC]
def Mx{p:Prop}(h:p:=by
 intro c q hc;have:=wS q;obtain rfl|rfl|rfl:=hc
 .exact this.1 rfl
 .exact this.2.1 rfl
 .exact this.2.2.2 rfl):p:=h
def My{p:Prop}(h:p:=by
 rw[q];have h4:(tk T k).kind=4:=hk 3 q ae
 exact .num _ _ _ _ _ (by unfold eC;rw[if_pos h4];exact g.num h4) g.sz):p:=h
def agm(h:ew T e)(hb:aG (tk T k) 2=true)(ho:a_ (tk T k) o9=false):wR (cu<|tk T k):=by
 have g:=h.tok k;rw[aG]at hb;rw[ho]at hb;simp at hb;rw[cu];have hk:∀c,bE (tk T k)=c->c=1\/c=2\/c=3->(tk T k).kind=if c=3 then 4 else c:=by
  exact Mx
 rcases hb with(((q|q)|q)|q)|q
 .rw[i' ae,q];exact .any _ _ _ _ g.sz
 .rw[i' ae,q];exact .low _ _ _ _ (g.low<|hk 1 q ae) g.sz
 .rw[i' ae,q];exact .up _ _ _ _ _ _ (g.up<|hk 2 q ae) g.sz rfl ag
 .exact My
 .rw[i' ae,q];exact .word _ _ _ _ (Ar q) g.sz
def agn(h:ew T e)(hb:aG (tk T k) 3=true)(ho:a_ (tk T k) o9=false):ig (cu<|tk T k):=by
 have g:=h.tok k;rw[aG]at hb;rw[ho]at hb;simp at hb;rw[cu];have hk:∀c,bE (tk T k)=c->c=1\/c=2\/c=3->(tk T k).kind=if c=3 then 4 else c:=by
  exact Mx
 rcases hb with((q|q)|q)|q
 .rw[i' ae,q];exact .low _ _ _ _ (g.low<|hk 1 q ae) g.sz
 .rw[i' ae,q];exact .up _ _ _ _ (g.up<|hk 2 q ae) g.sz
 .exact My
 .rw[i' ae,q];exact .word _ _ _ _ (Ar q) g.sz
def UI{t:ja}(h:a_ t s=true):t.text=s:=by grind[a_,toList_inj]
end
section
open Un
def oD{b}(hi:i<b)(hb:b<=s.size):∃x r,(s.extract i b).toList=x::r/\x.toNat=jk s i/\∀p:Nat->Bool,(∀j,i<j->j<b->p (jk s j)=true)->∀y∈r,p y.toNat=true:=by
 have hl:(s.extract i b).toList.length=b-i:=by
  rw[ByteArray.toList_eq];show(s.extract i b).size=_;rw[ByteArray.size_extract];omega
 have hg:∀j(h:j<(s.extract i b).toList.length),((s.extract i b).toList[j]).toNat=jk s (i+j):=λj h=>by
  rw[<-UJ s i b j hb ae,Pu.ni qBo];simp only[ByteArray.toList_eq,ByteArray.getElem_eq_getElem_data,Array.getElem_toList]
 cases hc:(s.extract i b).toList with
 |nil=>grind|cons x r=>
  refine⟨x,r,rfl,?_,λp hp y hy=>?_⟩
  .have:=hg 0 ae;simp only[hc]at this;simpa using this
  .obtain⟨j,hj,rfl⟩:=List.getElem_of_mem hy;rw[hc]at hl;simp at hl;have:=hg (j+1) (by rw[hc];simp;omega);simp only[hc]at this;simp only[List.getElem_cons_succ]at this;rw[this];exact hp _ ae ae
def EB(s:BA):∀k,(∀i,i<k->Pu.dH (jk s i)=true)->uT s k<10^k
 |0,_=>by simp[uT]|k+1,h=>by
  have h1:=EB s k<|λi hi=>h i ae;have h2:=h k ae;simp[Pu.dH]at h2;have:(jk s k+208)%256<=9:=ae;simp only[uT,Nat.pow_succ];omega
def aab(h:aac s):wQ s<1000000000:=by
 rw[wQ];obtain⟨h1,h2,h3⟩:=h;rw[Nat.min_eq_left h2];have:=EB s s.size h3;have h4:(10:Nat)^s.size<=10^9:=Nat.pow_le_pow_right aK h2;omega
def UK s{x}{r}(h:s.toList=x::r):(⟨(x::r).toArray⟩:BA)=s:=by grind[toList_inj,toList_mk]
def aad s(hs:s.size<=400)i(hi:i<s.size):ad3 (jd s i):=by
 have qJ:=ED s i hi;have ht:=jo s i hi;have hf:=jl s i;have eG:(jd s i).text.size<=400:=by have:=qJ.sp;omega
 refine⟨λk1=>?_,λk2=>?_,λk3=>?_,λk4=>aab<|qJ.v4 k4,eG⟩
 .clear qJ eG;revert k1 ht hf;rw[jd];repeat' split
  all_goals intro ht hf k1
  all_goals try(exfalso;simp[jj]at k1;done)
  rename_i h1 h2;simp only[jj]at ht;have⟨x,r,e1,e2,e3⟩:=oD ht.1 ht.2;refine⟨x,r,e1,by rw[e2];exact h1,e3 _<|λj a b=>oE (j-i) i j rfl ae b,?_⟩;rw[UK _ e1];simpa using h2
 .clear qJ eG;revert k2 ht hf;rw[jd];repeat' split
  all_goals intro ht hf k2
  all_goals try(exfalso;simp[jj]at k2;done)
  rename_i h1 h2;simp only[jj]at ht;have⟨x,r,e1,e2,e3⟩:=oD ht.1 ht.2;exact⟨x,r,e1,by rw[e2];exact h2,e3 _<|λj a b=>oE (j-i) i j rfl ae b⟩
 .clear qJ eG;revert k3 ht hf;rw[jd];repeat' split
  all_goals intro ht hf k3
  all_goals try(exfalso;simp[jj]at k3;done)
  rename_i h1 h2 h3 h4;simp only[jj]at ht;have⟨x,r,e1,e2,e3⟩:=oD ht.1 ht.2;have bA:i+1<Pu.aE s ji (i+1):=by
   have hi1:i+1<s.size:=by
    obtain q|q:=Nat.lt_or_ge (i+1) s.size
    .exact q
    .have:=h3.2;rw[Pu.Mz q]at this;simp[jm]at this
   rw[Pu.fh hi1<|by simp[ji,h3.2]];have:=Pu.eM s ji<|i+1+1;omega
  have⟨y,r',e1',e2',e3'⟩:=oD bA ht.2;have e39:x=39:=UInt8.toNat_inj.1 (by rw[e2,h3.1];rfl);have er:r=y::r':=by
   have q1:=iH hi ht.1;rw[e1,e1']at q1;injection q1 with _ q2
  refine⟨y,r',by show(s.extract i _).toList=_;rw[e1,e39,er],by rw[e2'];exact h3.2,e3' _<|λj a b=>oE (j-(i+1)) (i+1) j rfl ae b,?_⟩;rw[UK _ e1'];simpa using h4
def oF(s:BA):∀f i t,t∈jh s f i->(∃j,j<s.size/\t=jd s j)\/t=jf s
 |0,i,t,h=>jv (by simpa[jh]using h)|f+1,i,t,h=>by
  rw[jh]at h;split at h
  .rename_i hi;split at h
   .exact oF s f _ t h
   .obtain rfl|h:=List.mem_cons.1 h
    .exact jx ⟨i,hi,rfl⟩
    .exact oF s f _ t h
  .exact jv DQ
def j_(s:BA):∀f i,∃l,jh s f i=l++[jf s]/\l.length<=f
 |0,i=>⟨[],rfl,ag⟩|f+1,i=>by
  rw[jh];split
  .split
   .have⟨l,h1,h2⟩:=j_ s f<|i+1;exact⟨l,h1,ae⟩
   .have⟨l,h1,h2⟩:=j_ s f (jd s i).to;exact⟨jd s i::l,by rw[h1];rfl,bQ⟩
  .exact⟨[],rfl,ag⟩
def UL(T:List ja)k:tk T k∈T\/tk T k=⟨7,⟨#[]⟩,0,0⟩:=by grind[tk]
def EH(t:ja)(h7:t.kind=7)(hz:t.text.size<=400):ad3 t:=⟨by simp[h7],by simp[h7],by simp[h7],by simp[h7],hz⟩
def nj s(hs:s.size<=400):ew (jc s 0) ((jc s 0).length-1)/\(jc s 0).length<=401:=by
 have⟨l,h1,h2⟩:=j_ s (s.size-0) 0;have e:jc s 0=l++[jf s]:=h1;refine⟨⟨?_,λk=>?_,by rw[e];simp⟩,by rw[e];simp;omega⟩
 .rw[e];rw[tk];simp[jf]
 .obtain q|q:=UL (jc s 0) k
  .obtain⟨j,hj,q⟩|q:=oF s _ _ _ q
   .rw[q];exact aad s hs j hj
   .rw[q];exact EH _ rfl (by simp[jf];decide)
  .rw[q];exact EH _ rfl aK
def Ce{f}(h:ad4 (jc s 0) f):f.kind%6≠0/\f.al<=f.to/\f.to<=s.size:=by
 obtain⟨k,rfl⟩:=h;refine⟨by rw[db];split<;>simp,?_⟩;have:(tk (jc s 0) k).al<=(tk (jc s 0) k).to/\(tk (jc s 0) k).to<=s.size:=by
  obtain q|q:=UL (jc s 0) k
  .obtain⟨j,hj,q⟩|q:=oF s _ _ _ q
   .rw[q,jl];have:=jo s j hj;omega
   .rw[q];simp[jf]
  .rw[q];simp
 rw[db];split<;>exact this
def D3:Dc->Prop
 |.ty t vs ms=>DP t.text/\t.text.size<=400/\(∀v∈vs,NmV v.text/\v.text.size<=400)/\ms≠[]/\∀m∈ms,EA si m|.lt r t b=>Zg t.text/\t.text.size<=400/\ig b/\(r=true->Fn3 b)
def Jk:Dc->Nat
 |.ty _ vs ms=>1+vs.length+bY ms|.lt _ _ b=>1+nn b
def EI(l:List Dc):Nat:=(l.map Jk).sum
namespace In
section
variable {s:St}
def Cf{g}{o:Except Ft (β×St)}(h:andM kS g s o):∃v,¬s.u v/\g v ⟨s.k,λn=>s.u n\/n=v⟩ o:=by
 obtain⟨x,⟨v,_,e⟩,_⟩|⟨v,s1,⟨v',hv,e⟩,ho⟩:=h
 .cases e
 .grind
def b_{m}{g}{o:Except Ft (β×St)}{Q:α->St->Prop}(h:andM m g s o)(hm:∀o,m s o->∃a s',o=.ok (a,s')/\Q a s'):∃a s',Q a s'/\g a s' o:=by
 obtain⟨x,h1,_⟩|⟨a,s1,h1,ho⟩:=h
 .grind
 .grind
end
end In
namespace In
structure UM(s:St):Prop where
 no:∀v,¬s.u v->s.k v=.var v
 wf:∀v w,s.u v->aD w (s.k v)->s.u w
structure uU(s s':St):Prop where
 k:∀v,s.u v->s'.k v=s.k v
 u:∀v,s.u v->s'.u v
 f:UM s'
def uU.trans{a b c:St}(h:uU a b)(g:uU b c):uU a c:=⟨λv q=>(g.k v<|h.u v q).trans<|h.k v q,λv q=>g.u v<|h.u v q,g.f⟩
abbrev Cl(T:Ty):Prop:=∀v,¬aD v T
theorem Cl.sub(h:Cl T)(σ:Nat->Ty):sub σ T=T:=by
 rw[sub_congr (τ:=Ty.var) T λn o=>absurd o<|h n,dq]
def UM.new{s:St}(h:UM s)(hv:¬s.u v):uU s ⟨s.k,λn=>s.u n\/n=v⟩:=
 ⟨λ_ _=>rfl,λ_ q=>.inl q,⟨λw q=>h.no w λz=>q<|.inl z,λw x q o=>by
  obtain q|rfl:=q
  .exact .inl (h.wf w x q o)
  .have o:aD x (s.k w):=o;rw[h.no _ hv]at o
   exact .inr<|Eq.symm o⟩⟩
def Cg{s:St}(h:UM s)(n0:Nat->Prop)(hn:∀v,n0 v->s.u v)(hw:∀v w,n0 v->aD w (s.k v)->n0 w){a:Ty}{A:Ty}(eA:sub s.k a=A)(eB:sub s.k b=B)(zA:size A<=48)(zB:size B<=48)(oA:∀v,aD v A\/aD v B->s.u v/\¬n0 v)(σ:Nat->Ty)(hσ:sub σ A=sub σ B){o:Except Ft (Unit×St)}(ho:p_ a b f t s o):
 ∃θ s',o=.ok ((),s')/\sub θ A=sub θ B/\s'=⟨λv=>sub θ<|s.k v,s.u⟩/\UM s'/\∀v,n0 v->s'.k v=s.k v:=by
 rw[p_]at ho;rw[eA,eB]at ho;obtain⟨q,_⟩|⟨_,_,⟨θ,m,rfl⟩|⟨q,_⟩⟩:=ho
 .omega
 .have out:∀v,¬(s.u v/\¬n0 v)->θ v=.var v:=λv q=>m.out v (λz=>q<|oA v<|.inl z) λz=>q<|oA v<|.inr z;refine⟨θ,_,rfl,m.one,rfl,⟨λv q=>?_,λv w q o=>?_⟩,λv q=>?_⟩
  .show sub θ (s.k v)=_;rw[h.no v q];exact out v λz=>q z.1
  .have o:aD w (sub θ<|s.k v):=o;have⟨x,o1,o2⟩:=(bZ _).1 o;by_cases z:aD x A\/aD x B
   .exact(oA w<|m.rng x w z o2).1
   .rw[m.out x (λq=>z<|.inl q) λq=>z<|.inr q]at o2;have o2:x=w:=o2;subst o2;exact h.wf v x q o1
  .show sub θ (s.k v)=s.k v;rw[sub_congr (τ:=Ty.var) _ λw o=>out w λz=>z.2<|hw v w q o,dq]
 .exact absurd hσ (q σ)
abbrev tL(T:Ty):Ty:=.aH ⟨#[76]⟩ [T]
inductive Cn:Nd->Ty->Prop where
 |num{s:BA}{n f t a:Nat}:Cn (.mk 3 s n [] f t a) dN
 |pr{e:Nd}{T:Ty}{s s':BA}{n m f t a f' t' a':Nat}:Cn e T->Cn (.mk 6 s n [e,.mk 4 s' m [] f' t' a'] f t a) (S_ T iZ)
 |fn{e:Nd}{T:Ty}{v s p s' s'':BA}{n m f t a f' t' a' f1 t1 a1 f2 t2 a2 f3 t3 a3 n1 n2 n3:Nat}:Cn e T->p≠du->Cn (.mk 9 v n [.mk 6 s m [e,.mk 7 p n1 [.mk 1 v n2 [] f2 t2 a2,.mk 3 s'' n3 [] f3 t3 a3] f1 t1 a1] f' t' a'] f t a) (v9 dN<|S_ T dN)
 |ls{e:Nd}{T:Ty}{s s':BA}{n m k j f t a f1 t1 a1 f2 t2 a2 f3 t3 a3:Nat}:Cn e T->Cn (.mk 8 s n [.mk 8 s' m [.mk 2 ⟨#[67]⟩ k [] f2 t2 a2,e] f1 t1 a1,.mk 2 ⟨#[78]⟩ j [] f3 t3 a3] f t a) (tL T)
def Cn.cl(h:Cn e T):Cl T:=by
 induction h with
 |num=>intro v o;exact o
 |pr _ ih=>intro v o;simp only[aD,bK]at o;obtain o|o|o:=o
           .exact ih v o
           .exact o
           .exact o
 |fn _ _ ih=>intro v o;simp[aD,bK]at o;exact ih v o|ls _ ih=>intro v o;simp[aD,bK]at o;exact ih v o
def UN(ho:inf mk (.mk 3 s n [] f t a) Γ σ o):o=.ok (dN,σ):=by simpa[inf,mI,cS]using ho
def aae(ho:inf mk (.mk 4 s n [] f t a) Γ σ o):o=.ok (iZ,σ):=by simpa[inf,mI,cS]using ho
def ab7(Γ:Env):inf mk (.mk 6 s n [x,y] f t a) Γ=andM (inf mk x Γ) λp=>andM (inf mk y Γ) λq=>cS<|S_ p q:=by simp only[inf,pA,mI];rfl
def ago(Γ:Env):inf mk (.mk 9 s n [x] f t a) Γ=andM kS λv=>andM (inf mk x<|gR Γ s<|mono<|.var v) λp=>cS<|v9 (.var v) p:=by simp only[inf,pA,mI];rfl
def MD(Γ:Env):inf mk (.mk 8 s n [x,y] f t a) Γ=andM (inf mk x Γ) λp=>andM (inf mk y Γ) λq=>andM kS λv=>andM (p_ p (v9 q<|.var v) f t) λ_=>cS<|.var v:=by simp only[inf,pA,mI];rfl
def agp(hs:s≠du)(Γ:Env):inf mk (.mk 7 s n [x,y] f t a) Γ=andM (inf mk x Γ) λp=>andM (p_ p dN (ij x)<|uQ x) λ_=>andM (inf mk y Γ) λq=>andM (p_ q dN (ij y)<|uQ y) λ_=>cS dN:=by simp only[inf,pA,mI,if_neg hs];rfl
def ab8(Γ:Env):inf mk (.mk 2 s n [] f t a) Γ=upM mk s:=by simp only[inf,pA,mI];rfl
def UM.lat{s:St}(h:UM s):uU s s:=⟨λ_ _=>rfl,λ_ q=>q,h⟩
def ad5{s0 s:St}(h:uU s0 s)(hv:¬s0.u v)(h0:UM s0)(hu:s.u v)(hk:s.k v=.var v){a:Ty}(eA:sub s.k a=.var v)(eB:sub s.k b=B)(cB:Cl B)(zB:size B<=48){o:Except Ft (Unit×St)}(ho:p_ a b f t s o):
 ∃s',o=.ok ((),s')/\s'.k v=B/\uU s0 s'/\(∀c T,Cl T->sub s.k c=T->sub s'.k c=T):=by
 obtain⟨θ,s',rfl,e1,rfl,f1,g1⟩:=Cg h.f s0.u h.u (λv w q o=>h0.wf v w q (by rw[h.k v q]at o;exact o)) eA eB (by simp[size]) zB (λw q=>by
  obtain q|q:=q
  .have q:v=w:=q;subst q;exact⟨hu,hv⟩
  .exact absurd q (cB w)) (λw=>if w=v then B else .var w) (by rw[cB.sub];simp[sub]) ho
 refine⟨_,rfl,?_,⟨λw q=>(g1 w q).trans<|h.k w q,λw q=>h.u w q,f1⟩,λc T q e=>?_⟩
 .show sub θ (s.k v)=B;rw[hk,e1,cB.sub]
 .show sub (λv=>sub θ<|s.k v) c=T;rw[<-sub_sub,e,q.sub]
def aaf{x:BA}{s:St}(h:Γ x=some (mono<|.var v))(hk:s.k v=.var v)(ho:inf mk (.mk 1 x n [] f t a) Γ s o):∃s',o=.ok (.var v,s')/\s'.k=s.k/\∀n,s'.u n↔s.u n:=by
 simp only[inf,mI,BW,h,if_true]at ho;rw[show sub s.k (Ty.var v)=.var v from hk]at ho;obtain⟨h1,_⟩|⟨_,ρ,s',⟨eu,u',hd,e⟩,rfl⟩:=ho
 .simp[size]at h1
 .cases e
  have hr:∀y,ρ y=none:=λy=>hd.out y ag;refine⟨⟨s.k,u'⟩,by simp[sub,via,hr],rfl,λn=>⟨λq=>?_,λq=>(hd.use n).2<|jx q⟩⟩;obtain q|⟨y,_,q⟩:=(hd.use n).1 q
  .exact q
  .rw[hr]at q;cases q
def agq{s:St}(h:UM s){a:Ty}(eA:sub s.k a=B)(eB:sub s.k b=B)(cB:Cl B)(zB:size B<=48){o:Except Ft (Unit×St)}(ho:p_ a b f t s o):
 ∃s',o=.ok ((),s')/\uU s s'/\∀c T,Cl T->sub s.k c=T->sub s'.k c=T:=by
 obtain⟨θ,s',rfl,e1,rfl,f1,g1⟩:=Cg h s.u (λ_ q=>q) h.wf eA eB zB zB (λw q=>by obtain q|q:=q<;>exact absurd q<|cB w) Ty.var rfl ho;exact⟨_,rfl,⟨g1,λw q=>q,f1⟩,λc T q e=>by show sub (λv=>sub θ<|s.k v) c=T;rw[<-sub_sub,e,q.sub]⟩
def ME{x:BA}{tk:List Ty}{m:Ty}(h:mk x=some (tk,m))(hv:vars [] (arr tk m)=[1]){s:St}(hs:UM s)(ho:upM mk x s o):
 ∃n s',o=.ok (sub (λw=>if w=1 then .var n else .var w) (arr tk m),s')/\¬s.u n/\s'.u n/\s'.k=s.k/\uU s s':=by
 simp only[upM,h,qI,hv]at ho
 have⟨q,s1,⟨n,hq,h1,h2,h3,h4⟩,ho⟩:=b_ (Q:=λ(q:Ty×Rn)s1=>∃n,q.1=sub (λw=>if w=1 then .var n else .var w) (arr tk m)/\¬s.u n/\s1.u n/\s1.k=s.k/\uU s s1) ho (λo ho=>by
  have⟨ρ,s1,⟨hd,k1⟩,ho⟩:=b_ (Q:=λρ s1=>DX [1] Me ρ s.u s1.u/\s1.k=s.k) ho (λo ho=>by
   obtain⟨eu,u',hd,rfl⟩:=ho
   exact⟨_,_,rfl,hd,rfl⟩)
  have⟨n,hn⟩:=Option.ne_none_iff_exists'.1<|hd.all 1 ag;have ho:o=.ok ((sub (via ρ)<|arr tk m,ρ),s1):=ho;subst ho;have only:∀v w,ρ v=some w->v=1/\w=n:=λv w q=>by
   have e:v=1:=by
    by_cases z:v=1
    .exact z
    .rw[hd.out v<|by simpa using z]at q;cases q
   subst e;rw[hn]at q;exact⟨rfl,(Option.some.inj q).symm⟩
  refine⟨_,_,rfl,n,sub_congr _ λw o=>?_,hd.new 1 n rfl hn,(hd.use n).2<|.inr ⟨1,rfl,hn⟩,k1,⟨λv q=>by rw[k1],λv q=>(hd.use v).2<|.inl q,⟨λv q=>by rw[k1];exact hs.no v λz=>q<|(hd.use v).2<|.inl z,λv w q o=>?_⟩⟩⟩
  .have w1:w=1:=by
    have:=(bI (arr tk m) [] w).2<|.inr o;rw[hv]at this;simpa using this
   subst w1;simp[via,hn]
  .rw[k1]at o;obtain q|⟨y,_,q⟩:=(hd.use v).1 q
   .exact(hd.use w).2 (.inl<|hs.wf v w q o)
   .obtain⟨rfl,rfl⟩:=only _ _ q;rw[hs.no _<|hd.new 1 v rfl hn]at o;have o:v=w:=o;subst o
    exact(hd.use v).2 (.inr ⟨1,rfl,hn⟩))
 have ho:o=.ok (q.1,s1):=ho;exact⟨n,s1,by rw[ho,hq],h1,h2,h3,h4⟩
def adW(hC:mk ⟨#[67]⟩=some ([.var 1,tL<|.var 1],tL<|.var 1))(hN:mk ⟨#[78]⟩=some ([],tL<|.var 1))(c:Cn e T):size T<=22->∀Γ s,UM s->∀o,inf mk e Γ s o->∃a s',o=.ok (a,s')/\sub s'.k a=T/\uU s s':=by
 induction c with
 |num=>intro _ Γ s h o ho;rw[UN ho];exact⟨_,_,rfl,by simp[sub,aS],h.lat⟩|pr c ih=>
  intro hz Γ s h o ho;simp only[size,ah]at hz;rw[ab7]at ho;have⟨x,s1,⟨q1,q2⟩,ho⟩:=b_ (Q:=λx s1=>sub s1.k x=_/\uU s s1) ho<|ih ae Γ s h;obtain⟨y,s2,⟨rfl,rfl⟩,ho2⟩:=b_ (Q:=λy s2=>y=iZ/\s2=s1) ho<|λo ho=>⟨_,_,aae ho,rfl,rfl⟩;have ho:o=.ok (_,s2):=ho2;subst ho;exact⟨_,_,rfl,by simp[sub,aS,q1],q2⟩
 | @fn e T v _ p _ _ _ _ _ _ _ _ _ _ _ _ _ _ _ _ _ _ _ _ _ _ c hp ih=>
   intro hz Γ s h o ho;simp only[size,ah]at hz;rw[ago]at ho;have⟨w,hw,ho⟩:=Cf ho;have l0:=h.new hw
   have⟨x,s1,hx,ho⟩:=b_ (Q:=λx s1=>sub s1.k x=S_ T dN/\s1.k w=dN/\uU s s1) ho (λo ho=>by
    rw[ab7]at ho;have⟨x,s1,⟨q1,q2⟩,ho⟩:=b_ (Q:=λx s1=>sub s1.k x=T/\uU _ s1) ho<|ih ae _ _ l0.f;have l1:=l0.trans q2;have k1:s1.k w=.var w:=(q2.k w<|.inr rfl).trans<|h.no w hw
    obtain⟨y,s2,⟨rfl,q3,q4,q5⟩,ho⟩:=b_ (Q:=λy s2=>y=dN/\s2.k w=dN/\uU s s2/\sub s2.k x=T) ho (λo ho=>by
     rw[agp hp]at ho
     obtain⟨y,s2,⟨rfl,k2,u2⟩,ho⟩:=b_ (Q:=λy s2=>y=.var w/\s2.k=s1.k/\∀n,s2.u n↔s1.u n) ho (λo ho=>by
      obtain⟨s',rfl,z1,z2⟩:=aaf (v:=w) (by simp[gR]) k1 ho
      exact⟨_,_,rfl,rfl,z1,z2⟩)
     have l2:uU s s2:=⟨λv q=>by rw[k2];exact l1.k v q,λv q=>(u2 v).2<|l1.u v q,⟨λv q=>by rw[k2];exact l1.f.no v λz=>q<|(u2 v).2 z,λv x q o=>(u2 x).2<|l1.f.wf v x ((u2 v).1 q) (by rw[k2]at o;exact o)⟩⟩
     have⟨_,s3,⟨z1,z2,z3⟩,ho⟩:=b_ (Q:=λ_ s3=>s3.k w=dN/\uU s s3/\sub s3.k x=T) ho (λo ho=>by
      obtain⟨s',rfl,z1,z2,z3⟩:=ad5 l2 hw h ((u2 w).2<|q2.u w<|.inr rfl) (by rw[k2];exact k1) (by show s2.k w=_;rw[k2];exact k1) (by simp[sub,aS]:sub s2.k dN=dN) (by intro v o;exact o) (by simp[size,ah]) ho
      exact⟨_,_,rfl,z1,z2,z3 x T c.cl (by rw[k2];exact q1)⟩)
     obtain⟨_,s4,⟨rfl,rfl⟩,ho2⟩:=b_ (Q:=λy s4=>y=dN/\s4=s3) ho<|λo ho=>⟨_,_,UN ho,rfl,rfl⟩
     have⟨_,s5,⟨y1,y2⟩,ho⟩:=b_ (Q:=λ_ s5=>uU s4 s5/\∀c T,Cl T->sub s4.k c=T->sub s5.k c=T) ho2 (λo ho=>by
      obtain⟨s',rfl,z⟩:=agq z2.f (by simp[sub,aS]:sub s4.k dN=dN) (by simp[sub,aS]) (by intro v o;exact o) (by simp[size,ah]) ho
      exact⟨_,_,rfl,z⟩)
     have ho:o=.ok (dN,s5):=ho;subst ho
     exact⟨_,_,rfl,rfl,y2 (.var w) dN (by intro v o;exact o) z1,z2.trans y1,y2 x T c.cl z3⟩)
    have ho:o=.ok (_,s2):=ho;subst ho
    exact⟨_,_,rfl,by simp[sub,aS,q5],q3,q4⟩)
   obtain⟨q1,q2,q3⟩:=hx;have ho:o=.ok (_,s1):=ho;subst ho;exact⟨_,_,rfl,by simp[sub,aS,q1,q2],q3⟩
 | @ls e T _ _ _ _ _ _ _ _ _ _ _ _ _ _ _ _ _ _ c ih=>
   intro hz Γ s h o ho;simp only[size,ah]at hz;have TK:=c.cl;have ajJ:Cl (v9 (tL T)<|tL T):=λv o=>by simp[aD,bK]at o;exact TK v o
   rw[MD]at ho
   have⟨x,s5,⟨q1,q2⟩,ho⟩:=b_ (Q:=λx s5=>sub s5.k x=v9 (tL T) (tL T)/\uU s s5) ho (λo ho=>by
    rw[MD]at ho
    have⟨y,s1,⟨n,hy,n1,n2,k0,l1⟩,ho⟩:=b_ (Q:=λy s1=>∃n,y=v9 (.var n) (v9 (tL<|.var n)<|tL<|.var n)/\¬s.u n/\s1.u n/\s1.k=s.k/\uU s s1) ho (λo ho=>by
     rw[ab8]at ho;obtain⟨n,s',rfl,z⟩:=ME hC (by simp[arr,vars,bm,Un.seen]) h ho
     exact⟨_,_,rfl,n,by simp[arr,sub,aS],z⟩)
    subst hy;have k1:s1.k n=.var n:=by rw[k0];exact h.no n n1
    have⟨a,s2,⟨p1,p2⟩,ho⟩:=b_ (Q:=λa s2=>sub s2.k a=T/\uU s1 s2) ho<|ih ae Γ s1 l1.f;have⟨r,hr,ho⟩:=Cf ho;have l3:=p2.f.new hr;have l2:=l1.trans<|p2.trans l3;have kn:s2.k n=.var n:=(p2.k n n2).trans k1;have kr:s2.k r=.var r:=p2.f.no r hr;have dw:n≠r:=λq=>hr<|q▸p2.u n n2
    have⟨_,s3,⟨z1,z2⟩,ho⟩:=b_ (Q:=λ_ s3=>s3.k r=v9 (tL T) (tL T)/\uU s s3) ho (λo ho=>by
     obtain⟨θ,s',rfl,e1,rfl,f1,g1⟩:=Cg l3.f s.u (λv q=>l2.u v q) (λv w q o=>h.wf v w q (by rw[l2.k v q]at o;exact o)) (A:=v9 (.var n)<|v9 (tL<|.var n)<|tL<|.var n) (B:=v9 T<|.var r) (by simp[sub,aS,kn]) (by simp[sub,aS,p1,kr]) (by simp[size,ah]) (by simp[size,ah];omega) (λv q=>by
      simp[aD,bK]at q;obtain rfl|q|rfl:=q
      .exact⟨.inl<|p2.u _ n2,n1⟩
      .exact absurd q (TK v)
      .exact⟨.inr rfl,λz=>hr<|p2.u _<|l1.u _ z⟩) (λv=>if v=n then T else if v=r then v9 (tL T) (tL T)else .var v) (by simp[sub,aS,TK.sub,Ne.symm dw]) ho
     refine⟨_,_,rfl,?_,⟨λv q=>(g1 v q).trans<|l2.k v q,λv q=>l2.u v q,f1⟩⟩;show sub θ (s2.k r)=_;rw[kr];simp only[sub,aS,Ty.aH.injEq,List.cons.injEq,true_and,and_true,TK.sub]at e1⊢
     rw[<-e1.2,e1.1])
    have ho:o=.ok (.var r,s3):=ho;subst ho
    exact⟨_,_,rfl,z1,z2⟩)
   have⟨y,s6,⟨m,hy,m1,m2,k6,l6⟩,ho⟩:=b_ (Q:=λy s6=>∃m,y=tL (.var m)/\¬s5.u m/\s6.u m/\s6.k=s5.k/\uU s5 s6) ho (λo ho=>by
    rw[ab8]at ho;obtain⟨n,s',rfl,z⟩:=ME hN (by simp[arr,vars,bm,Un.seen]) q2.f ho
    exact⟨_,_,rfl,n,by simp[arr,sub,aS],z⟩)
   subst hy;have⟨r,hr,ho⟩:=Cf ho;have l3:=l6.f.new hr;have l2:=q2.trans<|l6.trans l3;have km:s6.k m=.var m:=by rw[k6];exact q2.f.no m m1
   have kr:s6.k r=.var r:=l6.f.no r hr;have dw:m≠r:=λq=>hr<|q▸m2
   have⟨_,s3,⟨z1,z2⟩,ho⟩:=b_ (Q:=λ_ s3=>s3.k r=tL T/\uU s s3) ho (λo ho=>by
    obtain⟨θ,s',rfl,e1,rfl,f1,g1⟩:=Cg l3.f s.u (λv q=>l2.u v q) (λv w q o=>h.wf v w q (by rw[l2.k v q]at o;exact o)) (A:=v9 (tL T)<|tL T) (B:=v9 (tL<|.var m)<|.var r) (by show sub s6.k x=_;rw[k6];exact q1) (by simp[sub,aS,km,kr]) (by simp[size,ah];omega) (by simp[size,ah]) (λv q=>by
     simp[aD,bK]at q;obtain q|rfl|rfl:=q
     .exact absurd q (TK v)
     .exact⟨.inl m2,λz=>m1<|q2.u _ z⟩
     .exact⟨.inr rfl,λz=>hr<|l6.u _<|q2.u _ z⟩) (λv=>if v=m then T else if v=r then tL T else .var v) (by simp[sub,aS,TK.sub,Ne.symm dw]) ho
    refine⟨_,_,rfl,?_,⟨λv q=>(g1 v q).trans<|l2.k v q,λv q=>l2.u v q,f1⟩⟩;show sub θ (s6.k r)=_;rw[kr];simp only[sub,aS,Ty.aH.injEq,List.cons.injEq,true_and,and_true,TK.sub]at e1⊢
    rw[<-e1.2])
   have ho:o=.ok (.var r,s3):=ho;subst ho;exact⟨_,_,rfl,z1,z2⟩
end In
namespace In
def cE(v:UInt8)(e:List UInt8):Nat->List UInt8
 |0=>[102,117,110,32,v,32,45,62,32,40]++e++[44,32,v,32,43,32,49,41]|1=>[40]++e++[44,32,116,114,117,101,41]|_=>[67,32,40]++e++[41,32,78]
def cT(t:List UInt8):Nat->List UInt8
 |0=>[73,110,116,32,45,62,32,40]++t++[44,32,73,110,116,41]|1=>[40]++t++[44,32,66,111,111,108,41]|_=>[76,32,40]++t++[41]
def cY(T:Ty):Nat->Ty
 |0=>v9 dN (S_ T dN)|1=>S_ T iZ|_=>tL T
def QI:List Nat->List UInt8
 |[]=>[49]|j::l=>cE (97+l.length.toUInt8) (QI l) j
def QG:List Nat->List UInt8
 |[]=>[73,110,116]|j::l=>cT (QG l) j
def QF:List Nat->Ty
 |[]=>dN|j::l=>cY (QF l) j
def agi:List UInt8:=[116,121,112,101,32,76,32,39,97,32,61,32,78,32,124,32,67,32,39,97,32,40,76,32,39,97,41,59,116,121,112,101,32,83,32,61,32,80,32,124,32,81,32,73,110,116,32,66,111,111,108,59,108,101,116,32,120,32,61,32]
def Mr(l:List Nat):BA:=⟨(agi++QI l++[59]).toArray⟩
def cnB:List Nat->Nd->Bool
 |[],.mk 3 _ _ [] _ _ _=>true|0::l,.mk 9 v _ [.mk 6 _ _ [e,.mk 7 p _ [.mk 1 v' _ [] _ _ _,.mk 3 _ _ [] _ _ _] _ _ _] _ _ _] _ _ _=>decide (v=v')&&decide (p≠du)&&cnB l e|1::l,.mk 6 _ _ [e,.mk 4 _ _ [] _ _ _] _ _ _=>cnB l e|2::l,.mk 8 _ _ [.mk 8 _ _ [.mk 2 c _ [] _ _ _,e] _ _ _,.mk 2 n _ [] _ _ _] _ _ _=>decide (c=⟨#[67]⟩)&&decide (n=⟨#[78]⟩)&&cnB l e|_,_=>false
def adV(h:cnB l e=true):Cn e (QF l):=by
 fun_induction cnB l e with
 |case1=>exact .num|case2=>
  rename_i ih;simp only[jy,decide_eq_true_eq]at h;obtain⟨⟨rfl,hp⟩,h⟩:=h;exact .fn (s':=iq) (ih h) hp
 |case3=>
  rename_i ih;exact .pr<|ih h
 |case4=>
  rename_i ih;simp only[jy,decide_eq_true_eq]at h;obtain⟨⟨rfl,rfl⟩,h⟩:=h;exact .ls<|ih h
 |_=>cases h
def ctB:List Nat->Nd->Bool
 |[],.mk 2 i _ [] _ _ _=>decide (i=mO)|0::l,.mk 17 _ _ [.mk 2 i _ [] _ _ _,.mk 6 _ _ [e,.mk 2 j _ [] _ _ _] _ _ _] _ _ _=>decide (i=mO)&&decide (j=mO)&&ctB l e|1::l,.mk 6 _ _ [e,.mk 2 j _ [] _ _ _] _ _ _=>decide (j=iA)&&ctB l e|2::l,.mk 2 c _ [e] _ _ _=>decide (c=⟨#[76]⟩)&&ctB l e|_,_=>false
def MH{p:Prop}(h:p:=by
 rename_i ih;simp only[jy,decide_eq_true_eq]at h;obtain⟨rfl,h⟩:=h
 simp[aI,aA,eX,QF,cY,ih h]):p:=h
def Ut(h:ctB l e=true):aI [] e=(QF l,[]):=by
 fun_induction ctB l e with
 |case1=>simp only[decide_eq_true_eq]at h;subst h;simp[aI,aA,eX,QF]|case2=>
  rename_i ih;simp only[jy,decide_eq_true_eq]at h;obtain⟨⟨rfl,rfl⟩,h⟩:=h;simp[aI,aA,eX,QF,cY,ih h]
 |case3=>
  exact MH
 |case4=>
  exact MH
 |_=>cases h
def mkB(mk:Mks):Bool:=(match mk ⟨#[67]⟩with
 |some ([.var 1,.aH c [.var 1]],.aH d [.var 1])=>decide (c=⟨#[76]⟩)&&decide (d=⟨#[76]⟩)|_=>false)&&(match mk ⟨#[78]⟩with
 |some ([],.aH d [.var 1])=>decide (d=⟨#[76]⟩)|_=>false)
def adU(h:mkB mk=true):mk ⟨#[67]⟩=some ([.var 1,tL<|.var 1],tL<|.var 1)/\mk ⟨#[78]⟩=some ([],tL<|.var 1):=by
 rw[mkB]at h;rw[jy]at h;obtain⟨h1,h2⟩:=h;constructor
 .split at h1
  .simp only[jy,decide_eq_true_eq]at h1;obtain⟨rfl,rfl⟩:=h1;assumption
  .cases h1
 .split at h2
  .simp only[decide_eq_true_eq]at h2;subst h2;assumption
  .cases h2
def mC(l:List Nat):Bool:=match cd (Mr l)with
 |.ok [.ty t vs ms,.ty t' vs' ms',.lt false x e]=>cnB l e&&decide (x.text=⟨#[120]⟩)&&(gh fE [.ty t vs ms,.ty t' vs' ms',.lt false x e] vw).f.kind==0&&mkB (wV t' vs' ms'<|wV t vs ms λ_=>none)&&(match eK ⟨(QG l).toArray⟩with
  |.ok y=>ctB l y|_=>false)
 |_=>false
def dG:Nat->List (List Nat)
 |0=>[[]]|k+1=>(dG k).flatMap λl=>[0::l,1::l,2::l]
def qR:∀l:List Nat,(∀j∈l,j<3)->l∈dG l.length
 |[],_=>by simp[dG]|j::l,h=>by
  have:=qR l λi q=>h i qBf;have hj:=h j ag;simp only[mV,dG,List.mem_flatMap];refine⟨l,this,?_⟩;obtain rfl|rfl|rfl:j=0\/j=1\/j=2:=ae;all_goals simp
set_option maxRecDepth 100000
def c_1:(dG 1).all mC=true:=qkr
def c_2:(dG 2).all mC=true:=qkr
end In
end
inductive dU(T:List ja)(e:Nat):Nat->Nat->Nat->Nd->Prop where
 |leaf{s k:Nat}:(s=1\/s=2\/s=3)->k+1<=e->aG (tk T k) s=true->a_ (tk T k) o9=false->dU T e s k (k+1) (cu<|tk T k)
 |unit{s k:Nat}:(s=2\/s=3)->k+2<=e->dU T e s k (k+2) (.mk 5 iq 0 [] (tk T k).al (aF T<|k+2) (tk T k).al)
 |par{s k j:Nat}{x:Nd}:dU T e s (k+1) j x->j+1<=e->dU T e s k (j+1) x
 |two{c s s' k i j:Nat}{x y:Nd}:(c=6/\s'=s/\(s=1\/s=2\/s=3)\/c=14/\s=3/\s'=1)->dU T e s (k+1) i x->dU T e s' (i+1) j y->j+1<=e->dU T e s k (j+1) (.mk c iq 0 [x,y] (tk T k).al (aF T<|j+1) (tk T k).al)
 |nm{s k:Nat}:(tk T k).kind=2->k+1<=e->dU T e (s+10) k (k+1) (.mk 2 (tk T k).text 0 [] (tk T k).al (tk T k).to (tk T k).al)
 |add{s k i j:Nat}{x y:Nd}:dU T e (s+10) k i x->dU T e s i j y->dU T e (s+10) k j (x.add y<|aF T j)
 |up{s k j:Nat}{x:Nd}:(s=1\/s=2)->dU T e (s+10) k j x->dU T e s k j x
 |arr{k i j:Nat}{x y:Nd}:dU T e 1 k i x->dU T e 1 (i+1) j y->dU T e 1 k j (.mk 17 iq 0 [x,y] (tk T k).al (aF T j) (tk T k).al)
 |call{k i j:Nat}{x y:Nd}:dU T e 3 k i x->dU T e 3 i j y->dU T e 3 k j (.mk 8 iq 0 [x,y] (tk T k).al (aF T j) (tk T k).al)
 |op{s:BA}{k i j:Nat}{x y:Nd}:(s=gU\/s=dP\/s=fG\/s=du)->dU T e 3 k i x->dU T e 3 (i+1) j y->dU T e 3 k j (.mk 7 s 0 [x,y] (tk T k).al (aF T j) (tk T k).al)
 |fn{k j:Nat}{x:Nd}:(tk T<|k+1).kind=1->dU T e 3 (k+3) j x->dU T e 4 k j (.mk 9 (tk T<|k+1).text 0 [x] (tk T k).al (aF T j) (tk T<|k+1).al)
 |ex{k j:Nat}{x:Nd}:dU T e 4 k j x->dU T e 3 k j x
 |lt{k i j:Nat}{x z:Nd}:(tk T<|k+1).kind=1->dU T e 3 (k+3) i x->dU T e 3 (i+1) j z->dU T e 3 k j (.mk 10 (tk T<|k+1).text 0 [x,z] (tk T k).al (aF T j) (tk T<|k+1).al)
 |ltr{k i j:Nat}{x z:Nd}:(tk T<|k+2).kind=1->dU T e 4 (k+4) i x->dU T e 3 (i+1) j z->dU T e 3 k j (.mk 11 (tk T<|k+2).text 0 [x,z] (tk T k).al (aF T j) (tk T<|k+2).al)
 |ite{k i j l:Nat}{x y z:Nd}:dU T e 3 (k+1) i x->dU T e 3 (i+1) j y->dU T e 3 (j+1) l z->dU T e 3 k l (.mk 12 iq 0 [x,y,z] (tk T k).al (aF T l) (tk T k).al)
 |ar0{k i:Nat}{x:Nd}:dU T e 3 (k+1) i x->i+1<=e->dU T e 5 k (i+1) (.mk 13 iq 0 [x] (tk T k).al (aF T<|i+1) (tk T k).al)
 |ar{k i j q q':Nat}{l:List Nd}{p x:Nd}:dU T e 5 k i (.mk 13 iq 0 l (tk T k).al (aF T i) (tk T k).al)->dU T e 2 i j p->dU T e 3 (j+1) q x->(q'=q\/q'=q+1/\q+1<=e)->dU T e 5 k q' (.mk 13 iq 0 (l++[p,x]) (tk T k).al (aF T q') (tk T k).al)
 |mt{k i:Nat}{l:List Nd}:dU T e 5 k i (.mk 13 iq 0 l (tk T k).al (aF T i) (tk T k).al)->l.length≠1->i+1<=e->dU T e 3 k (i+1) (.mk 13 iq 0 l (tk T k).al (aF T<|i+1) (tk T k).al)
mutual
def PlN(n:Nat):Nd->Prop
 |.mk k s _ L f t a=>f<t/\t<=n/\(k=2->a+s.size<=n)/\(k=16->f+s.size<=n)/\PlL n L
def PlL(n:Nat):List Nd->Prop
 |[]=>True|x::l=>PlN n x/\PlL n l
end
section
variable {T:List ja} {e:Nat}
def dU.le{s:Nat}{a:Nd}(h:dU T e s k j a):k<j/\j<=e:=by induction h<;>omega
def oU(T:List ja)(e s:Nat)(m:M Nd):=∀k,k<=e->tT T (m k) (λa k'=>dU T e s k k' a)
def vA(h:ew T e){s:Nat}(hs:s=1\/s=2\/s=3)(hp:oU T e s part)(ht:s=3->oU T e 1 DO):oU T e s (aP T part DO s):=by
 intro k hk;rw[aP];split
 .rename_i hb;have hk1:=h.step hk<|UG hb;split
  .rw[jA];split
   .rename_i hc;exact .unit (by have:=hc.1;omega)<|h.step hk1 qBn
   .refine(hp (k+1) hk1).aM λx k1 p=>?_;rw[k_];split
    .rename_i hc;refine(hp (k1+1)<|h.step p.le.2 qAc).aM λy k2 q=>?_;refine(sD h q.le.2 _).mono ?_;rintro a k3⟨rfl,rfl,r3⟩;exact .two (.inl ⟨rfl,rfl,hs⟩) p q r3
    .split
     .rename_i hc;refine(ht hc.1 (k1+1)<|h.step p.le.2 qBn).aM λy k2 q=>?_;refine(sD h q.le.2 _).mono ?_;rintro a k3⟨rfl,rfl,r3⟩;exact .two (.inr ⟨rfl,hc.1,rfl⟩) p q r3
     .refine(sD h p.le.2 _).mono ?_;rintro a k3⟨rfl,rfl,r3⟩;exact .par p r3
  .rename_i ho;exact .leaf hs hk1 hb (by simpa using ho)
 .exact fe
def Ch{s i:Nat}{sm:M Nd}(hm:oU T e s sm):∀f x k,dU T e (s+10) i k x->tT T (eN T sm s f x k) (λa k'=>dU T e (s+10) i k' a)
 |0,x,k,hx=>hx|f+1,x,k,hx=>by
  unfold eN;split
  .exact(hm k hx.le.2).aM λy k1 p=>Ch hm f _ k1<|.add hx p
  .exact hx
def UO(h:ew T e){s:Nat}(hs:s=1\/s=2)(hm:oU T e s (aP T part DO s)):oU T e s (jB T (aP T part DO s) s):=by
 intro k hk;rw[jB];split
 .rename_i h2;have Jl:(tk T k).kind=2:=by simpa using h2
  have hsm:aP T part DO s k=.error (db<|tk T k)\/aP T part DO s k=.ok (cu<|tk T k,k+1):=by
   rw[aP];split
   .rw[if_neg (by rw[a_];simp[Jl])];exact jv rfl
   .exact jx rfl
  obtain q|q:=hsm
  .rw[aM];rw[q];exact fe
  .rw[aM];rw[q];have hx:dU T e (s+10) k (k+1) (cu<|tk T k):=by
    rw[show cu (tk T k)=.mk 2 (tk T k).text 0 [] (tk T k).al (tk T k).to (tk T k).al by simp[cu,bE,Jl,eC]];exact .nm Jl (h.step hk (by rw[Jl];decide))
   exact(Ch hm T.length _ (k+1) hx).mono λa k'=>.up hs
 .exact hm k hk
def MI(h:ew T e):∀n,oU T e 1<|eH T n
 |0=>λk hk=>fe|n+1=>λk hk=>by
  have ih:=MI h n;rw[eH];refine(UO h (.inl rfl) (vA h (.inl rfl) ih λ_=>ih) k hk).aM λx k1 p=>?_;rw[nk];split
  .rename_i hc;exact(ih (k1+1)<|h.step p.le.2 qAc).aM λy k2 q=>.arr p q
  .exact p
def ab9(h:ew T e):∀n,oU T e 2<|eh T n
 |0=>λk hk=>fe|n+1=>λk hk=>by
  rw[eh];exact UO h (.inr rfl) (vA h (.inr<|.inl rfl) (ab9 h n) λq=>mD) k hk
def Ci{F:Nat->Nd->M Nd}(hm:oU T e 3 sm)(hF:∀i x k,dU T e 3 i k x->tT T (F (tk T i).al x k) (λa k'=>dU T e 3 i k' a)):oU T e 3 (λk=>aM sm (F (tk T k).al) k):=
 λk hk=>(hm k hk).aM λx k1 p=>hF k x k1 p
def MJ{sm:M Nd}(hm:oU T e 3 sm){i:Nat}:∀f x k,dU T e 3 i k x->tT T (jC T sm (tk T i).al f x k) (λa k'=>dU T e 3 i k' a)
 |0,x,k,hx=>hx|f+1,x,k,hx=>by
  unfold jC;split
  .exact(hm k hx.le.2).aM λy k1 p=>MJ hm f _ k1<|.call hx p
  .exact hx
def ML(h:ew T e){sm:M Nd}(hm:oU T e 3 sm){i:Nat}:∀f x k,dU T e 3 i k x->tT T (kg T sm (tk T i).al f x k) (λa k'=>dU T e 3 i k' a)
 |0,x,k,hx=>hx|f+1,x,k,hx=>by
  unfold kg;split
  .rename_i hc;exact(hm (k+1)<|h.step hx.le.2 qAc).aM λy k1 p=>ML h hm f _ k1<|.op ag hx p
  .exact hx
def UP(h:ew T e){sm:M Nd}(hm:oU T e 3 sm){i:Nat}:∀f x k,dU T e 3 i k x->tT T (qU T sm (tk T i).al f x k) (λa k'=>dU T e 3 i k' a)
 |0,x,k,hx=>hx|f+1,x,k,hx=>by
  unfold qU;split
  .rename_i hc;have h5:=hc.elim Ez Ez;exact(hm (k+1)<|h.step hx.le.2 (by rw[h5];decide)).aM λy k1 p=>UP h hm f _ k1 (.op (by obtain q|q:=hc<;>rw[UI q]<;>simp) hx p)
  .exact hx
def agv(h:ew T e)(hm:oU T e 3 sm):oU T e 3 (uV T<|fK T<|dr T sm):=
 have h1:=Ci (F:=λfr=>jC T sm fr T.length) hm λi x k=>MJ hm T.length x k;have h2:=Ci (F:=λfr=>kg T (dr T sm) fr T.length) h1 λi x k=>ML h h1 T.length x k
 Ci (F:=λfr=>qU T (fK T<|dr T sm) fr T.length) h2 λi x k=>UP h h2 T.length x k
def ad6(h:ew T e)(hm:oU T e 3 sm):oU T e 3 (qV T sm):=by
 intro k hk;rw[qV];refine(hm k hk).aM λx k1 p=>?_;show tT T (if _ then _ else _) _;split
 .rename_i hc;exact(hm (k1+1)<|h.step p.le.2 qAc).aM λy k2 q=>.op ag p q
 .exact p
def ab_(h:ew T e){ex:M Nd}(hm:oU T e 3 ex):oU T e 4 (sF T ex):=by
 intro k hk;rw[sF];refine(bW h hk JW).aM ?_;rintro _ k1⟨rfl,p1⟩;refine(nh h p1 1 aK).aM ?_;rintro t k2⟨rfl,t1,rfl,p2⟩;refine(bW h p2 pE).aM ?_;rintro _ k3⟨rfl,p3⟩;exact(hm _ p3).aM λx k4 q=>.fn t1 q
def BdD(T:List ja)(e k:Nat)(b:Nat×ja×Nd)(j:Nat):=(b.1=10/\b.2.1=tk T (k+1)/\(tk T<|k+1).kind=1/\dU T e 3 (k+3) j b.2.2)\/(b.1=11/\b.2.1=tk T (k+2)/\(tk T<|k+2).kind=1/\dU T e 4 (k+4) j b.2.2)
def BdD.le{k j:Nat}{b:Nat×ja×Nd}(h:BdD T e k b j):k+3<j/\j<=e:=by
 obtain⟨_,_,_,q⟩|⟨_,_,_,q⟩:=h<;>have:=q.le<;>omega
def MN(h:ew T e){ex:M Nd}(hm:oU T e 3 ex)(hk:k<=e):tT T (cH T ex k) (BdD T e k):=by
 rw[cH];refine(bW h hk sG).aM ?_;rintro _ k1⟨rfl,p1⟩;show tT T (if _ then _ else _) _;split
 .rename_i hc;refine(nh h (h.step p1 qAc) 1 aK).aM ?_;rintro t k2⟨rfl,t1,rfl,p2⟩;refine(bW h p2 MO).aM ?_;rintro _ k3⟨rfl,p3⟩;exact(ab_ h hm _ p3).aM λx k4 q=>.inr ⟨rfl,rfl,t1,q⟩
 .refine(nh h p1 1 aK).aM ?_;rintro t k2⟨rfl,t1,rfl,p2⟩;refine(bW h p2 MO).aM ?_;rintro _ k3⟨rfl,p3⟩;exact(hm _ p3).aM λx k4 q=>.inl ⟨rfl,rfl,t1,q⟩
def UQ(h:ew T e){ex:M Nd}(hm:oU T e 3 ex):oU T e 3 (oG T ex):=by
 intro k hk;rw[oG];refine(bW h hk kIf).aM ?_;rintro _ k1⟨rfl,p1⟩;refine(hm _ p1).aM λx k2 a=>?_;refine(bW h a.le.2 aca).aM ?_;rintro _ k3⟨rfl,p3⟩;refine(hm _ p3).aM λy k4 b=>?_;refine(bW h b.le.2 acb).aM ?_;rintro _ k5⟨rfl,p5⟩;exact(hm _ p5).aM λz k6 c=>.ite a b c
def agw(h:ew T e){ex:M Nd}(hm:oU T e 3 ex):oU T e 3 (sv T ex):=by
 intro k hk;rw[sv];refine(MN h hm hk).aM ?_;rintro⟨c,t,x⟩k1 b;refine(bW h b.le.2 kIn).aM ?_;rintro _ k2⟨rfl,p5⟩;refine(hm _ p5).aM λz k3 q=>?_;obtain⟨e1,e2,e3,e4⟩|⟨e1,e2,e3,e4⟩:=b<;>simp only at e1 e2 e4<;>subst e1 e2
 .exact .lt e3 e4 q
 .exact .ltr e3 e4 q
def UR(h:ew T e){pa ex:M Nd}(hp:oU T e 2 pa)(hm:oU T e 3 ex){i:Nat}:∀f l k,f≠0->dU T e 5 i k (.mk 13 iq 0 l (tk T i).al (aF T k) (tk T i).al)->l≠[]->tT T (np T pa ex f l k) (λl' k'=>dU T e 5 i k' (.mk 13 iq 0 l' (tk T i).al (aF T k') (tk T i).al)/\l'.length≠1)
 |f+1,l,k,_,hl,hn=>by
  rw[np];refine(hp k hl.le.2).aM λp k1 a=>?_;refine(bW h a.le.2 pE).aM ?_;rintro _ k2⟨rfl,p2⟩;refine(hm _ p2).aM λx k3 b=>?_;have hz:(l++[p,x]).length≠1:=ag;show tT T (if _ then _ else _) _;split
  .rename_i hc;have hc':=h.step b.le.2 qAc
   cases f with
   |zero=>exact⟨.ar hl a b<|.inr ⟨rfl,hc'⟩,hz⟩|succ f=>exact UR h hp hm (f+1) _ (k3+1) ag (.ar hl a b<|.inr ⟨rfl,hc'⟩) ag
  .exact⟨.ar hl a b<|.inl rfl,hz⟩
def aag(h:ew T e){pa ex:M Nd}(hp:oU T e 2 pa)(hm:oU T e 3 ex):oU T e 3 (sH T pa ex):=by
 intro k hk;rw[sH];refine(bW h hk sI).aM ?_;rintro _ k1⟨rfl,p1⟩;refine(hm _ p1).aM λx k2 a=>?_;refine(bW h a.le.2 acd).aM ?_;rintro _ k3⟨rfl,p3⟩;refine(UR h hp hm T.length [x] _ (by have:=h.pos;omega) (.ar0 a p3) ag).aM ?_;rintro l k4⟨b1,b2⟩;refine(bW h b1.le.2 agx).aM ?_;rintro _ k5⟨rfl,p5⟩;exact .mt b1 b2 p5
def US(h:ew T e):∀n,oU T e 3<|bP T n
 |0=>λk hk=>fe|n+1=>λk hk=>by
  have ih:=US h n;unfold bP;split
  .exact(ab_ h ih k hk).mono λ_ _=>.ex
  split
  .exact UQ h ih k hk
  split
  .exact aag h (ab9 h n) ih k hk
  split
  .exact agw h ih k hk
  .exact ad6 h (agv h<|vA h (.inr<|.inr rfl) ih λ_=>MI h n) k hk
def Ar3(nd:Nd):=∃x A f t a,nd=.mk 13 iq 0 (x::aT A) f t a/\ig x/\(∀p∈A,wR p.1)/\∀p∈A,ig p.2
def Shp:Nat->Nd->Prop
 |1=>si|2=>wR|3=>ig|4=>Fn3|5=>Ar3|11=>EA si|12=>EA wR|_=>λ_=>True
def dU.shp(h:ew T e){s:Nat}{a:Nd}(d:dU T e s k j a):Shp s a:=by
 induction d with
 |leaf hs h1 h2 h3=>
  obtain rfl|rfl|rfl:=hs
  .exact agl h h2 h3
  .exact agm h h2 h3
  .exact agn h h2 h3
 |unit hs _=>
  obtain rfl|rfl:=hs
  .exact wR.unit ..
  .exact ig.unit ..
 |par _ _ ih=>exact ih|two hc _ _ _ i1 i2=>
  obtain⟨rfl,rfl,rfl|rfl|rfl⟩|⟨rfl,rfl,rfl⟩:=hc
  .exact si.pr _ _ _ _ _ i1 i2
  .exact wR.pr _ _ _ _ _ i1 i2
  .exact ig.pr _ _ _ _ _ i1 i2
  .exact ig.of _ _ _ _ _ i1 i2
 | @nm s k h1 h2=>
   have u:∀P,EA P<|.mk 2 (tk T k).text 0 [] (tk T k).al (tk T k).to (tk T k).al:=λP=>⟨_,[],_,_,_,rfl,(h.tok k).up h1,(h.tok k).sz,ag⟩
   match s with
   |0=>trivial|1=>exact u _|2=>exact u _|_+3=>trivial
 | @add s _ _ _ _ _ _ _ i1 i2=>
   match s,i1,i2 with
   |0,_,_=>trivial|1,i1,i2=>exact EA.add i1 i2 _|2,i1,i2=>exact EA.add i1 i2 _|_+3,_,_=>trivial
 |up hs _ ih=>
  obtain rfl|rfl:=hs
  .exact EA.ty ih
  .exact EA.pa ih
 |arr _ _ i1 i2=>exact si.fn _ _ _ _ _ i1 i2|call _ _ i1 i2=>exact ig.call _ _ _ _ _ i1 i2|op hs _ _ i1 i2=>exact ig.op _ _ _ _ _ _ hs i1 i2|fn h1 _ ih=>exact⟨_,_,_,_,_,rfl,(h.tok _).low h1,(h.tok _).sz,ih⟩|ex _ ih=>exact Fn3.ex ih|lt h1 _ _ i1 i2=>exact ig.lt _ _ _ _ _ _ ((h.tok _).low h1) (h.tok _).sz i1 i2|ltr h1 _ _ i1 i2=>
  obtain⟨s',x',f',t',a',rfl,g1,g2,g3⟩:=i1;exact ig.ltr _ _ _ _ _ _ _ _ _ _ ((h.tok _).low h1) (h.tok _).sz g1 g2 g3 i2
 |ite _ _ _ i1 i2 i3=>exact ig.ite _ _ _ _ _ _ i1 i2 i3| @ar0 _ _ x _ _ ih=>exact⟨x,[],_,_,_,rfl,ih,ag,ag⟩| @ar _ _ _ _ _ _ p x _ _ _ _ i1 i2 i3=>
   obtain⟨y,A,f,t,a,e1,g1,g2,g3⟩:=i1;injection e1 with _ _ _ e1;subst e1;refine⟨y,A++[(p,x)],_,_,_,by rw[EK];rfl,g1,?_,?_⟩
   .intro q hq;obtain z|z:=List.mem_append.1 hq
    .exact g2 q z
    .rw[List.mem_singleton.1 z];exact i2
   .intro q hq;obtain z|z:=List.mem_append.1 hq
    .exact g3 q z
    .rw[List.mem_singleton.1 z];exact i3
 |mt d hn _ ih=>
  obtain⟨y,A,f,t,a,e1,g1,g2,g3⟩:=ih;injection e1 with _ _ _ e1;subst e1;exact ig.mt _ _ _ _ _ (λq=>by subst q;simp[aT]at hn) g1 g2 g3
def wW{s:Nat}{a:Nd}(d:dU T e s k j a):k<j/\nn a+1<=2*(j-k):=by
 induction d
 all_goals(try simp only[nn,bY,UH,qT,cu]at*)
 all_goals omega
structure pF(T:List ja)(e n:Nat):Prop where
 g:ew T e
 top:∀i,(tk T i).al<=400
 asc:∀i j,i<=j->j<=e->(tk T i).al<=(tk T j).al
 lt:∀i,i<e->(tk T i).al<(tk T i).to/\(tk T i).to<=n/\(tk T i).to=(tk T i).al+(tk T i).text.size
 nx:∀i j,i<j->j<e->(tk T i).to<=(tk T j).al
def pF.last(h:pF T e n)(hi:i<j)(hj:j<=e):(tk T i).al<aF T j/\aF T j<=n:=by
 rw[aF];rw[if_neg ae];have a:=h.lt i ae;have b:=h.lt (j-1) ae;have c:=h.asc i (j-1) ae ae;omega
def pF.mono(h:pF T e n)(h0:0<i)(hi:i<=j)(hj:j<=e):aF T i<=aF T j:=by
 unfold aF;rw[if_neg ae,if_neg ae];by_cases q:i=j
 .rw[q];exact br _
 .have:=h.nx (i-1) (j-1) ae ae;have:=h.lt (j-1) ae;omega
def toN:Nd->Nat
 |.mk _ _ _ _ _ t _=>t
def Cj{lo:Nat}:∀{l m:List Nd},Jm lo l->Jm lo m->Jm lo (l++m)
 |[],_,_,h=>h|_::_,_,g,h=>⟨g.1,Cj g.2 h⟩
def PlL.app{n:Nat}:∀{l m:List Nd},PlL n l->PlL n m->PlL n (l++m)
 |[],_,_,h=>h|_::_,_,h,k=>⟨h.1,PlL.app h.2 k⟩
def aah(T:List ja)(n k j:Nat)(a:Nd):Prop:=Ge (tk T k).al a/\PlN n a/\toN a<=aF T j
def pF.nd(h:pF T e n){c m:Nat}{L:List Nd}(hk:k<j)(hj:j<=e)(hc:c≠2/\c≠16)(ha:(tk T k).al<=a/\a<=400)(hs:s.size<=400)(g:Jm (tk T k).al L/\PlL n L):aah T n k j (.mk c s m L (tk T k).al (aF T j) a):=
 ⟨⟨⟨br _,ha.1⟩,⟨h.top _,ha.2,hs⟩,g.1⟩,⟨(h.last hk hj).1,(h.last hk hj).2,λq=>absurd q hc.1,λq=>absurd q hc.2,g.2⟩,br _⟩
def aah.c(h:pF T e n){k':Nat}(p:aah T n k' j x)(h1:k<=k')(h2:k'<=e):Ge (tk T k).al x/\PlN n x:=⟨p.1.mono<|h.asc k k' h1 h2,p.2.1⟩
def pF.at0(h:pF T e n)(k:Nat):(tk T k).al<=(tk T k).al/\(tk T k).al<=400:=⟨br _,h.top k⟩
def dU.pos(h:pF T e n){s:Nat}{a:Nd}(d:dU T e s k j a):aah T n k j a:=by
 have two:∀{k:Nat}{x y:Nd},Ge (tk T k).al x/\PlN n x->Ge (tk T k).al y/\PlN n y->Jm (tk T k).al [x,y]/\PlL n [x,y]:=λp q=>⟨⟨p.1,q.1,trivial⟩,p.2,q.2,trivial⟩;have op4:∀{s:BA},(s=gU\/s=dP\/s=fG\/s=du)->s.size<=400:=by rintro s(rfl|rfl|rfl|rfl)<;>decide
 have k0:iq.size<=400:=aK
 induction d with
 | @leaf s k hs h1 h2 h3=>
   have q:=h.lt k h1;exact⟨⟨⟨br _,br _⟩,⟨h.top _,h.top _,(h.g.tok k).sz⟩,trivial⟩,⟨q.1,q.2.1,λ_=>ae,λ_=>ae,trivial⟩,br _⟩
 |unit hs hj=>exact h.nd ae hj aK (h.at0 _) k0 ⟨trivial,trivial⟩|par d hj ih=>have:=d.le;exact⟨(ih.c h ae ae).1,ih.2.1,Nat.le_trans ih.2.2<|h.mono ae ae hj⟩|two hc d1 d2 hj i1 i2=>
  have a1:=d1.le;have a2:=d2.le;exact h.nd ae hj (by obtain⟨rfl,_⟩|⟨rfl,_⟩:=hc<;>decide) (h.at0 _) k0<|two (i1.c h ae ae)<|i2.c h ae ae
 | @nm s k h1 h2=>
   have q:=h.lt k h2;exact⟨⟨⟨br _,br _⟩,⟨h.top _,h.top _,(h.g.tok k).sz⟩,trivial⟩,⟨q.1,q.2.1,λ_=>ae,(λq=>mD),trivial⟩,br _⟩
 | @add _ _ _ _ x _ d1 d2 i1 i2=>
   have a1:=d1.le;have a2:=d2.le;have z:=i2.c h (j3 a1.1) ae;have m:=h.mono (i:=_) ae (j3 a2.1) a2.2
   cases x
   obtain⟨⟨g1,g2,g3⟩,⟨p1,p2,p3,p4,p5⟩,p6⟩:=i1;have p6:_<=_:=p6;simp only[toN]at p6;have l:=h.last (i:=_) a2.1 a2.2;exact⟨⟨g1,g2,Cj g3 ⟨z.1,trivial⟩⟩,⟨ae,l.2,p3,p4,p5.app ⟨z.2,trivial⟩⟩,br _⟩
 |up _ _ ih=>exact ih|ex _ ih=>exact ih|arr d1 d2 i1 i2|op _ d1 d2 i1 i2|call d1 d2 i1 i2=>
  have a1:=d1.le;have a2:=d2.le;exact h.nd ae a2.2 aK (h.at0 _) (by first|exact k0|(apply op4;assumption))<|two (i1.c h ae ae)<|i2.c h ae ae
 |fn h1 d ih=>
  have a1:=d.le;exact h.nd ae a1.2 aK ⟨h.asc _ _ ae ae,h.top _⟩ (h.g.tok _).sz ⟨⟨(ih.c h ae ae).1,trivial⟩,ih.2.1,trivial⟩
 |lt _ d1 d2 i1 i2|ltr _ d1 d2 i1 i2=>
  have a1:=d1.le;have a2:=d2.le;exact h.nd ae a2.2 aK ⟨h.asc _ _ ae ae,h.top _⟩ (h.g.tok _).sz<|two (i1.c h ae ae)<|i2.c h ae ae
 | @ite k _ _ _ _ _ _ d1 d2 d3 i1 i2 i3=>
   have a1:=d1.le;have a2:=d2.le;have a3:=d3.le;have z:=i1.c h (j5 _) ae;have y:=two (i2.c h (k:=k) ae ae)<|i3.c h ae ae;exact h.nd ae a3.2 aK (h.at0 _) k0 ⟨⟨z.1,y.1⟩,z.2,y.2⟩
 |ar0 d hj ih=>
  have a1:=d.le;have z:=ih.c h (j5 _) ae;exact h.nd ae hj aK (h.at0 _) k0 ⟨⟨z.1,trivial⟩,z.2,trivial⟩
 | @ar k _ _ _ _ _ _ _ d1 d2 d3 hq i1 i2 i3=>
   have a1:=d1.le;have a2:=d2.le;have a3:=d3.le;have y:=two (i2.c h (k:=k) ae ae)<|i3.c h ae ae;obtain⟨⟨_,_,g⟩,⟨_,_,_,_,p⟩,_⟩:=i1;exact h.nd ae ae aK (h.at0 _) k0 ⟨Cj g y.1,p.app y.2⟩
 |mt d hn hj ih=>
  have a1:=d.le;obtain⟨⟨_,_,g⟩,⟨_,_,_,_,p⟩,_⟩:=ih;exact h.nd ae hj aK (h.at0 _) k0 ⟨g,p⟩
end
section
open Un
def DP.head(h:DP s):∃x r,s.toList=x::r/\65<=x.toNat/\x.toNat<=90:=by
 obtain⟨x,r,h1,h2,_⟩:=h;exact⟨x,r,h1,by simp[Pu.zE]at h2;omega,by simp[Pu.zE]at h2;omega⟩
def DP.ne(h:DP s)y q(hy:y.toNat<65\/90<y.toNat):s≠⟨(y::q).toArray⟩:=by
 rintro rfl;have⟨x,r,h1,h2,h3⟩:=h.head;rw[toList_mk]at h1;injection h1 with e1 _;subst e1;omega
def DP.Te(h:DP s)(hz:s.size<=400)n:Te s n:=
 ⟨ae,λe=>(by
  obtain e|e:=e
  .exact absurd e (h.ne 62 [] aK)
  .exact absurd e (h.ne 44 [] aK)),.inr<|.inr h⟩
structure TyG own nd:Prop where
 st:(aI own nd).2=own
 oc:∀n,aD n (aI own nd).1->1<=n/\n<=own.length
 es:aI own (es nd)=aI own nd
 sz:size (aI own nd).1<=nn nd
 wh:Whole (aI own nd).1
 ty:nn nd<=1001->qW nd
structure zG own L:Prop where
 st:(aA own L).2=own
 oc:∀n,bK n (aA own L).1->1<=n/\n<=own.length
 es:aA own (tU L)=aA own L
 sz:ah (aA own L).1<=bY L
 wh:jD (aA own L).1
 ty:bY L<=1001->∀i(h:i<L.length),qW L[i]
def zG.of{own:List BA}:∀{L:List Nd},(∀x∈L,TyG own x)->zG own L
 |[],_=>⟨rfl,λn h=>h.elim,rfl,br _,trivial,λ_ i h=>absurd h<|jz i⟩|x::L,h=>by
  have hx:=h x ag;have hL:=zG.of (L:=L) λy hy=>h y (by simp[hy]);refine⟨?_,?_,?_,?_,?_,λhn i hi=>?_⟩
  .simp only[aA];rw[hx.st];exact hL.st
  .simp only[aA];rw[hx.st];exact λn q=>q.elim (hx.oc n)<|hL.oc n
  .simp only[aA,tU];rw[hx.es,hx.st,hL.es]
  .simp only[aA,ah,bY];rw[hx.st];have:=hx.sz;have:=hL.sz;omega
  .simp only[aA];rw[hx.st];exact⟨hx.wh,hL.wh⟩
  .simp only[bY]at hn
   cases i with
   |zero=>exact hx.ty ae|succ i=>exact hL.ty ae i qBl
def TyG.aH{own}{k}{s}{n f t a}{L}(hk:k=2\/k=6\/k=17)(hs:eX k s≠qD)(hL:zG own L)(Qv:nn (.mk k s n L f t a)<=1001->qW (.mk k s n L f t a)):TyG own (.mk k s n L f t a):=by
 have h16:k≠16:=ae;have h3:¬(k=3\/k=15):=ae;have em:∀(s:BA)n(M:List Nd)f t a,aI own (.mk k s n M f t a)=(.aH (eX k s) (aA own M).1,(aA own M).2):=λs n M f t a=>by simp[aI,h16]
 refine⟨?_,?_,?_,?_,?_,Qv⟩
 .rw[em];exact hL.st
 .rw[em];exact hL.oc
 .simp only[Go.Proofs.YtfnkchdeheeiiaaGreatDoor.es];rw[if_neg h3,em,em,hL.es]
 .rw[em];simp only[size,nn];have:=hL.sz;omega
 .rw[em];exact⟨hs,hL.wh⟩
def nu{ty:BA->Option Nat}{own:List BA}:∀{L:List Nd}{z:Fl},(ir ty own L z).kind=0->∀x∈L,∃z',(tV ty own x z').kind=0
 |y::L,z,h,x,hx=>by
  rw[ir]at h;obtain e|e:=List.mem_cons.1 hx
  .subst e;exact⟨z,wX L _ h⟩
  .exact nu h x e
def MP{p:Prop}(h:p:=by
 obtain⟨z',q⟩:=nu hz u hu;simp only[jp,ju,or_false]at hu;obtain rfl|rfl:=hu
 .exact dA z' q
 .exact gi z' q):p:=h
def JX{ty:BA->Option Nat}{own}{nd:Nd}(h:si nd):∀z,(tV ty own nd z).kind=0->TyG own nd:=by
 induction h with
 |var s n f t a h1 h2 h3=>
  intro z hz;rw[tV,ir]at hz;have hi:s∈own:=by
   have:=(cI aK (cI aK hz).2).1;simpa[fC]using this
  have em:∀n f t a,aI own (.mk 16 s n [] f t a)=(.var<|ix s own+1,own):=λn f t a=>by simp[aI,MQ hi]
  refine⟨by rw[em],?_,?_,by rw[em];simp[size,nn],by rw[em];trivial,λ_=>.var s n f t a⟩
  .rw[em];intro n q;have q:n=ix s own+1:=by first|exact q|exact q.symm
   have:=JY hi;omega
  .simp only[Go.Proofs.YtfnkchdeheeiiaaGreatDoor.es,tU];rw[em,if_neg aK,em]
 |up s n L f t a h1 h2 h3 h4 ih=>
  intro z hz;rw[tV]at hz;have hL:zG own L:=.of λx hx=>by
   have⟨z',q⟩:=nu hz x hx;exact ih x hx z' q
  refine .aH (jx rfl) ?_ hL λhn=>?_
  .rw[show eX 2 s=s from rfl];exact h1.ne 116 [111,111,32,108,97,114,103,101] aK
  .simp only[nn]at hn;have:=l7 L;exact .up s n L f t a (h1.Te h2) ae<|hL.ty ae
 |pr x y f t a h1 h2 dA gi=>
  intro z hz;rw[tV]at hz;have hL:zG own [x,y]:=.of λu hu=>by
   exact MP
  refine .aH (jv<|jx rfl) aK hL λhn=>?_;simp only[nn]at hn;exact .two 6 iq 0 x y f t a (jv rfl) (hL.ty ae 0 ag)<|hL.ty ae 1 ag
 |fn x y f t a h1 h2 dA gi=>
  intro z hz;rw[tV]at hz;have hL:zG own [x,y]:=.of λu hu=>by
   exact MP
  refine .aH (jv<|jv rfl) aK hL λhn=>?_;simp only[nn]at hn;exact .two 17 iq 0 x y f t a (jx rfl) (hL.ty ae 0 ag)<|hL.ty ae 1 ag
def TyG.shut{nd:Nd}(h:TyG [] nd):vars [] (aI []<|Go.Proofs.YtfnkchdeheeiiaaGreatDoor.es nd).1=[]:=by
 rw[h.es];exact wY _ [] λn hn=>by have:=h.oc n hn;simp at this;omega
def qX(mk:BA->Option Nat)(mks:In.Mks):=∀s n,mk s=some n->∃tk m,mks s=some (tk,m)/\tk.length=n
section
variable {ty mk:BA->Option Nat}
def Ck(hr:qX mk mks):∀{L:List Nd},(∀x∈L,∀q,(nB mk x q).2.kind=0->(∀s∈mP x,s∈nl)->(nB mk x q).1=q.1++oq x/\qC mks nl x)->∀q,(dK mk L q).2.kind=0->(∀s∈jE L,s∈nl)->(dK mk L q).1=q.1++lS L/\∀i(h:i<L.length),qC mks nl L[i]
 |[],_,q,_,_=>⟨by simp[dK,lS],λi h=>absurd h<|jz i⟩|x::L,ih,q,hz,hn=>by
  rw[dK]at hz⊢;have⟨h1,h2⟩:=ih x ag q (Cm L _ hz) λs hs=>hn s (by simp[jE,hs]);have⟨h3,h4⟩:=Ck hr (L:=L) (λy hy=>ih y<|by simp[hy]) _ hz λs hs=>hn s (by simp[jE,hs]);refine⟨by rw[h3,h1];simp[lS],λi hi=>?_⟩
  cases i with
  |zero=>exact h2|succ i=>exact h4 i qBl
def ad7(hr:qX mk mks){nd:Nd}(h:wR nd):∀q,(nB mk nd q).2.kind=0->(∀s∈mP nd,s∈nl)->(nB mk nd q).1=q.1++oq nd/\qC mks nl nd:=by
 induction h with
 |any s f t a _=>exact λq _ _=>⟨by simp[nB,dK,oq,lS],.leaf 15 s 0 f t a ag⟩|low s f t a _ _=>exact λq _ hn=>⟨by simp[nB,oq],.low s 0 f t a<|hn s<|by simp[mP]⟩|num s n f t a _ _=>exact λq _ _=>⟨by simp[nB,dK,oq,lS],.leaf 3 s n f t a ag⟩|word s f t a _ _=>exact λq _ _=>⟨by simp[nB,dK,oq,lS],.leaf 4 s 0 f t a ag⟩|unit f t a=>exact λq _ _=>⟨by simp[nB,dK,oq,lS],.leaf 5 iq 0 f t a ag⟩|pr x y f t a _ _ dA gi=>
  intro q hz hn;have e:nB mk (.mk 6 iq 0 [x,y] f t a) q=dK mk [x,y] q:=by simp[nB,bi]
  rw[e]at hz⊢
  have⟨h1,h2⟩:=Ck hr (L:=[x,y]) (λu hu=>by
   simp only[jp,ju,or_false]at hu;obtain rfl|rfl:=hu
   .exact dA
   .exact gi) q hz λs hs=>hn s (by simp only[mP,jp];exact jv hs)
  exact⟨by rw[h1];simp[oq],.pr iq 0 x y f t a (h2 0 ag)<|h2 1 ag⟩
 |up s n L f t a _ _ _ _ ih=>
  intro q hz hn;have e:nB mk (.mk 2 s n L f t a) q=dK mk L (q.1,bi (mk s !=some L.length) 5 a (a+s.size) q.2):=by simp[nB]
  rw[e]at hz⊢;have hm:=(cI aK<|Cm L _ hz).1;have⟨h1,h2⟩:=Ck hr (L:=L) (λu hu=>ih u hu) _ hz λs hs=>hn s (by simp only[mP,jp];exact jv hs);have⟨tk,m,g1,g2⟩:=hr s L.length (by simpa using hm);exact⟨by rw[h1];simp[oq],.up s n L f t a tk m g1 g2.symm h2⟩
def MU(hr:qX mk mks){l:List BA}{dom:BA->Prop}(hd:∀s∈l,dom s):∀{A:List (Nd×Nd)},(∀p∈A,wR p.1)->(∀p∈A,∀l z,(dM ty mk p.2 l z).kind=0->(∀s∈mP p.2,s∈nl)->nn p.2<=1000->∀dom:BA->Prop,(∀s∈l,dom s)->ScE mks nl dom p.2)->∀z,(oV ty mk (aT A) l z).kind=0->(∀s∈jE (aT A),s∈nl)->bY (aT A)<=1000->(∀i(h:i<A.length),qC mks nl A[i].1)/\∀i(h:i<A.length),ScE mks nl (λv=>dom v\/v∈oq A[i].1) A[i].2
 |[],_,_,z,_,_,_=>⟨λi h=>absurd h<|jz i,λi h=>absurd h<|jz i⟩|(p,e)::A,hp,he,z,hz,hn,hl=>by
  simp only[aT]at hz hn hl;simp only[jE,jq]at hn;simp only[bY]at hl;rw[oV,UT]at hz;have h1:=Co (aT A) l _ hz;have⟨g1,g2⟩:=ad7 hr (hp (p,e) ag) _ (lf e _ _ h1) λs hs=>hn s<|jx hs;simp only[List.nil_append]at g1;have⟨f1,f2⟩:=MU hr hd (A:=A) (λq hq=>hp q<|by simp[hq]) (λq hq=>he q<|by simp[hq]) _ hz (λs hs=>hn s<|jv<|jv hs) ae;have g3:=he (p,e) ag _ _ h1 (λs hs=>hn s<|jv<|jx hs) (by show nn e<=1000;omega) (λv=>dom v\/v∈oq p) λs hs=>by
   obtain q|q:=List.mem_append.1 hs
   .exact jx (hd s q)
   .rw[g1]at q;exact jv q
  refine⟨λi hi=>?_,λi hi=>?_⟩
  .cases i with
   |zero=>exact g2|succ i=>exact f1 i qBl
  .cases i with
   |zero=>exact g3|succ i=>exact f2 i qBl
end
end
section
open Go.ChangeMaps Go.MapKept Un
section
variable {w:World} {c:WC} {cnt:Nat} {s:In.St} {kb gb:Nat} {Λ:Nat->Prop} {Q:Nat->Prop} {dom:BA->Prop} {st:BA} {z:Nd} {vx vy vz:Value}
def Cp{p:Prop}(h:p:=by
 go_wp2_with fail
 go_meet
 case rel=>exact HQ):p:=h
def QN(Hx:yO x)(Hy:yO y)(Hz:yO z)(h:Ah (.mk 12 st n [x,y,z] f t a) c w cnt s kb Λ Γ gb Q dom (.iface 317<|.agg #[Nv f,Nv t,vx,vy,vz]))(hx:PE w Q x vx)(hy:PE w Q y vy)(hz:PE w Q z vz):
 Cq 340 #[Pv c.eb,Mv kb,Mv gb,.agg #[Nv f,Nv t,vx,vy,vz]] w (aX c (1100*nn (.mk 12 st n [x,y,z] f t a)) (1000*nn (.mk 12 st n [x,y,z] f t a)) (In.inf c.mks (.mk 12 st n [x,y,z] f t a) Γ) s cnt w):=by
 have en:nn (.mk 12 st n [x,y,z] f t a)=1+nn x+nn y+nn z:=Jg;obtain⟨sx,sy,sz⟩:ScE c.mks c.nl dom x/\ScE c.mks c.nl dom y/\ScE c.mks c.nl dom z:=by
  cases h.sc with
  |ite _ _ _ _ _ _ _ _ _ hx hy hz=>exact⟨hx,hy,hz⟩
 have fb:=h.ft.b;rw[en]at fb;have H:=gd.start h<|Mn ..
 replace en:=ai en
 clear h;have HX:=ai hx;have HY:=ai hy;have HZ:=ai hz;obtain⟨tx,ax,rfl⟩:=hx.iface;obtain⟨ty,ay,rfl⟩:=hy.iface;obtain⟨tz,az,rfl⟩:=hz.iface;have Ji:=hx.place;have plz:=hz.place;dsimp only[PlF]at Ji plz;clear hx hy hz;go_enter func340,ntmps340;go_wp2_with fail;refine H.box.ex (D2:=1000*(1+nn y+nn z)) Hx HX sx ?_ o_ o_;intro T1 wE wF s1 ak iz w1 H;have⟨⟨_,b1,b2,b3⟩,_⟩:=H.p;go_wp2_with fail;go_cut[1]from 13 (λv wc=>yX c ak s1 Λ T1 In.iZ (In.ij x) (In.uQ x) w1 (Rv v) wc)
 case first=>
  go_region_with(first
   |(go_at_call 125;refine(mZ).mono ?_;rintro e w4⟨rfl,rfl⟩)
   |(go_at_call 403;refine(cW _ _).mono ?_;rintro e w5⟨rfl,k5⟩;have K5:Hid (Bq w1 w5):=ai<|(j6 _ _).drew.trans k5;clear k5)
   |(go_at_call 324;go_loud(refine(H.eqc K5 ((H.af K5).p.2.1.le (S':=900000) ae) (tO jY _ c _ ae) H.p.2.2<|su _).mono ?_);intro e w6 hq;obtain⟨fl,vl,vr,rfl,hE⟩|hq:=hq;go_loud(exact⟨rfl,hE⟩);have HQ:=ai hq;obtain⟨b6,rfl,-⟩:=hq))
  all_goals
   exact Cp
 case rest=>
  obtain⟨b6,s6,rfl,H⟩:=H.eqd hcut;clear hcut b1 b2 b3;have⟨⟨_,b1,b2,b3⟩,_⟩:=H.p;go_wp2_with fail;refine H.ex (D2:=1000*(1+nn z)) Hy HY sy ?_ ae o_;intro T3 ta3 xa3 s3 pG kb3 w3 H;clear b1 b2 b3;have⟨⟨⟨_,b1,b2,b3⟩,_⟩,_⟩:=H.p;go_wp2_with fail;refine H.ex (D2:=1000) Hz HZ sz ?_ ae o_;intro T4 ta4 xa4 s4 agy kb4 w4 H;clear b1 b2 b3;have⟨⟨⟨⟨_,b1,b2,b3⟩,_⟩,_⟩,_⟩:=H.p;go_wp2_with fail;refine(cW _ _).mono ?_;rintro e w5⟨rfl,K5⟩;have H:=H.af K5;go_wp2_with fail;refine H.eq (H.p.1.2.1.le (S':=900000) ae) (H.p.2.1.le ae) H.p.1.2.2 H.p.2.2 ?_;intro Td s6 w6 H
  go_wp2
  go_ret2;exact H.ret H.p.1.2.1 o_
def Z_(Hx:yO x)(Hy:yO y)(h:Ah (.mk 8 st n [x,y] f t a) c w cnt s kb Λ Γ gb Q dom (.iface 319<|.agg #[Nv f,Nv t,vx,vy]))(hx:PE w Q x vx)(hy:PE w Q y vy):
 Cq 343 #[Pv c.eb,Mv kb,Mv gb,.agg #[Nv f,Nv t,vx,vy]] w (aX c (1100*nn (.mk 8 st n [x,y] f t a)) (1000*nn (.mk 8 st n [x,y] f t a)) (In.inf c.mks (.mk 8 st n [x,y] f t a) Γ) s cnt w):=by
 have en:nn (.mk 8 st n [x,y] f t a)=1+nn x+nn y:=Jg;have⟨sx,sy⟩:=h.sc.ado<|.inr<|.inr rfl;have fb:=h.ft.b;rw[en]at fb;have H:=gd.start h<|Ec ..
 replace en:=ai en
 clear h;have HX:=ai hx;have HY:=ai hy;obtain⟨tx,ax,rfl⟩:=hx.iface;obtain⟨ty,ay,rfl⟩:=hy.iface;clear hx hy;go_enter func343,ntmps343;go_wp2_with fail;refine H.box.ex (D2:=1000*(1+nn y)) Hx HX sx ?_ o_ o_;intro T1 wE wF s1 ak iz w1 H;have⟨⟨_,b1,b2,b3⟩,_⟩:=H.p;go_wp2_with fail;refine H.ex (D2:=1000) Hy HY sy ?_ ae o_;intro T2 ta2 xa2 s2 cA kb2 w2 H;clear b1 b2 b3;have⟨e1,e2,e3⟩:=H.we.bx;go_wp2_with fail;refine H.new (D2:=999) ?_;intro s3 w3 H;clear e1 e2 e3;have⟨⟨⟨⟨_,b1,b2,b3⟩,_⟩,_⟩,_⟩:=H.p;have zc:=H.we.dh
 go_wp2
 go_region_with(first
  |(go_at_call 350;go_loud(refine(agd H.drew.p.1.2.1 (by simpa using Uf w3.drew c (cA+1)) (show c.cb<w3.drew.heap.size from zc)).mono ?_);rintro e w5⟨g,rfl,k5,t5⟩;have K5:=ai<|(j6 w3.heap.size w3).drew.trans k5;have T5:=ai t5;have⟨⟨⟨⟨_,d1,d2,d3⟩,_⟩,_⟩,_⟩:=(H.af K5).p;clear k5 t5)
  |(go_at_call 324;go_loud(refine(H.eqc K5 ((H.af K5).p.1.1.2.1.le (S':=900000) ae) (T5.le ae) H.p.1.1.2.2<|ZK H.p.1.2.2 H.p.2).mono ?_);intro e w6 hq;obtain⟨fl,vl,vr,rfl,hE⟩|hq:=hq;go_loud(exact⟨rfl,hE⟩);have HQ:=ai hq;obtain⟨b6,rfl,-⟩:=hq))
 all_goals
  go_wp2
  go_ret2;have⟨_,s6,e,H⟩:=H.eqd HQ
  cases e
  exact H.ret (by simpa using Uf w6 c (cA+1)) o_
def QM(Hx:yO x)(Hy:yO y)(h:Ah (.mk 7 st n [x,y] f t a) c w cnt s kb Λ Γ gb Q dom (.iface 297<|.agg #[Nv f,Nv t,.string st,vx,vy]))(hx:PE w Q x vx)(hy:PE w Q y vy)(hs:st=gU\/st=dP\/st=fG\/st=du):
 Cq 342 #[Pv c.eb,Mv kb,Mv gb,.agg #[Nv f,Nv t,.string st,vx,vy]] w (aX c (1100*nn (.mk 7 st n [x,y] f t a)) (1000*nn (.mk 7 st n [x,y] f t a)) (In.inf c.mks (.mk 7 st n [x,y] f t a) Γ) s cnt w):=by
 have en:nn (.mk 7 st n [x,y] f t a)=1+nn x+nn y:=Jg;have⟨sx,sy⟩:=h.sc.ado<|.inr<|.inl rfl;have fb:=h.ft.b;rw[en]at fb;have H:=gd.start h<|JO ..
 replace en:=ai en
 clear h;have HX:=ai hx;have HY:=ai hy;obtain⟨tx,ax,rfl⟩:=hx.iface;obtain⟨ty,ay,rfl⟩:=hy.iface;have Ji:=hx.place;have ply:=hy.place;dsimp only[PlF]at Ji ply;clear hx hy;go_enter func342,ntmps342;go_wp2_with fail;refine H.box.ex (D2:=1000*(1+nn y)) Hx HX sx ?_ o_ o_;intro T1 wE wF s1 ak iz w1 H;have⟨⟨_,b1,b2,b3⟩,_⟩:=H.p;go_wp2_with fail;go_cut[1]from 12 (λv wc=>yX c ak s1 Λ T1 In.dN (In.ij x) (In.uQ x) w1 (Rv v) wc)
 case first=>
  go_region_with(first
   |(go_at_call 124;refine(qL).mono ?_;rintro e w4⟨rfl,rfl⟩)
   |(go_at_call 403;refine(cW _ _).mono ?_;rintro e w5⟨rfl,k5⟩;have K5:Hid (Bq w1 w5):=ai<|(j6 _ _).drew.trans k5;clear k5)
   |(go_at_call 324;go_loud(refine(H.eqc K5 ((H.af K5).p.2.1.le (S':=900000) ae) (tO lV _ c _ ae) H.p.2.2<|su _).mono ?_);intro e w6 hq;obtain⟨fl,vl,vr,rfl,hE⟩|hq:=hq;go_loud(exact⟨rfl,hE⟩);have HQ:=ai hq;obtain⟨b6,rfl,-⟩:=hq))
  all_goals
   exact Cp
 case rest=>
  obtain⟨b6,s6,rfl,H⟩:=H.eqd hcut;clear hcut b1 b2 b3 Ji;have⟨⟨_,b1,b2,b3⟩,_⟩:=H.p;go_wp2_with fail;refine H.ex (D2:=1000) Hy HY sy ?_ ae o_;intro T3 ta3 xa3 s3 pG kb3 w3 H;clear b1 b2 b3;have⟨⟨⟨_,b1,b2,b3⟩,_⟩,_⟩:=H.p;go_wp2_with fail;go_cut[1]from 12 (λv wd=>yX c pG s3 Λ T3 In.dN (In.ij y) (In.uQ y) w3 (Rv v) wd)
  case first=>
   go_region_with(first
    |(go_at_call 124;refine(qL).mono ?_;rintro e w4⟨rfl,rfl⟩)
    |(go_at_call 403;refine(cW _ _).mono ?_;rintro e w5⟨rfl,k5⟩;have K5:Hid (Bq w3 w5):=ai<|(j6 _ _).drew.trans k5;clear k5)
    |(go_at_call 324;go_loud(refine(H.eqc K5 ((H.af K5).p.2.1.le (S':=900000) ae) (tO lV _ c _ ae) H.p.2.2<|su _).mono ?_);intro e w6 hq;obtain⟨fl,vl,vr,rfl,hE⟩|hq:=hq;go_loud(exact⟨rfl,hE⟩);have HQ:=ai hq;obtain⟨b6,rfl,-⟩:=hq))
   all_goals
    exact Cp
  case rest=>
   obtain⟨b7,s7,rfl,H⟩:=H.eqd hcut;clear hcut b1 b2 b3 ply;have⟨⟨⟨_,b1,b2,b3⟩,_⟩,_⟩:=H.p;have⟨e1,e2,e3⟩:=H.we.bx;obtain⟨hk,sg⟩|⟨hk,sg⟩:=H.we.rs.drew.look hs
   all_goals(
    first|have EO:Hid (opT st=In.iZ):=ai (if_pos hk)|have EO:Hid (opT st=In.dN):=ai<|if_neg hk
    clear hk
    go_wp2
    go_region_with(first|(go_at_call 125;refine(mZ).mono ?_;rintro e w4⟨rfl,rfl⟩)|(go_at_call 124;refine(qL).mono ?_;rintro e w4⟨rfl,rfl⟩));all_goals
     go_wp2
     go_ret2
     exact H.drew.ret (by rw[uh EO];first|exact tO jY _ c 1 (by omega)|exact tO lV _ c 1 ae) o_)
def Z9(Hx:yO x)(Hy:yO y)(h:Ah (.mk 6 st n [x,y] f t a) c w cnt s kb Λ Γ gb Q dom (.iface 309<|.agg #[Nv f,Nv t,vx,vy]))(hx:PE w Q x vx)(hy:PE w Q y vy):
 Cq 336 #[Pv c.eb,Mv kb,Mv gb,.agg #[Nv f,Nv t,vx,vy]] w (aX c (1100*nn (.mk 6 st n [x,y] f t a)) (1000*nn (.mk 6 st n [x,y] f t a)) (In.inf c.mks (.mk 6 st n [x,y] f t a) Γ) s cnt w):=by
 have en:nn (.mk 6 st n [x,y] f t a)=1+nn x+nn y:=Jg;have⟨sx,sy⟩:=h.sc.ado<|.inl rfl;have H:=gd.start h<|JN ..
 replace en:=ai en
 clear h;have HX:=ai hx;have HY:=ai hy;obtain⟨tx,ax,rfl⟩:=hx.iface;obtain⟨ty,ay,rfl⟩:=hy.iface;clear hx hy;go_enter func336,ntmps336;go_wp2_with fail;refine H.box.ex (D2:=1000*(1+nn y)) Hx HX sx ?_ o_ o_;intro T1 wE wF s1 ak iz w1 H;have⟨⟨_,b1,b2,b3⟩,_⟩:=H.p;go_wp2_with fail;refine H.ex (D2:=1000) Hy HY sy ?_ ae o_;intro T2 ta2 xa2 s2 cA kb2 w2 H;have zc:=H.we.dh;go_wp2_with fail;refine(Mp (w:=w2) wE ta2 wF xa2).mono ?_;rintro e w3⟨rfl,rfl⟩
 go_wp2
 go_ret2;exact(H.af<|bw _).ret (TW.pr H.p.1.2.1 H.p.2.1 zc) o_
def agj{y}(Hx:yO x)(h:Ah (.mk 9 st n [x] f t a) c w cnt s kb Λ Γ gb Q dom (.iface 313<|.agg #[Nv f,Nv t,Nv a,Nv y,.string st,vx]))(hx:PE w Q x vx):
 Cq 338 #[Pv c.eb,Mv kb,Mv gb,.agg #[Nv f,Nv t,Nv a,Nv y,.string st,vx]] w (aX c (1100*nn (.mk 9 st n [x] f t a)) (1000*nn (.mk 9 st n [x] f t a)) (In.inf c.mks (.mk 9 st n [x] f t a) Γ) s cnt w):=by
 have en:nn (.mk 9 st n [x] f t a)=1+nn x:=Za;have eG:=iY;obtain⟨iC,sx⟩:st∈c.nl/\ScE c.mks c.nl (λv=>dom v\/v=st) x:=by
  cases h.sc with
  |fn _ _ _ _ _ _ _ hs hx=>exact⟨hs,hx⟩
 have H:=gd.start h<|JF ..
 replace en:=ai en
 clear h;have HX:=ai hx;obtain⟨tx,ax,rfl⟩:=hx.iface;clear hx;have⟨e1,e2,e3⟩:=H.we.bx;go_enter func338,ntmps338;go_wp2_with fail;refine H.box.new (D2:=1000*nn x+999) ?_ o_;intro s3 w3 H;clear e1 e2 e3;have⟨⟨_,b1,b2,b3⟩,_⟩:=H.p
 go_wp2
 go_region_with(first
  |(go_at_call 319;go_loud(refine(vd ((H.wg.fr H.f H.st.p.run).e.af (j6 _ _).drew) st<|Ed (ox w3.drew c cnt 1<|br _) ae).mono ?_);rintro e w5⟨b5,rfl,z5,h5,k5⟩;have K5:=ai<|(j6 w3.heap.size w3).drew.trans k5;have⟨⟨_,d1,d2,d3⟩,_⟩:=(H.af K5).p;have E5:=ai h5;have Z5:=ai z5;clear k5 h5 z5)
  |(go_at_call 323;go_loud(refine H.exG (D2:=999) K5 Hx (H.asks K5 E5 Z5 H.p.2.mono List.nodup_nil iC HX sx (λ_ q=>q) ae o_) ?_);intro T6 Ui Uj s6 En Td w6 H6))
 all_goals
  have z6:=H6.we.dh;go_wp2_with fail;refine(agd (ox w6 c cnt 1<|br _) H6.p.2.1 z6).mono ?_;rintro e w7⟨g,rfl,k7,t7⟩
  go_wp2
  go_ret2;exact(H6.af k7).ret t7 o_
end
end
section
open Un
section
variable {ty mk:BA->Option Nat}
def EG ty mk mks nl nd:=∀l z,(dM ty mk nd l z).kind=0->(∀s∈mP nd,s∈nl)->nn nd<=1000->∀dom:BA->Prop,(∀s∈l,dom s)->ScE mks nl dom nd
def EG.two{k}{s}{n f t a}{x y}(hk:k=6\/k=7\/k=8)(hx:EG ty mk mks nl x)(hy:EG ty mk mks nl y):EG ty mk mks nl (.mk k s n [x,y] f t a):=by
 intro l z hz hn hl dom hd;have e:dM ty mk (.mk k s n [x,y] f t a) l z=dM ty mk y l (dM ty mk x l z):=by obtain rfl|rfl|rfl:=hk<;>simp[dM,iI]
 rw[e]at hz;simp only[mP,jE,jp,jq,jt]at hn;simp only[nn,bY]at hl;exact .two dom k s n x y f t a hk (hx l z (lf y _ _ hz) (λs hs=>hn s<|jv<|jx hs) ae dom hd)<|hy l _ hz (λs hs=>hn s<|jv<|jv hs) ae dom hd
def EG.fn{s}{n f t a}{x}(hx:EG ty mk mks nl x):EG ty mk mks nl (.mk 9 s n [x] f t a):=by
 intro l z hz hn hl dom hd;have e:dM ty mk (.mk 9 s n [x] f t a) l z=dM ty mk x (l++[s]) z:=by simp[dM,QP]
 rw[e]at hz;simp only[mP,jE,jp,jt]at hn;simp only[nn,bY]at hl;refine .fn dom s n x f t a (hn s<|jx rfl)<|hx _ z hz (λs hs=>hn s<|jv hs) ae _ λv hv=>?_;obtain q|q:=List.mem_append.1 hv
 .exact jx (hd v q)
 .grind
def EG.lt{c}{s}{n f t a}{x y}(hc:c=10\/c=11)(hx:EG ty mk mks nl x)(hy:EG ty mk mks nl y):EG ty mk mks nl (.mk c s n [x,y] f t a):=by
 intro l z hz hn hl dom hd;have e:dM ty mk (.mk c s n [x,y] f t a) l z=dM ty mk y (l++[s]) (dM ty mk x (if c=11 then l++[s]else l) z):=by obtain rfl|rfl:=hc<;>simp[dM,UU,QP]
 rw[e]at hz;simp only[mP,jE,jp,jq,jt]at hn;simp only[nn,bY]at hl;have hs:∀v∈l++[s],dom v\/v=s:=λv hv=>by
  obtain q|q:=List.mem_append.1 hv
  .exact jx (hd v q)
  .grind
 refine .lt dom c s n x y f t a (hn s<|jx rfl) hc (hx _ z (lf y _ _ hz) (λs hs=>hn s<|jv<|jx hs) ae _ λv hv=>?_)<|hy _ _ hz (λs hs=>hn s<|jv<|jv hs) ae _ hs;split at hv
 .rename_i q;exact(hs v hv).imp id λe=>⟨q,e⟩
 .grind
def ad8(hr:qX mk mks){nd}(h:ig nd):EG ty mk mks nl nd:=by
 induction h with
 |low s f t a _ _=>
  intro l z hz hn hl dom hd;have e:dM ty mk (.mk 1 s 0 [] f t a) l z=bi (!fC s l) 5 f t z:=by simp[dM]
  rw[e]at hz;exact .low dom s 0 f t a (hd s<|MW.1<|by simpa using(cI aK hz).1)
 |up s f t a _ _=>
  intro l z hz hn hl dom hd;have e:dM ty mk (.mk 2 s 0 [] f t a) l z=bi (mk s).isNone 5 f t z:=by simp[dM]
  rw[e]at hz;have h1:=(cI aK hz).1
  cases hm:mk s with
  |none=>grind|some n=>
   have⟨tk,m,g1,_⟩:=hr s n hm;exact .up dom s 0 f t a tk m g1
 |num s n f t a _ _=>exact λl z _ _ _ dom _=>.leaf dom 3 s n f t a ag|word s f t a _ _=>exact λl z _ _ _ dom _=>.leaf dom 4 s 0 f t a ag|unit f t a=>exact λl z _ _ _ dom _=>.leaf dom 5 iq 0 f t a ag|pr x y f t a _ _ dA gi=>exact .two ag dA gi|of x y f t a _ hy dA=>
  intro l z hz hn hl dom hd;have e:dM ty mk (.mk 14 iq 0 [x,y] f t a) l z=tV ty [] y (dM ty mk x l z):=by simp[dM,UW]
  rw[e]at hz;simp only[mP,jE,jp,jq,jt]at hn;simp only[nn,bY]at hl;have g:=JX hy _ hz;have gz:=g.sz;exact .of dom iq 0 x y f t a (dA l z (UX y _ hz) (λs hs=>hn s<|jv<|jx hs) ae dom hd) g.shut (by rw[g.es];omega) (by rw[g.es];exact g.wh)
 |op s x y f t a _ _ _ dA gi=>exact .two ag dA gi|call x y f t a _ _ dA gi=>exact .two ag dA gi|fn s x f t a _ _ _ ih=>exact ih.fn|lt s x z f t a _ _ _ _ dA UY=>exact .lt (jx rfl) dA UY|ltr s s' x z f t a f' t' a' _ _ _ _ _ _ dA UY=>exact .lt (jv rfl) dA.fn UY|ite x y w f t a _ _ _ dA gi ihw=>
  intro l z hz hn hl dom hd;have e:dM ty mk (.mk 12 iq 0 [x,y,w] f t a) l z=dM ty mk w l (dM ty mk y l<|dM ty mk x l z):=by simp[dM,iI]
  rw[e]at hz;simp only[mP,jE,jp,jq,jt]at hn;simp only[nn,bY]at hl;have h1:=lf w _ _ hz;exact .ite dom iq 0 x y w f t a (dA l z (lf y _ _ h1) (λs hs=>hn s<|jv<|jx hs) ae dom hd) (gi l _ h1 (λs hs=>hn s<|jv<|jv<|jx hs) ae dom hd)<|ihw l _ hz (λs hs=>hn s<|jv<|jv<|jv hs) ae dom hd
 |mt x A f t a _ _ hp _ dA ihA=>
  intro l z hz hn hl dom hd;have e:dM ty mk (.mk 13 iq 0 (x::aT A) f t a) l z=oV ty mk (aT A) l (dM ty mk x l z):=by simp[dM,aai]
  rw[e]at hz;simp only[mP,jE,jp,jq]at hn;simp only[nn,bY]at hl;have⟨g1,g2⟩:=MU hr hd hp (λp hq=>ihA p hq) _ hz (λs hs=>hn s<|jv<|jv hs) ae;exact .mt dom iq 0 x A f t a (dA l z (Co (aT A) l _ hz) (λs hs=>hn s<|jv<|jx hs) ae dom hd) g1 g2
end
end
end Go.Proofs.YtfnkchdeheeiiaaGreatDoor

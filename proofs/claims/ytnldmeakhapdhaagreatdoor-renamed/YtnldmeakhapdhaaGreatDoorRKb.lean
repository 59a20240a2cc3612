import Derived.Test.YtnldmeakhapdhaaGreatDoorRPq
import Derived.Test.YtnldmeakhapdhaaGreatDoorRXu
set_option linter.all false
set_option maxRecDepth 100000
set_option maxHeartbeats 8000000
namespace Go.Proofs.YtnldmeakhapdhaaGreatDoor
open Pu renaming bH->ja,Tok->jc,n8->jd,eY->jf,cX->jh,Dk->ji,gV->jj,at_->jk,mD->jl,aX->jm
open _root_.List renaming mem_cons->jo,mem_append->jp,take_succ_eq_append_getElem->jq,append_nil->jt,map_cons->ju,take_of_length_le->jv,not_mem_nil->jx,nodup_nil->jy
open Or renaming inr->jz,inl->j5
open In renaming OG->j6,gd->j7,inf->j8,yL->j9,Mks->qe,arr->qf,Ry->qg,Kr->qh,Env->qi,lL->qk,sg->ql
open _root_.Nat renaming le_trans->qm,not_lt_zero->qn,zero_le->qp,add_zero->qr,le_succ->qs,le_of_lt->qt
open Go.RowKit.Below renaming refl->qu,heap_setCell->qv
open Go.Proofs.Tryz renaming prog->qw,underlying9->qx
open Go.Instr renaming typeAssert->qy,lookup->qz
open Go.ByteArray renaming toList_eq->q9
open Go.World renaming cell?_of_block->xc
open Go Go.RowKit Proofs.Tryz
variable {s st:BA} {lo:BA->Nat} {F mk ty:BA->Option Nat} {dom:BA->Prop} {rc:Bool} {f f':Fl} {Γ:qi} {mks:qe} {d:In.Ml} {nl:List BA} {l:List Dc} {ms:List Nd} {T:List jc} {r:List UInt8} {part sm Hh:M Nd} {B b cb e gb i j k kb lb m mb n tb y:Nat} {P Q Λ:Nat->Prop} {a x z:Nd} {t:jc} {v vx:Value} {w w' w0 w1:World}
section
open Un
def p7(hi:i<b)(hb:b<=s.size):∃x r,(s.extract i b).toList=x::r/\x.toNat=jk s i/\∀p:Nat->Bool,(∀j,i<j->j<b->p (jk s j)=true)->∀y∈r,p y.toNat=true:=by
 have hl:(s.extract i b).toList.length=b-i:=by
  rw[q9];show(s.extract i b).size=_;rw[ByteArray.size_extract];omega
 have hg:∀j(h:j<(s.extract i b).toList.length),((s.extract i b).toList[j]).toNat=jk s (i+j):=λj h=>by
  rw[<-Zn s i b j hb ae,Pu.mF qBo];simp only[q9,ByteArray.getElem_eq_getElem_data,Array.getElem_toList]
 cases hc:(s.extract i b).toList with
 |nil=>grind|cons x r=>
  refine⟨x,r,rfl,?_,λp hp y hy=>?_⟩
  .have:=hg 0 ae;simp only[hc]at this;simpa using this
  .obtain⟨j,hj,rfl⟩:=List.getElem_of_mem hy;rw[hc]at hl;simp at hl;have:=hg (j+1) (by rw[hc];simp;omega);simp only[hc]at this;simp only[List.getElem_cons_succ]at this;rw[this];exact hp _ ae ae
def LH(s:BA):∀k,(∀i,i<k->Pu.dB (jk s i)=true)->xK s k<10^k
 |0,_=>by simp[xK]|k+1,h=>by
  have h1:=LH s k<|λi hi=>h i ae;have h2:=h k ae;simp[Pu.dB]at h2;have:(jk s k+208)%256<=9:=ae;simp only[xK,Nat.pow_succ];omega
def aeg(h:ada s):Ab s<1000000000:=by
 rw[Ab];obtain⟨h1,h2,h3⟩:=h;rw[Nat.min_eq_left h2];have:=LH s s.size h3;have h4:(10:Nat)^s.size<=10^9:=Nat.pow_le_pow_right aB h2;omega
def abI s{x}(h:s.toList=x::r):(⟨(x::r).toArray⟩:BA)=s:=by grind[toList_inj,toList_mk]
def aeh s(hs:s.size<=400)i(hi:i<s.size):ahL (jh s i):=by
 have rj:=JA s i hi;have ht:=jl s i hi;have hf:=ji s i;have gL:(jh s i).text.size<=400:=by have:=rj.sp;omega
 refine⟨λk1=>?_,λk2=>?_,λk3=>?_,λk4=>aeg<|rj.v4 k4,gL⟩
 .clear rj gL;revert k1 ht hf;rw[jh];repeat' split
  all_goals intro ht hf k1
  all_goals try(exfalso;simp[jj]at k1;done)
  rename_i h1 h2;simp only[jj]at ht;have⟨x,r,e1,e2,e3⟩:=p7 ht.1 ht.2;refine⟨x,r,e1,by rw[e2];exact h1,e3 _<|λj a b=>pV (j-i) i j rfl ae b,?_⟩;rw[abI _ e1];simpa using h2
 .clear rj gL;revert k2 ht hf;rw[jh];repeat' split
  all_goals intro ht hf k2
  all_goals try(exfalso;simp[jj]at k2;done)
  rename_i h1 h2;simp only[jj]at ht;have⟨x,r,e1,e2,e3⟩:=p7 ht.1 ht.2;exact⟨x,r,e1,by rw[e2];exact h2,e3 _<|λj a b=>pV (j-i) i j rfl ae b⟩
 .clear rj gL;revert k3 ht hf;rw[jh];repeat' split
  all_goals intro ht hf k3
  all_goals try(exfalso;simp[jj]at k3;done)
  rename_i h1 h2 h3 h4;simp only[jj]at ht;have⟨x,r,e1,e2,e3⟩:=p7 ht.1 ht.2;have bA:i+1<Pu.aJ s jm (i+1):=by
   have hi1:i+1<s.size:=by
    obtain q|q:=Nat.lt_or_ge (i+1) s.size
    .exact q
    .have:=h3.2;rw[Pu.Q0 q]at this;simp[Pu.gn]at this
   rw[Pu.eQ hi1<|by simp[jm,h3.2]];have:=Pu.fy s jm<|i+1+1;omega
  have⟨y,r',e1',e2',e3'⟩:=p7 bA ht.2;have e39:x=39:=UInt8.toNat_inj.1 (by rw[e2,h3.1];rfl);have er:r=y::r':=by
   have q1:=jF hi ht.1;rw[e1,e1']at q1;injection q1 with _ q2
  refine⟨y,r',by show(s.extract i _).toList=_;rw[e1,e39,er],by rw[e2'];exact h3.2,e3' _<|λj a b=>pV (j-(i+1)) (i+1) j rfl ae b,?_⟩;rw[abI _ e1'];simpa using h4
def p8(s:BA):∀f i t,t∈jd s f i->(∃j,j<s.size/\t=jh s j)\/t=jf s
 |0,i,t,h=>jz (by simpa[jd]using h)|f+1,i,t,h=>by
  rw[jd]at h;split at h
  .rename_i hi;split at h
   .exact p8 s f _ t h
   .obtain rfl|h:=List.mem_cons.1 h
    .exact j5 ⟨i,hi,rfl⟩
    .exact p8 s f _ t h
  .exact jz Hn
def lJ(s:BA):∀f i,∃l,jd s f i=l++[jf s]/\l.length<=f
 |0,i=>⟨[],rfl,ag⟩|f+1,i=>by
  rw[jd];split
  .split
   .have⟨l,h1,h2⟩:=lJ s f<|i+1;exact⟨l,h1,ae⟩
   .have⟨l,h1,h2⟩:=lJ s f (jh s i).to;exact⟨jh s i::l,by rw[h1];rfl,bF⟩
  .exact⟨[],rfl,ag⟩
def abJ(T:List jc)k:tk T k∈T\/tk T k=⟨7,⟨#[]⟩,0,0⟩:=by grind[tk]
def LI(t:jc)(h7:t.kind=7)(hz:t.text.size<=400):ahL t:=⟨by simp[h7],by simp[h7],by simp[h7],by simp[h7],hz⟩
def ub s(hs:s.size<=400):eN (ja s 0) ((ja s 0).length-1)/\(ja s 0).length<=401:=by
 have⟨l,h1,h2⟩:=lJ s (s.size-0) 0;have e:ja s 0=l++[jf s]:=h1;refine⟨⟨?_,λk=>?_,by rw[e];simp⟩,by rw[e];simp;omega⟩
 .rw[e];rw[tk];simp[jf]
 .obtain q|q:=abJ (ja s 0) k
  .obtain⟨j,hj,q⟩|q:=p8 s _ _ _ q
   .rw[q];exact aeh s hs j hj
   .rw[q];exact LI _ rfl (by simp[jf];decide)
  .rw[q];exact LI _ rfl aB
def aei(h:ahM (ja s 0) f):f.kind%6≠0/\f.al<=f.to/\f.to<=s.size:=by
 obtain⟨k,rfl⟩:=h;refine⟨by rw[d_];split<;>simp,?_⟩;have:(tk (ja s 0) k).al<=(tk (ja s 0) k).to/\(tk (ja s 0) k).to<=s.size:=by
  obtain q|q:=abJ (ja s 0) k
  .obtain⟨j,hj,q⟩|q:=p8 s _ _ _ q
   .rw[q,ji];have:=jl s j hj;omega
   .rw[q];simp[jf]
  .rw[q];simp
 rw[d_];split<;>exact this
def D3:Dc->Prop
 |.ty t vs ms=>BV t.text/\t.text.size<=400/\(∀v∈vs,NmV v.text/\v.text.size<=400)/\ms≠[]/\∀m∈ms,IW xH m|.lt r t b=>qE t.text/\t.text.size<=400/\iH b/\(r=true->Fn3 b)
def Hi:Dc->Nat
 |.ty _ vs ms=>1+vs.length+cD ms|.lt _ _ b=>1+nn b
def Jm(l:List Dc):Nat:=(l.map Hi).sum
end
inductive eF(T:List jc)(e:Nat):Nat->Nat->Nat->Nd->Prop where
 |leaf{s k:Nat}:(s=1\/s=2\/s=3)->k+1<=e->aF (tk T k) s=true->aU (tk T k) ls=false->eF T e s k (k+1) (b_<|tk T k)
 |unit{s k:Nat}:(s=2\/s=3)->k+2<=e->eF T e s k (k+2) (.mk 5 eW 0 [] (tk T k).al (aG T<|k+2) (tk T k).al)
 |par{s k j:Nat}{x:Nd}:eF T e s (k+1) j x->j+1<=e->eF T e s k (j+1) x
 |two{c s s' k i j:Nat}{x y:Nd}:(c=6/\s'=s/\(s=1\/s=2\/s=3)\/c=14/\s=3/\s'=1)->eF T e s (k+1) i x->eF T e s' (i+1) j y->j+1<=e->eF T e s k (j+1) (.mk c eW 0 [x,y] (tk T k).al (aG T<|j+1) (tk T k).al)
 |nm{s k:Nat}:(tk T k).kind=2->k+1<=e->eF T e (s+10) k (k+1) (.mk 2 (tk T k).text 0 [] (tk T k).al (tk T k).to (tk T k).al)
 |add{s k i j:Nat}{x y:Nd}:eF T e (s+10) k i x->eF T e s i j y->eF T e (s+10) k j (x.add y<|aG T j)
 |up{s k j:Nat}{x:Nd}:(s=1\/s=2)->eF T e (s+10) k j x->eF T e s k j x
 |arr{k i j:Nat}{x y:Nd}:eF T e 1 k i x->eF T e 1 (i+1) j y->eF T e 1 k j (.mk 17 eW 0 [x,y] (tk T k).al (aG T j) (tk T k).al)
 |call{k i j:Nat}{x y:Nd}:eF T e 3 k i x->eF T e 3 i j y->eF T e 3 k j (.mk 8 eW 0 [x,y] (tk T k).al (aG T j) (tk T k).al)
 |op{s:BA}{k i j:Nat}{x y:Nd}:(s=gh\/s=dE\/s=fc\/s=dL)->eF T e 3 k i x->eF T e 3 (i+1) j y->eF T e 3 k j (.mk 7 s 0 [x,y] (tk T k).al (aG T j) (tk T k).al)
 |fn{k j:Nat}{x:Nd}:(tk T<|k+1).kind=1->eF T e 3 (k+3) j x->eF T e 4 k j (.mk 9 (tk T<|k+1).text 0 [x] (tk T k).al (aG T j) (tk T<|k+1).al)
 |ex{k j:Nat}{x:Nd}:eF T e 4 k j x->eF T e 3 k j x
 |lt{k i j:Nat}{x z:Nd}:(tk T<|k+1).kind=1->eF T e 3 (k+3) i x->eF T e 3 (i+1) j z->eF T e 3 k j (.mk 10 (tk T<|k+1).text 0 [x,z] (tk T k).al (aG T j) (tk T<|k+1).al)
 |ltr{k i j:Nat}{x z:Nd}:(tk T<|k+2).kind=1->eF T e 4 (k+4) i x->eF T e 3 (i+1) j z->eF T e 3 k j (.mk 11 (tk T<|k+2).text 0 [x,z] (tk T k).al (aG T j) (tk T<|k+2).al)
 |ite{k i j l:Nat}{x y z:Nd}:eF T e 3 (k+1) i x->eF T e 3 (i+1) j y->eF T e 3 (j+1) l z->eF T e 3 k l (.mk 12 eW 0 [x,y,z] (tk T k).al (aG T l) (tk T k).al)
 |ar0{k i:Nat}{x:Nd}:eF T e 3 (k+1) i x->i+1<=e->eF T e 5 k (i+1) (.mk 13 eW 0 [x] (tk T k).al (aG T<|i+1) (tk T k).al)
 |ar{k i j q q':Nat}{l:List Nd}{p x:Nd}:eF T e 5 k i (.mk 13 eW 0 l (tk T k).al (aG T i) (tk T k).al)->eF T e 2 i j p->eF T e 3 (j+1) q x->(q'=q\/q'=q+1/\q+1<=e)->eF T e 5 k q' (.mk 13 eW 0 (l++[p,x]) (tk T k).al (aG T q') (tk T k).al)
 |mt{k i:Nat}{l:List Nd}:eF T e 5 k i (.mk 13 eW 0 l (tk T k).al (aG T i) (tk T k).al)->l.length≠1->i+1<=e->eF T e 3 k (i+1) (.mk 13 eW 0 l (tk T k).al (aG T<|i+1) (tk T k).al)
mutual
def PlN(n:Nat):Nd->Prop
 |.mk k s _ L f t a=>f<t/\t<=n/\(k=2->a+s.size<=n)/\(k=16->f+s.size<=n)/\PlL n L
def PlL(n:Nat):List Nd->Prop
 |[]=>True|x::l=>PlN n x/\PlL n l
end
def eF.le{s:Nat}(h:eF T e s k j a):k<j/\j<=e:=by induction h<;>omega
def qF(T:List jc)(e s:Nat)(m:M Nd):=∀k,k<=e->Gs T (m k) (λa k'=>eF T e s k k' a)
def yi(h:eN T e){s:Nat}(hs:s=1\/s=2\/s=3)(hp:qF T e s part)(ht:s=3->qF T e 1 Hh):qF T e s (aH T part Hh s):=by
 intro k hk;rw[aH];split
 .rename_i hb;have hk1:=h.step hk<|YF hb;split
  .rw[gq];split
   .rename_i hc;exact .unit (by have:=hc.1;omega)<|h.step hk1 qBn
   .refine(hp (k+1) hk1).aK λx k1 p=>?_;rw[kx];split
    .rename_i hc;refine(hp (k1+1)<|h.step p.le.2 qAc).aK λy k2 q=>?_;refine(uE h q.le.2 _).mono ?_;rintro a k3⟨rfl,rfl,r3⟩;exact .two (.inl ⟨rfl,rfl,hs⟩) p q r3
    .split
     .rename_i hc;refine(ht hc.1 (k1+1)<|h.step p.le.2 qBn).aK λy k2 q=>?_;refine(uE h q.le.2 _).mono ?_;rintro a k3⟨rfl,rfl,r3⟩;exact .two (.inr ⟨rfl,hc.1,rfl⟩) p q r3
     .refine(uE h p.le.2 _).mono ?_;rintro a k3⟨rfl,rfl,r3⟩;exact .par p r3
  .rename_i ho;exact .leaf hs hk1 hb (by simpa using ho)
 .exact fS
def Ex{s i:Nat}{sm:M Nd}(hm:qF T e s sm):∀f x k,eF T e (s+10) i k x->Gs T (dM T sm s f x k) (λa k'=>eF T e (s+10) i k' a)
 |0,x,k,hx=>hx|f+1,x,k,hx=>by
  unfold dM;split
  .exact(hm k hx.le.2).aK λy k1 p=>Ex hm f _ k1<|.add hx p
  .exact hx
def YG(h:eN T e){s:Nat}(hs:s=1\/s=2)(hm:qF T e s (aH T part Hh s)):qF T e s (iY T (aH T part Hh s) s):=by
 intro k hk;rw[iY];split
 .rename_i h2;have Mz:(tk T k).kind=2:=by simpa using h2
  have hsm:aH T part Hh s k=.error (d_<|tk T k)\/aH T part Hh s k=.ok (b_<|tk T k,k+1):=by
   rw[aH];split
   .rw[if_neg (by rw[aU];simp[Mz])];exact jz rfl
   .exact j5 rfl
  obtain q|q:=hsm
  .rw[aK];rw[q];exact fS
  .rw[aK];rw[q];have hx:eF T e (s+10) k (k+1) (b_<|tk T k):=by
    rw[show b_ (tk T k)=.mk 2 (tk T k).text 0 [] (tk T k).al (tk T k).to (tk T k).al by simp[b_,bI,Mz,eO]];exact .nm Mz (h.step hk (by rw[Mz];decide))
   exact(Ex hm T.length _ (k+1) hx).mono λa k'=>.up hs
 .exact hm k hk
def YH(h:eN T e):∀n,qF T e 1<|gP T n
 |0=>λk hk=>fS|n+1=>λk hk=>by
  have ih:=YH h n;rw[gP];refine(YG h (.inl rfl) (yi h (.inl rfl) ih λ_=>ih) k hk).aK λx k1 p=>?_;rw[oK];split
  .rename_i hc;exact(ih (k1+1)<|h.step p.le.2 qAc).aK λy k2 q=>.arr p q
  .exact p
def ae1(h:eN T e):∀n,qF T e 2<|dv T n
 |0=>λk hk=>fS|n+1=>λk hk=>by
  rw[dv];exact YG h (.inr rfl) (yi h (.inr<|.inl rfl) (ae1 h n) λq=>lq) k hk
def Ey{F:Nat->Nd->M Nd}(hm:qF T e 3 sm)(hF:∀i x k,eF T e 3 i k x->Gs T (F (tk T i).al x k) (λa k'=>eF T e 3 i k' a)):qF T e 3 (λk=>aK sm (F (tk T k).al) k):=
 λk hk=>(hm k hk).aK λx k1 p=>hF k x k1 p
def QA{sm:M Nd}(hm:qF T e 3 sm){i:Nat}:∀f x k,eF T e 3 i k x->Gs T (gp T sm (tk T i).al f x k) (λa k'=>eF T e 3 i k' a)
 |0,x,k,hx=>hx|f+1,x,k,hx=>by
  unfold gp;split
  .exact(hm k hx.le.2).aK λy k1 p=>QA hm f _ k1<|.call hx p
  .exact hx
def QB(h:eN T e){sm:M Nd}(hm:qF T e 3 sm){i:Nat}:∀f x k,eF T e 3 i k x->Gs T (iX T sm (tk T i).al f x k) (λa k'=>eF T e 3 i k' a)
 |0,x,k,hx=>hx|f+1,x,k,hx=>by
  unfold iX;split
  .rename_i hc;exact(hm (k+1)<|h.step hx.le.2 qAc).aK λy k1 p=>QB h hm f _ k1<|.op ag hx p
  .exact hx
def YI(h:eN T e){sm:M Nd}(hm:qF T e 3 sm){i:Nat}:∀f x k,eF T e 3 i k x->Gs T (qD T sm (tk T i).al f x k) (λa k'=>eF T e 3 i k' a)
 |0,x,k,hx=>hx|f+1,x,k,hx=>by
  unfold qD;split
  .rename_i hc;have h5:=hc.elim IU IU;exact(hm (k+1)<|h.step hx.le.2 (by rw[h5];decide)).aK λy k1 p=>YI h hm f _ k1 (.op (by obtain q|q:=hc<;>rw[YJ q]<;>simp) hx p)
  .exact hx
def aiV(h:eN T e)(hm:qF T e 3 sm):qF T e 3 (rE T<|eE T<|cO T sm):=
 have h1:=Ey (F:=λfr=>gp T sm fr T.length) hm λi x k=>QA hm T.length x k;have h2:=Ey (F:=λfr=>iX T (cO T sm) fr T.length) h1 λi x k=>QB h h1 T.length x k
 Ey (F:=λfr=>qD T (eE T<|cO T sm) fr T.length) h2 λi x k=>YI h h2 T.length x k
def ags(h:eN T e)(hm:qF T e 3 sm):qF T e 3 (oH T sm):=by
 intro k hk;rw[oH];refine(hm k hk).aK λx k1 p=>?_;show Gs T (if _ then _ else _) _;split
 .rename_i hc;exact(hm (k1+1)<|h.step p.le.2 qAc).aK λy k2 q=>.op ag p q
 .exact p
def ae2(h:eN T e){ex:M Nd}(hm:qF T e 3 ex):qF T e 4 (rF T ex):=by
 intro k hk;rw[rF];refine(cd h hk IQ).aK ?_;rintro _ k1⟨rfl,p1⟩;refine(oL h p1 1 aB).aK ?_;rintro t k2⟨rfl,t1,rfl,p2⟩;refine(cd h p2 rG).aK ?_;rintro _ k3⟨rfl,p3⟩;exact(hm _ p3).aK λx k4 q=>.fn t1 q
def BdD(T:List jc)(e k:Nat)(b:Nat×jc×Nd)(j:Nat):=(b.1=10/\b.2.1=tk T (k+1)/\(tk T<|k+1).kind=1/\eF T e 3 (k+3) j b.2.2)\/(b.1=11/\b.2.1=tk T (k+2)/\(tk T<|k+2).kind=1/\eF T e 4 (k+4) j b.2.2)
def BdD.le{k j:Nat}{b:Nat×jc×Nd}(h:BdD T e k b j):k+3<j/\j<=e:=by
 obtain⟨_,_,_,q⟩|⟨_,_,_,q⟩:=h<;>have:=q.le<;>omega
def QC(h:eN T e){ex:M Nd}(hm:qF T e 3 ex)(hk:k<=e):Gs T (bX T ex k) (BdD T e k):=by
 rw[bX];refine(cd h hk sR).aK ?_;rintro _ k1⟨rfl,p1⟩;show Gs T (if _ then _ else _) _;split
 .rename_i hc;refine(oL h (h.step p1 qAc) 1 aB).aK ?_;rintro t k2⟨rfl,t1,rfl,p2⟩;refine(cd h p2 QE).aK ?_;rintro _ k3⟨rfl,p3⟩;exact(ae2 h hm _ p3).aK λx k4 q=>.inr ⟨rfl,rfl,t1,q⟩
 .refine(oL h p1 1 aB).aK ?_;rintro t k2⟨rfl,t1,rfl,p2⟩;refine(cd h p2 QE).aK ?_;rintro _ k3⟨rfl,p3⟩;exact(hm _ p3).aK λx k4 q=>.inl ⟨rfl,rfl,t1,q⟩
def YK(h:eN T e){ex:M Nd}(hm:qF T e 3 ex):qF T e 3 (lz T ex):=by
 intro k hk;rw[lz];refine(cd h hk kIf).aK ?_;rintro _ k1⟨rfl,p1⟩;refine(hm _ p1).aK λx k2 a=>?_;refine(cd h a.le.2 ae3).aK ?_;rintro _ k3⟨rfl,p3⟩;refine(hm _ p3).aK λy k4 b=>?_;refine(cd h b.le.2 ae4).aK ?_;rintro _ k5⟨rfl,p5⟩;exact(hm _ p5).aK λz k6 c=>.ite a b c
def aiW(h:eN T e){ex:M Nd}(hm:qF T e 3 ex):qF T e 3 (oe T ex):=by
 intro k hk;rw[oe];refine(QC h hm hk).aK ?_;rintro⟨c,t,x⟩k1 b;refine(cd h b.le.2 kIn).aK ?_;rintro _ k2⟨rfl,p5⟩;refine(hm _ p5).aK λz k3 q=>?_;obtain⟨e1,e2,e3,e4⟩|⟨e1,e2,e3,e4⟩:=b<;>simp only at e1 e2 e4<;>subst e1 e2
 .exact .lt e3 e4 q
 .exact .ltr e3 e4 q
def YL(h:eN T e){pa ex:M Nd}(hp:qF T e 2 pa)(hm:qF T e 3 ex){i:Nat}:∀f l k,f≠0->eF T e 5 i k (.mk 13 eW 0 l (tk T i).al (aG T k) (tk T i).al)->l≠[]->Gs T (lA T pa ex f l k) (λl' k'=>eF T e 5 i k' (.mk 13 eW 0 l' (tk T i).al (aG T k') (tk T i).al)/\l'.length≠1)
 |f+1,l,k,_,hl,hn=>by
  rw[lA];refine(hp k hl.le.2).aK λp k1 a=>?_;refine(cd h a.le.2 rG).aK ?_;rintro _ k2⟨rfl,p2⟩;refine(hm _ p2).aK λx k3 b=>?_;have hz:(l++[p,x]).length≠1:=ag;show Gs T (if _ then _ else _) _;split
  .rename_i hc;have hc':=h.step b.le.2 qAc
   cases f with
   |zero=>exact⟨.ar hl a b<|.inr ⟨rfl,hc'⟩,hz⟩|succ f=>exact YL h hp hm (f+1) _ (k3+1) ag (.ar hl a b<|.inr ⟨rfl,hc'⟩) ag
  .exact⟨.ar hl a b<|.inl rfl,hz⟩
def ac1(h:eN T e){pa ex:M Nd}(hp:qF T e 2 pa)(hm:qF T e 3 ex):qF T e 3 (oI T pa ex):=by
 intro k hk;rw[oI];refine(cd h hk rD).aK ?_;rintro _ k1⟨rfl,p1⟩;refine(hm _ p1).aK λx k2 a=>?_;refine(cd h a.le.2 ae5).aK ?_;rintro _ k3⟨rfl,p3⟩;refine(YL h hp hm T.length [x] _ (by have:=h.pos;omega) (.ar0 a p3) ag).aK ?_;rintro l k4⟨b1,b2⟩;refine(cd h b1.le.2 aiX).aK ?_;rintro _ k5⟨rfl,p5⟩;exact .mt b1 b2 p5
def YM(h:eN T e):∀n,qF T e 3<|bq T n
 |0=>λk hk=>fS|n+1=>λk hk=>by
  have ih:=YM h n;unfold bq;split
  .exact(ae2 h ih k hk).mono λ_ _=>.ex
  split
  .exact YK h ih k hk
  split
  .exact ac1 h (ae1 h n) ih k hk
  split
  .exact aiW h ih k hk
  .exact ags h (aiV h<|yi h (.inr<|.inr rfl) ih λ_=>YH h n) k hk
def Ar3(nd:Nd):=∃x A f t a,nd=.mk 13 eW 0 (x::aP A) f t a/\iH x/\(∀p∈A,zN p.1)/\∀p∈A,iH p.2
def Shp:Nat->Nd->Prop
 |1=>xH|2=>zN|3=>iH|4=>Fn3|5=>Ar3|11=>IW xH|12=>IW zN|_=>λ_=>True
def eF.shp(h:eN T e){s:Nat}(d:eF T e s k j a):Shp s a:=by
 induction d with
 |leaf hs h1 h2 h3=>
  obtain rfl|rfl|rfl:=hs
  .exact aiY h h2 h3
  .exact aiZ h h2 h3
  .exact ai0 h h2 h3
 |unit hs _=>
  obtain rfl|rfl:=hs
  .exact zN.unit ..
  .exact iH.unit ..
 |par _ _ ih=>exact ih|two hc _ _ _ i1 i2=>
  obtain⟨rfl,rfl,rfl|rfl|rfl⟩|⟨rfl,rfl,rfl⟩:=hc
  .exact xH.pr _ _ _ _ _ i1 i2
  .exact zN.pr _ _ _ _ _ i1 i2
  .exact iH.pr _ _ _ _ _ i1 i2
  .exact iH.of _ _ _ _ _ i1 i2
 | @nm s k h1 h2=>
   have u:∀P,IW P<|.mk 2 (tk T k).text 0 [] (tk T k).al (tk T k).to (tk T k).al:=λP=>⟨_,[],_,_,_,rfl,(h.tok k).up h1,(h.tok k).sz,ag⟩
   match s with
   |0=>trivial|1=>exact u _|2=>exact u _|_+3=>trivial
 | @add s _ _ _ _ _ _ _ i1 i2=>
   match s,i1,i2 with
   |0,_,_=>trivial|1,i1,i2=>exact IW.add i1 i2 _|2,i1,i2=>exact IW.add i1 i2 _|_+3,_,_=>trivial
 |up hs _ ih=>
  obtain rfl|rfl:=hs
  .exact IW.ty ih
  .exact IW.pa ih
 |arr _ _ i1 i2=>exact xH.fn _ _ _ _ _ i1 i2|call _ _ i1 i2=>exact iH.call _ _ _ _ _ i1 i2|op hs _ _ i1 i2=>exact iH.op _ _ _ _ _ _ hs i1 i2|fn h1 _ ih=>exact⟨_,_,_,_,_,rfl,(h.tok _).low h1,(h.tok _).sz,ih⟩|ex _ ih=>exact Fn3.ex ih|lt h1 _ _ i1 i2=>exact iH.lt _ _ _ _ _ _ ((h.tok _).low h1) (h.tok _).sz i1 i2|ltr h1 _ _ i1 i2=>
  obtain⟨s',x',f',t',a',rfl,g1,g2,g3⟩:=i1;exact iH.ltr _ _ _ _ _ _ _ _ _ _ ((h.tok _).low h1) (h.tok _).sz g1 g2 g3 i2
 |ite _ _ _ i1 i2 i3=>exact iH.ite _ _ _ _ _ _ i1 i2 i3| @ar0 _ _ x _ _ ih=>exact⟨x,[],_,_,_,rfl,ih,ag,ag⟩| @ar _ _ _ _ _ _ p x _ _ _ _ i1 i2 i3=>
   obtain⟨y,A,f,t,a,e1,g1,g2,g3⟩:=i1;injection e1 with _ _ _ e1;subst e1;refine⟨y,A++[(p,x)],_,_,_,by rw[IX];rfl,g1,?_,?_⟩
   .intro q hq;obtain z|z:=List.mem_append.1 hq
    .exact g2 q z
    .rw[List.mem_singleton.1 z];exact i2
   .intro q hq;obtain z|z:=List.mem_append.1 hq
    .exact g3 q z
    .rw[List.mem_singleton.1 z];exact i3
 |mt d hn _ ih=>
  obtain⟨y,A,f,t,a,e1,g1,g2,g3⟩:=ih;injection e1 with _ _ _ e1;subst e1;exact iH.mt _ _ _ _ _ (λq=>by subst q;simp[aP]at hn) g1 g2 g3
def Ez{s:Nat}(d:eF T e s k j a):k<j/\nn a+1<=2*(j-k):=by
 induction d
 all_goals(try simp only[nn,cD,YN,sX,b_]at*)
 all_goals omega
structure rH(T:List jc)(e n:Nat):Prop where
 g:eN T e
 top:∀i,(tk T i).al<=400
 asc:∀i j,i<=j->j<=e->(tk T i).al<=(tk T j).al
 lt:∀i,i<e->(tk T i).al<(tk T i).to/\(tk T i).to<=n/\(tk T i).to=(tk T i).al+(tk T i).text.size
 nx:∀i j,i<j->j<e->(tk T i).to<=(tk T j).al
def rH.last(h:rH T e n)(hi:i<j)(hj:j<=e):(tk T i).al<aG T j/\aG T j<=n:=by
 rw[aG];rw[if_neg ae];have a:=h.lt i ae;have b:=h.lt (j-1) ae;have c:=h.asc i (j-1) ae ae;omega
def rH.mono(h:rH T e n)(h0:0<i)(hi:i<=j)(hj:j<=e):aG T i<=aG T j:=by
 unfold aG;rw[if_neg ae,if_neg ae];by_cases q:i=j
 .rw[q];exact br _
 .have:=h.nx (i-1) (j-1) ae ae;have:=h.lt (j-1) ae;omega
def toN:Nd->Nat
 |.mk _ _ _ _ _ t _=>t
def EA{lo:Nat}:∀{l m:List Nd},ME lo l->ME lo m->ME lo (l++m)
 |[],_,_,h=>h|_::_,_,g,h=>⟨g.1,EA g.2 h⟩
def PlL.C9{n:Nat}:∀{l m:List Nd},PlL n l->PlL n m->PlL n (l++m)
 |[],_,_,h=>h|_::_,_,h,k=>⟨h.1,PlL.C9 h.2 k⟩
def ac2(T:List jc)(n k j:Nat)(a:Nd):Prop:=Ge (tk T k).al a/\PlN n a/\toN a<=aG T j
def rH.nd(h:rH T e n){c a:Nat}{L:List Nd}(hk:k<j)(hj:j<=e)(hc:c≠2/\c≠16)(ha:(tk T k).al<=a/\a<=400)(hs:s.size<=400)(g:ME (tk T k).al L/\PlL n L):ac2 T n k j (.mk c s m L (tk T k).al (aG T j) a):=
 ⟨⟨⟨br _,ha.1⟩,⟨h.top _,ha.2,hs⟩,g.1⟩,⟨(h.last hk hj).1,(h.last hk hj).2,λq=>absurd q hc.1,λq=>absurd q hc.2,g.2⟩,br _⟩
def ac2.c(h:rH T e n){k':Nat}(p:ac2 T n k' j x)(h1:k<=k')(h2:k'<=e):Ge (tk T k).al x/\PlN n x:=⟨p.1.mono<|h.asc k k' h1 h2,p.2.1⟩
def rH.at0(h:rH T e n)(k:Nat):(tk T k).al<=(tk T k).al/\(tk T k).al<=400:=⟨br _,h.top k⟩
def eF.pos(h:rH T e n){s:Nat}(d:eF T e s k j a):ac2 T n k j a:=by
 have two:∀{k:Nat}{x y:Nd},Ge (tk T k).al x/\PlN n x->Ge (tk T k).al y/\PlN n y->ME (tk T k).al [x,y]/\PlL n [x,y]:=λp q=>⟨⟨p.1,q.1,trivial⟩,p.2,q.2,trivial⟩;have op4:∀{s:BA},(s=gh\/s=dE\/s=fc\/s=dL)->s.size<=400:=by rintro s(rfl|rfl|rfl|rfl)<;>decide
 have k0:eW.size<=400:=aB
 induction d with
 | @leaf s k hs h1 h2 h3=>
   have q:=h.lt k h1;exact⟨⟨⟨br _,br _⟩,⟨h.top _,h.top _,(h.g.tok k).sz⟩,trivial⟩,⟨q.1,q.2.1,λ_=>ae,λ_=>ae,trivial⟩,br _⟩
 |unit hs hj=>exact h.nd ae hj aB (h.at0 _) k0 ⟨trivial,trivial⟩|par d hj ih=>have:=d.le;exact⟨(ih.c h ae ae).1,ih.2.1,qm ih.2.2<|h.mono ae ae hj⟩|two hc d1 d2 hj i1 i2=>
  have a1:=d1.le;have a2:=d2.le;exact h.nd ae hj (by obtain⟨rfl,_⟩|⟨rfl,_⟩:=hc<;>decide) (h.at0 _) k0<|two (i1.c h ae ae)<|i2.c h ae ae
 | @nm s k h1 h2=>
   have q:=h.lt k h2;exact⟨⟨⟨br _,br _⟩,⟨h.top _,h.top _,(h.g.tok k).sz⟩,trivial⟩,⟨q.1,q.2.1,λ_=>ae,(λq=>lq),trivial⟩,br _⟩
 | @add _ _ _ _ x _ d1 d2 i1 i2=>
   have a1:=d1.le;have a2:=d2.le;have z:=i2.c h (qt a1.1) ae;have m:=h.mono (i:=_) ae (qt a2.1) a2.2
   cases x
   obtain⟨⟨g1,g2,g3⟩,⟨p1,p2,p3,p4,p5⟩,p6⟩:=i1;have p6:_<=_:=p6;simp only[toN]at p6;have l:=h.last (i:=_) a2.1 a2.2;exact⟨⟨g1,g2,EA g3 ⟨z.1,trivial⟩⟩,⟨ae,l.2,p3,p4,p5.C9 ⟨z.2,trivial⟩⟩,br _⟩
 |up _ _ ih=>exact ih|ex _ ih=>exact ih|arr d1 d2 i1 i2|op _ d1 d2 i1 i2|call d1 d2 i1 i2=>
  have a1:=d1.le;have a2:=d2.le;exact h.nd ae a2.2 aB (h.at0 _) (by first|exact k0|(apply op4;assumption))<|two (i1.c h ae ae)<|i2.c h ae ae
 |fn h1 d ih=>
  have a1:=d.le;exact h.nd ae a1.2 aB ⟨h.asc _ _ ae ae,h.top _⟩ (h.g.tok _).sz ⟨⟨(ih.c h ae ae).1,trivial⟩,ih.2.1,trivial⟩
 |lt _ d1 d2 i1 i2|ltr _ d1 d2 i1 i2=>
  have a1:=d1.le;have a2:=d2.le;exact h.nd ae a2.2 aB ⟨h.asc _ _ ae ae,h.top _⟩ (h.g.tok _).sz<|two (i1.c h ae ae)<|i2.c h ae ae
 | @ite k _ _ _ _ _ _ d1 d2 d3 i1 i2 i3=>
   have a1:=d1.le;have a2:=d2.le;have a3:=d3.le;have z:=i1.c h (qs _) ae;have y:=two (i2.c h (k:=k) ae ae)<|i3.c h ae ae;exact h.nd ae a3.2 aB (h.at0 _) k0 ⟨⟨z.1,y.1⟩,z.2,y.2⟩
 |ar0 d hj ih=>
  have a1:=d.le;have z:=ih.c h (qs _) ae;exact h.nd ae hj aB (h.at0 _) k0 ⟨⟨z.1,trivial⟩,z.2,trivial⟩
 | @ar k _ _ _ _ _ _ _ d1 d2 d3 hq i1 i2 i3=>
   have a1:=d1.le;have a2:=d2.le;have a3:=d3.le;have y:=two (i2.c h (k:=k) ae ae)<|i3.c h ae ae;obtain⟨⟨_,_,g⟩,⟨_,_,_,_,p⟩,_⟩:=i1;exact h.nd ae ae aB (h.at0 _) k0 ⟨EA g y.1,p.C9 y.2⟩
 |mt d hn hj ih=>
  have a1:=d.le;obtain⟨⟨_,_,g⟩,⟨_,_,_,_,p⟩,_⟩:=ih;exact h.nd ae hj aB (h.at0 _) k0 ⟨g,p⟩
inductive Ws(T:List jc)(e:Nat):Nat->Nat->List Nd->Prop where
 |one{i j:Nat}{m:Nd}:eF T e 11 i j m->Ws T e i j [m]
 |more{i j q:Nat}{ms:List Nd}{m:Nd}:Ws T e i j ms->eF T e 11 (j+1) q m->Ws T e i q (ms++[m])
inductive DcD(T:List jc)(e:Nat):Nat->Nat->Dc->Prop where
 |ty{k j q:Nat}{vs:List jc}{ms:List Nd}:(tk T<|k+1).kind=2->(∀v∈vs,v.kind=3/\∃q,q<e/\v=tk T q)->Ws T e (k+3+vs.length) j ms->j<q->q<=e->DcD T e k q (.ty (tk T<|k+1) vs ms)
 |lt{k j:Nat}{b:Nat×jc×Nd}:BdD T e k b j->j+1<=e->DcD T e k (j+1) (.lt (b.1==11) b.2.1 b.2.2)
inductive Wt(T:List jc)(e:Nat):Nat->List Dc->Prop where
 |nil:Wt T e 0 []
 |more{i j:Nat}{l:List Dc}{d:Dc}:Wt T e i l->DcD T e i j d->Wt T e j (l++[d])
def Ws.le{i j:Nat}{ms:List Nd}(h:Ws T e i j ms):i<j/\j<=e:=by
 induction h with
 |one d=>exact d.le|more _ d ih=>have:=d.le;omega
def DcD.le{i j:Nat}{d:Dc}(h:DcD T e i j d):i<j/\j<=e:=by
 cases h with
 |ty _ _ m hj _=>have:=m.le;omega|lt b hj=>have:=b.le;omega
def Wt.le{j:Nat}{l:List Dc}(h:Wt T e j l):j<=e:=by
 cases h with
 |nil=>exact qp _|more _ d=>exact d.le.2
def aeE(h:eN T e)(hm:qF T e 1 sm):qF T e 11 (dr T sm):=by
 intro k hk;rw[dr];refine(oL h hk 2 aB).aK ?_;rintro t k1⟨rfl,t1,rfl,p1⟩;exact Ex (s:=1) hm T.length _ (k+1)<|.nm t1 p1
def L7(h:eN T e){mk:M Nd}(hm:qF T e 11 mk){i:Nat}:∀f l k,k<=e->(l=[]/\k=i/\f≠0\/∃j,k=j+1/\Ws T e i j l)->Gs T (dZ T mk f l k) (λl' k'=>∃j,j<=k'/\k'<=e/\Ws T e i j l')
 |0,l,k,hk,hl=>by
  obtain⟨_,_,q⟩|⟨j,rfl,hl⟩:=hl
  .exact absurd rfl q
  .exact⟨j,qs _,hk,hl⟩
 |f+1,l,k,hk,hl=>by
  rw[mT];refine(hm k hk).aK λm k1 d=>?_;have q:Ws T e i k1 (l++[m]):=by
   obtain⟨rfl,rfl,_⟩|⟨j,rfl,hl⟩:=hl
   .exact .one d
   .exact .more hl d
  rw[lW];split
  .rename_i hc;exact L7 h hm f _ (k1+1) (h.step d.le.2 qAc)<|.inr ⟨k1,rfl,q⟩
  .exact⟨k1,br _,d.le.2,q⟩
def ab5(h:eN T e):∀f l k,k<=e->Gs T (mN T f l k) (λl' k'=>∃vs,l'=l++vs/\(∀v∈vs,v.kind=3/\∃q,q<e/\v=tk T q)/\k'=k+vs.length/\k'<=e)
 |0,l,k,hk=>⟨[],ag,ag,rfl,hk⟩|f+1,l,k,hk=>by
  unfold mN;split
  .rename_i h3;have hk1:=h.step hk ae;refine(ab5 h f _ (k+1) hk1).mono ?_;rintro l' k'⟨vs,rfl,a1,a2,a3⟩
   exact⟨tk T k::vs,ag,λv hv=>by
    obtain rfl|hv:=List.mem_cons.1 hv
    .exact⟨h3,k,hk1,rfl⟩
    .exact a1 v hv,bF,a3⟩
  .exact⟨[],ag,ag,rfl,hk⟩
def ah7(h:eN T e)(d:Nat)(hk:k<=e):Gs T (dD T d k) (λx k'=>DcD T e k k' x):=by
 have ht:=YH h d;rw[dD];split
 .rw[DI];refine(cd h hk nY).aK ?_;rintro _ k1⟨rfl,p1⟩;refine(oL h p1 2 aB).aK ?_;rintro t k2⟨rfl,t1,rfl,p2⟩;refine(ab5 h T.length [] _ p2).aK ?_;rintro l k3⟨vs,rfl,v1,rfl,v3⟩;refine(cd h v3 QE).aK ?_;rintro _ k4⟨rfl,p4⟩;refine(L7 h (i:=k+3+l.length) (aeE h<|yi h (.inl rfl) ht λ_=>ht) T.length [] _ p4<|.inl ⟨rfl,ae,by have:=h.pos;omega⟩).aK ?_;rintro ms k5⟨j,m1,m2,m3⟩;refine(cd h m2 Aj).aK ?_;rintro _ k6⟨rfl,p6⟩;exact .ty t1 v1 m3 ae p6
 .rw[AH];refine(QC h (YM h d) hk).aK λb k1 q=>?_;refine(cd h q.le.2 Aj).aK ?_;rintro _ k2⟨rfl,p5⟩;exact .lt q p5
def TL(h:eN T e)(d:Nat):∀f l k,Wt T e k l->Gs T (cT T (dD T d) f l k) (λl' k'=>Wt T e k' l')
 |0,l,k,hl=>hl|f+1,l,k,hl=>by
  unfold cT;split
  .exact(ah7 h d hl.le).aK λx k1 q=>TL h d f _ k1<|.more hl q
  .exact hl
def GX(hs:¬400<s.size):match bV s with
 |.error f=>ahM (ja s 0) f|.ok l=>∃j,Wt (ja s 0) ((ja s 0).length-1) j l:=by
 have h:=(ub s ae).1
 have h1:=(TL h (ja s 0).length (ja s 0).length [] 0 .nil).aK (f:=Gk<|ja s 0) (R:=λl _=>∃j,Wt (ja s 0) ((ja s 0).length-1) j l) (by
  intro l' k' q;rw[Gk];split
  .exact⟨_,q⟩
  .exact fS)
 rw[bV];rw[if_neg hs];revert h1
 cases aK (cT (ja s 0) (dD (ja s 0) (ja s 0).length) (ja s 0).length []) (Gk<|ja s 0) 0 with
 |error f=>intro h1;exact h1|ok p=>intro h1;exact h1
def Ws.all{P:Nd->Prop}(h:Ws T e i j ms)(hp:∀k q m,i<=k->q<=j->eF T e 11 k q m->P m):∀m∈ms,P m:=by
 induction h with
 |one d=>intro m hm;rw[List.mem_singleton.1 hm];exact hp _ _ _ (br _) (br _) d|more a d ih=>
  have:=a.le;have:=d.le;intro m hm;obtain z|z:=List.mem_append.1 hm
  .exact ih (λk q m h1 h2=>hp k q m h1 ae) m z
  .rw[List.mem_singleton.1 z];exact hp _ _ _ ae (br _) d
def Ws.nn(h:Ws T e i j ms):ms≠[]/\cD ms<=2*(j-i):=by
 induction h with
 |one d=>have:=Ez d;exact⟨ag,by simp[cD];omega⟩|more a d ih=>
  have:=a.le;have:=Ez d;exact⟨ag,by simp[sX,cD];omega⟩
def Wt.all{P:Dc->Prop}(h:Wt T e j l)(hp:∀i j d,DcD T e i j d->P d):∀d∈l,P d:=by
 induction h with
 |nil=>simp|more a d ih=>
  intro x hx;obtain z|z:=List.mem_append.1 hx
  .exact ih x z
  .rw[List.mem_singleton.1 z];exact hp _ _ _ d
def BdD.ex(h:eN T e){k j:Nat}{b:Nat×jc×Nd}(q:BdD T e k b j):qE b.2.1.text/\b.2.1.text.size<=400/\iH b.2.2/\((b.1==11)=true->Fn3 b.2.2)/\nn b.2.2+3<=2*(j-k):=by
 obtain⟨e1,e2,e3,e4⟩|⟨e1,e2,e3,e4⟩:=q<;>rw[e2,e1]<;>have:=Ez e4
 .exact⟨(h.tok _).low e3,(h.tok _).sz,e4.shp h,nofun,ae⟩
 .exact⟨(h.tok _).low e3,(h.tok _).sz,Fn3.ex<|e4.shp h,λ_=>e4.shp h,ae⟩
def DcD.d3(h:eN T e){d:Dc}(q:DcD T e k j d):D3 d/\Hi d<=2*(j-k):=by
 cases q with
 |ty t1 v m h1 h2=>
  have a:=m.nn;have b:=m.le;exact⟨⟨(h.tok _).up t1,(h.tok _).sz,λv' hv=>(by obtain⟨z,q,_,rfl⟩:=v v' hv;exact⟨(h.tok q).var z,(h.tok q).sz⟩),a.1,m.all λ_ _ _ _ _ d=>d.shp h⟩,by simp only[Hi];omega⟩
 |lt b hj=>
  have⟨b1,b2,b3,b4,b5⟩:=b.ex h;exact⟨⟨b1,b2,b3,b4⟩,by simp only[Hi];omega⟩
def Wt.nd(h:eN T e)(q:Wt T e j l):Jm l<=2*j:=by
 induction q with
 |nil=>simp[Jm]|more a d ih=>
  have:=(d.d3 h).2;have:=d.le;simp only[Jm,List.map_append,List.sum_append,ju,List.map_nil,List.sum_cons,List.sum_nil]at*;omega
def pT(hs:¬400<s.size):match bV s with
 |.error f=>f.kind%6≠0/\f.al<=f.to/\f.to<=s.size|.ok l=>(∀d∈l,D3 d)/\Jm l<=802:=by
 have⟨h,hl⟩:=ub s ae;have q:=GX hs
 cases e:bV s with
 |error f=>rw[e]at q;exact aei q|ok l=>
  rw[e]at q;obtain⟨j,q⟩:=q;exact⟨q.all λ_ _ _ d=>(d.d3 h).1,by have:=q.nd h;have:=q.le;omega⟩
section
open Un
def akm:Nd->Nat
 |.mk k _ _ _ _ _ _=>k
def TkP n(t:jc):=t.al<t.to/\t.to<=n
def GeZ:Dc->Prop
 |.ty _ _ ms=>∀m∈ms,Ge 0 m|.lt _ _ b=>Ge 0 b
def PlD(n:Nat):Dc->Prop
 |.ty t vs ms=>TkP n t/\(∀v∈vs,TkP n v)/\∀m∈ms,PlN n m/\akm m=2|.lt _ t b=>TkP n t/\PlN n b
def Bl(s:BA):∀f i,(∀(j:Nat)(h:j+1<(jd s f i).length),i<=((jd s f i)[j]).al/\((jd s f i)[j]).al<((jd s f i)[j]).to/\((jd s f i)[j]).to<=s.size/\((jd s f i)[j]).to=((jd s f i)[j]).al+((jd s f i)[j]).text.size)/\∀(j k:Nat)(hjk:j<k)(h:k+1<(jd s f i).length),((jd s f i)[j]).to<=((jd s f i)[k]).al
 |0,i=>⟨λj h=>by simp[jd]at h,λj k _ h=>by simp[jd]at h⟩|f+1,i=>by
  unfold jd;by_cases hi:i<s.size
  .by_cases hb:Pu.cL (jk s i)=true
   .simp only[hi,hb,if_true];have⟨h1,h2⟩:=Bl s f<|i+1;exact⟨λj h=>⟨by have:=(h1 j h).1;omega,(h1 j h).2⟩,h2⟩
   .simp only[hi,hb,if_true,if_false];have⟨h1,h2⟩:=Bl s f (jh s i).to;have ht:=jl s i hi;have hf:=ji s i;have hsp:=Ju s i hi;refine⟨λj h=>?_,λj k hjk h=>?_⟩
    .cases j with
     |zero=>exact⟨by simp[hf],by simp[hf];exact ht.1,by simp;exact ht.2,by simpa using hsp⟩|succ j=>
      have q:=h1 j Hn;exact⟨by have:=q.1;show i<=_;exact qm ae q.1,q.2⟩
    .cases k with
     |zero=>omega|succ k=>
      cases j with
      |zero=>simpa using(h1 k Hn).1|succ j=>simpa using h2 j k ae Hn
  .simp only[hi,if_false];exact⟨λj h=>vQ,λj k _ h=>vQ⟩
def aeF(s:BA)(hs:s.size<=400):rH (ja s 0) ((ja s 0).length-1) s.size:=by
 have⟨l,hl,_⟩:=lJ s (s.size-0) 0;have e:ja s 0=l++[jf s]:=hl;have⟨h1,h2⟩:=Bl s (s.size-0) 0;have h1:∀(j:Nat)(h:j+1<(ja s 0).length),0<=((ja s 0)[j]).al/\((ja s 0)[j]).al<((ja s 0)[j]).to/\((ja s 0)[j]).to<=s.size/\((ja s 0)[j]).to=((ja s 0)[j]).al+((ja s 0)[j]).text.size:=h1;have h2:∀(j k:Nat)(hjk:j<k)(h:k+1<(ja s 0).length),((ja s 0)[j]).to<=((ja s 0)[k]).al:=h2;have a:∀j,j<(ja s 0).length-1->(tk (ja s 0) j).al<(tk (ja s 0) j).to/\(tk (ja s 0) j).to<=s.size/\(tk (ja s 0) j).to=(tk (ja s 0) j).al+(tk (ja s 0) j).text.size:=λj hj=>by
  rw[<-Jt (T:=ja s 0) (k:=j) ae];exact(h1 j ae).2
 have b:∀i j,i<j->j<(ja s 0).length-1->(tk (ja s 0) i).to<=(tk (ja s 0) j).al:=λi j hij hj=>by
  rw[<-Jt (T:=ja s 0) (k:=i) ae,<-Jt (T:=ja s 0) (k:=j) ae];exact h2 i j hij ae
 have c:∀j,(ja s 0).length-1<=j->(tk (ja s 0) j).al=if j=(ja s 0).length-1 then s.size else 0:=λj hj=>by
  rw[tk];rw[List.getD_eq_getElem?_getD];split
  .rename_i q;rw[q,e];simp[jf]
  .rw[List.getElem?_eq_none ae];rfl
 refine⟨(ub s hs).1,λi=>?_,λi j h1 h2=>?_,a,b⟩
 .by_cases q:i<(ja s 0).length-1
  .have:=a i q;omega
  .rw[c i ae];split<;>omega
 .by_cases q:i=j
  .rw[q];exact br _
  .have x:=a i ae;by_cases z:j<(ja s 0).length-1
   .have:=b i j ae z;omega
   .rw[c j ae,if_pos ae];omega
theorem rH.tk(h:rH T e n)(hk:k<e):TkP n (Go.Proofs.YtnldmeakhapdhaaGreatDoor.tk T k):=⟨(h.lt k hk).1,(h.lt k hk).2.1⟩
def BdD.pos(h:rH T e n){k j:Nat}{b:Nat×jc×Nd}(q:BdD T e k b j):TkP n b.2.1/\PlN n b.2.2/\Ge 0 b.2.2:=by
 have:=q.le;obtain⟨_,e2,_,e4⟩|⟨_,e2,_,e4⟩:=q<;>rw[e2]<;>exact⟨h.tk ae,(e4.pos h).2.1,(e4.pos h).1.mono<|qp _⟩
def DcD.pos(h:rH T e n){k j:Nat}{d:Dc}(q:DcD T e k j d):PlD n d/\GeZ d:=by
 cases q with
 |ty t1 v m h1 h2=>
  have:=m.le;exact⟨⟨h.tk ae,λx hx=>(by obtain⟨_,q,hq,rfl⟩:=v x hx;exact h.tk hq),m.all λ_ _ _ _ _ d=>⟨(d.pos h).2.1,by obtain⟨_,_,_,_,_,rfl,_⟩:=d.shp h.g;rfl⟩⟩,m.all λ_ _ _ _ _ d=>(d.pos h).1.mono<|qp _⟩
 |lt b hj=>have:=b.pos h;exact⟨⟨this.1,this.2.1⟩,this.2.2⟩
def Wu(h:bV s=.ok l):∀d∈l,PlD s.size d/\GeZ d:=by
 have hs:¬400<s.size:=λq=>by simp[bV,q]at h
 have q:=GX hs;rw[h]at q;obtain⟨j,q⟩:=q;exact q.all λ_ _ _ d=>d.pos<|aeF s ae
def Bm(u:Y4):∀(l m:List Dc)(e:SE),dx u (l++m) e=dx u m (dx u l e)
 |[],_,_=>rfl|d::r,m,e=>Bm u r m _
def UJ u(l:List Dc)e i(h:i<l.length):dx u (l.take<|i+1) e=NZ u l[i] (dx u (l.take i) e):=by
 rw[jq h,Bm];rfl
def DSm:Dc->Prop
 |.ty _ vs ms=>vs.length<=1000/\∀m∈ms,Sm m|.lt _ _ b=>Sm b/\iH b
def ah8{m}(h:m∈ms):nn m<=cD ms:=yx h
def EV:∀{l:List Dc}{d:Dc},d∈l->Hi d<=Jm l
 |x::r,d,h=>by
  simp only[Jm,ju,List.sum_cons];obtain rfl|q:=List.mem_cons.1 h
  .omega
  .have:=EV q;simp only[Jm]at this;omega
def Y9(h:bV s=.ok l):(∀d∈l,DSm d)/\Jm l<=802:=by
 have hs:¬400<s.size:=λq=>by simp[bV,q]at h
 have hg:=pT hs;rw[h]at hg;refine⟨λd hd=>?_,hg.2⟩;have h1:=(Wu h d hd).2;have h2:=EV hd;have h3:=hg.1 d hd;have h4:=hg.2
 cases d with
 |ty t vs ms=>
  simp only[Hi]at h2;exact⟨ae,λm hm=>⟨h1 m hm,by have:=ah8 hm;omega⟩⟩
 |lt r t b=>
  simp only[Hi]at h2;exact⟨⟨h1,ae⟩,h3.2.2.1⟩
end
section
open Go.ChangeMaps Go.MapKept
section
variable {wr:World}
def FM.agB{c}(h:FM w b F)(o:One c w w')(hn:b≠c):FM w' b F:=h.same<|o.block b hn
def uH(h:CK w cb tb mb lb ty mk lo f)(hk:FM w kb F)(hn:kb≠cb)a b n s:
 Cq 68 #[cp cb,Mv kb,.agg #[Nv a,Nv b,.string s],Nv n] w λe w'=>e=.returned (.tuple #[])/\∃w1,Ke cb w w1/\CK w1 cb tb mb lb ty mk lo (ba (F s).isSome 4 a b f)/\One kb w1 w'/\FM w' kb (eM F s n):=by
 have⟨cE,B1⟩:=uo w #[Nv a,Nv b,Sv s] 74;have D1:=h.af cE;have K1:=Ke.of (rb:=cb) cE;have M1:=hk.below cE;have HC:=SG (v:=Mv kb) (Or.inr ⟨kb,rfl,M1⟩) s;have hz:=h.z;have⟨c1,f1,y1⟩:=uh B1;go_enter func68,ntmps68;go_wp2_with fail;refine HC.mono ?_;rintro e w2⟨rfl,rfl⟩
 cases hF:(F s).isSome with
 |true=>
  have s_:=rZ D1 4 a b;go_wp2_with fail;refine s_.mono ?_;rintro e w3⟨rfl,k3,D3⟩;have K3:=K1.trans k3;have B3:=ai<|B1.xI k3 ae;have⟨L,HM,HL⟩:=M1.ke k3 hn;have⟨c1,f1,y1⟩:=uh B3;go_wp2_with(refine aV _ rfl _ _ _ _ (jz rfl) (KL.str qx) Tryz.underlying103 _ _ rfl HM s (Nv n) rfl rfl trivial (λ_ _=>trivial) ?_;intro w4 H' O';have M4:=ai H';have O4:=ai O';clear H' O');go_end0;exact⟨rfl,_,K3,D3,O4,_,M4,FM.put HL s n⟩
 |false=>
  obtain⟨L,HM,HL⟩:=M1;go_wp2_with(refine aV _ rfl _ _ _ _ (jz rfl) (KL.str qx) Tryz.underlying103 _ _ rfl HM s (Nv n) rfl rfl trivial (λ_ _=>trivial) ?_;intro w4 H' O';have M4:=ai H';have O4:=ai O';clear H' O');go_end0;exact⟨rfl,_,K1,D1,O4,_,M4,FM.put HL s n⟩
def CK.ajb(h:CK w1 cb tb mb lb ty mk lo f)(o:One tb w1 w')(m:FM w' tb F):CK w' cb tb mb lb F mk lo f:=
 ⟨h.bx.one o h.ct,m,h.m.agB o h.tm.symm,h.l.same<|o.block lb h.tl.symm,h.ct,h.cm,h.cl,h.tm,h.tl,h.ml⟩
def CK.aja(h:CK w1 cb tb mb lb ty mk lo f)(o:One mb w1 w')(m:FM w' mb F):CK w' cb tb mb lb ty F lo f:=
 ⟨h.bx.one o h.cm,h.t.agB o h.tm,m,h.l.same<|o.block lb h.ml.symm,h.ct,h.cm,h.cl,h.tm,h.tl,h.ml⟩
end
theorem YZ(h:s.toList=39::r):(s.extract 1 s.size).toList=r:=by
 rw[q9]at h⊢;rw[ByteArray.data_extract];simp;rw[h];have:s.size=(39::r).length:=by rw[<-h];simp
 rw[this];simp
def ac4{t}(hs:∃r,s.toList=39::r)(ht:∃r,t.toList=39::r)(h:s.extract 1 s.size=t.extract 1 t.size):s=t:=by grind[YZ,toList_inj]
def NU.up{own}{F:BA->Option Nat}(h:NU own F){s:BA}(hs:∃r,s.toList=39::r)n:NU (own++[s]) (eM F (s.extract 1 s.size) n):=λx hx=>by
 have e:fQ x (own++[s])=(fQ x own||decide (s=x)):=by unfold fQ;rw[List.any_append];simp only[List.any_cons,List.any_nil,Bool.or_false]
 rw[e];unfold eM;by_cases q:s=x
 .subst q;simp
 .rw[if_neg<|λe=>q<|ac4 hs hx e.symm,h x hx];simp[q]
structure CD cb tb mb lb ob ty mk lo F w0 xb C f wr:Prop where
 d:CK wr cb tb mb lb ty mk lo f
 k:Fr (λb=>b=cb\/b=tb\/b=mb) w0 wr
 o:FM wr ob F
 b:Bx wr xb C
section
variable {ob xb:Nat} {C:Array Value} {F' mk':BA->Option Nat} {wr:World}
def CD.af(h:CD cb tb mb lb ob ty mk lo F w0 xb C f wr)(hb:Bq wr w'):CD cb tb mb lb ob ty mk lo F w0 xb C f w':=⟨h.d.af hb,h.k.trans<|Fr.of hb,h.o.below hb,h.b.below hb⟩
def CD.ke(h:CD cb tb mb lb ob ty mk lo F w0 xb C f wr)(hk:Ke cb wr w')(d:CK w' cb tb mb lb ty mk lo f')(ho:ob≠cb)(hx:xb≠cb):CD cb tb mb lb ob ty mk lo F w0 xb C f' w':=
 ⟨d,h.k.trans ⟨hk.os,hk.tape,hk.output,hk.size,λb hb hn=>hk.block b hb<|λe=>hn<|j5 e⟩,h.o.ke hk ho,h.b.xI hk hx⟩
def CD.alm(h:CD cb tb mb lb ob ty mk lo F w0 xb C f wr)(o:One ob wr w')(m:FM w' ob F')(n:ob≠cb/\ob≠tb/\ob≠mb/\ob≠lb)(hz:w0.heap.size<=ob)(hx:xb≠ob):CD cb tb mb lb ob ty mk lo F' w0 xb C f w':=
 ⟨h.d.one o n,h.k.trans' (⟨o.os,o.tape,o.output,Mn,λb _ hn=>o.block b hn⟩:Fr (λb=>b=ob) wr w')<|λb q=>jz (by have q:b=ob:=q;omega),m,h.b.one o hx⟩
def CD.aln(h:CD cb tb mb lb ob ty mk lo F w0 xb C f wr)(o:One mb wr w')(m:FM w' mb mk')(ho:ob≠mb)(hx:xb≠mb):CD cb tb mb lb ob ty mk' lo F w0 xb C f w':=
 ⟨h.d.aja o m,h.k.trans ⟨o.os,o.tape,o.output,Mn,λb _ hn=>o.block b<|λe=>hn<|jz<|jz e⟩,h.o.agB o ho,h.b.one o hx⟩
def Hk.of(h:FM w b F):Hk w (Mv b) F:=by grind[FM,Hk]
def PVR cb tb mb lb ob ty mk lo w0 xb C z(vs:List jc)(own:List BA)gk c wr:=∃(i:Nat)(F:BA->Option Nat),Hid (gk=vs.length-i)/\i<=vs.length/\c=Nv i/\CD cb tb mb lb ob ty mk lo F w0 xb C (ET [] (vs.take i) z) wr/\NU (own.take i) F
def PMR cb tb mb lb ob ty mk lo F w0 xb C z(ms:List Nd)own gk c wr:=∃j:Nat,Hid (gk=ms.length-j)/\j<=ms.length/\c=Nv j/\CD cb tb mb lb ob ty (Rd eM ty own (ms.take j) (mk,z)).1 lo F w0 xb C (Rd eM ty own (ms.take j) (mk,z)).2 wr
def Y3(u:Y4)(ty:BA->Option Nat)(own:List BA):Nd->(BA->Option Nat)×Fl->(BA->Option Nat)×Fl
 |.mk _ s _ L _ _ a,q=>(u q.1 s L.length,iP ty own L<|ba (q.1 s).isSome 4 a (a+s.size) q.2)
def Jj(u:Y4)(ty:BA->Option Nat)(own:List BA):∀(l:List Nd)(m:Nd)(q:(BA->Option Nat)×Fl),Rd u ty own (l++[m]) q=Y3 u ty own m (Rd u ty own l q)
 |[],.mk _ _ _ _ _ _ _,q=>rfl|.mk _ _ _ _ _ _ _::r,m,q=>Jj u ty own r m _
def UG u ty own(ms:List Nd)q j(h:j<ms.length):Rd u ty own (ms.take<|j+1) q=Y3 u ty own ms[j] (Rd u ty own (ms.take j) q):=by
 rw[jq h,Jj]
def NY{vs}{vv vm}{x y}(h:CK w cb tb mb lb ty mk lo f)(hB:B<=cb)(hBt:B<=tb)(hBm:B<=mb)(BZ:B<=lb)(hv:RowV QName 3 w (·<B) vs vv)(hm:RowV QMaker 6 w (·<B) ms vm)(hvs:vs.length<=1000)(hms:∀m∈ms,Sm m)(Y5:ms.length<=1000):
 Cq 44 #[cp cb,.agg #[Iv x,Iv y,Nv t.al,Nv t.to,.string t.text,vv,vm]] w λe w'=>e=.returned (.tuple #[])/\Fr (λb=>b=cb\/b=tb\/b=mb) w w'/\CK w' cb tb mb lb (eM ty t.text vs.length) (Rd eM (eM ty t.text vs.length) (vs.map (·.text)) ms (mk,ET [] vs<|ba (ty t.text).isSome 4 t.al t.to f)).1 lo (Rd eM (eM ty t.text vs.length) (vs.map (·.text)) ms (mk,ET [] vs<|ba (ty t.text).isSome 4 t.al t.to f)).2:=by
 obtain⟨va,vc,cv,rfl,HVR,HVQ⟩:=hv;obtain⟨ma,mc,cm,rfl,HMR,hmq⟩:=hm;obtain⟨C,hC⟩:∃C:Array Value,Hid<|C=#[Iv x,Iv y,Nv t.al,Nv t.to,Sv t.text,Lv va vs.length vc,Lv ma ms.length mc]:=⟨_,ai rfl⟩;have jA:= @run_makeMap qw;have HMQ:=ai hmq;have⟨z1,z2,z3,z4⟩:=h.lts;have⟨cE,B1⟩:=uo w #[Iv x,Iv y,Nv t.al,Nv t.to,Sv t.text,Lv va vs.length vc,Lv ma ms.length mc] 78;have D1:=ai<|h.af cE;have F1:Hid (Fr (λb=>b=cb\/b=tb\/b=mb) w<|w.alloc<|Cv #[Iv x,Iv y,Nv t.al,Nv t.to,Sv t.text,Lv va vs.length vc,Lv ma ms.length mc] 78):=ai<|Fr.of cE;obtain⟨own,fX⟩:∃own,Hid (own=vs.map (·.text)):=⟨_,ai rfl⟩;have ho:own.length=vs.length:=by rw[uh fX];simp
 obtain⟨TY,hTY⟩:∃TY,Hid<|TY=eM ty t.text vs.length:=⟨_,ai rfl⟩;obtain⟨Q,HQ⟩:∃Q,Hid<|Q=Rd eM TY own ms (mk,ET [] vs<|ba (ty t.text).isSome 4 t.al t.to f):=⟨_,ai rfl⟩;rw[<-uh fX,<-uh hTY,<-uh HQ];have zT:∀b,b<B->¬(b=cb\/b=tb\/b=mb):=λb hb q=>ae;have hct:=h.ct;have htc:tb≠cb:=λe=>h.ct e.symm;have hmc:mb≠cb:=λe=>h.cm e.symm;have⟨c1,f1,y1⟩:=uh B1;have⟨c2,f2,y2⟩:=D1.bx;clear h hmq cE;go_enter func44,ntmps44;go_wp2_with fail;go_cut[]from 9 (λwc=>CK wc cb tb mb lb TY mk lo (ba (ty t.text).isSome 4 t.al t.to f)/\Fr (λb=>b=cb\/b=tb\/b=mb) w wc/\Bx wc w.heap.size #[Iv x,Iv y,Nv t.al,Nv t.to,Sv t.text,Lv va vs.length vc,Lv ma ms.length mc])
 case first=>
  go_region_with(go_at_call 68;refine(uH (D1.af (qu _ _).drew) (D1.af (qu _ _).drew).t htc t.al t.to vs.length t.text).mono ?_;rintro e w3⟨rfl,w2,k2,d2,o2,m2⟩;have D3:=ai<|d2.ajb o2 m2;have F3:=ai ((F1.drew.trans (⟨k2.os,k2.tape,k2.output,k2.size,λb hb hn=>k2.block b hb<|λe=>hn<|j5 e⟩:Fr (λb=>b=cb\/b=tb\/b=mb) _ _)).trans (⟨o2.os,o2.tape,o2.output,by rw[o2.size];exact br _,λb _ hn=>o2.block b<|λe=>hn<|jz<|j5 e⟩:Fr (λb=>b=cb\/b=tb\/b=mb) _ _));have B3:=ai<|(B1.gw.xI k2 ae).one o2 ae;clear k2 d2 o2 m2)
  all_goals(
   go_wp2_with fail
   go_meet
   case rel=>exact⟨by rw[uh hTY];exact D3,F3,B3⟩)
 case rest=>
  obtain⟨D2,F2,B2⟩:=hcut;have hw2:=F2.size;clear D1 F1 B1 c1 f1 y1 c2 f2 y2;generalize ba (ty t.text).isSome 4 t.al t.to f=z1' at D2 HQ;have X3:Hid (CD cb tb mb lb wc.heap.size TY mk lo (λ_=>none) w w.heap.size #[Iv x,Iv y,Nv t.al,Nv t.to,Sv t.text,Lv va vs.length vc,Lv ma ms.length mc] z1'<|wc.alloc<|.map #[] 0):=ai ⟨D2.af<|bw _,F2.trans<|Fr.of<|bw _,⟨[],MS.new _ wc,λx=>rfl⟩,B2.alloc _⟩;have⟨zc1,zc2,zc3,zc4⟩:=D2.lts;have zB:=B2.z;have Jk:wc.heap.size≠cb/\wc.heap.size≠tb/\wc.heap.size≠mb/\wc.heap.size≠lb:=⟨ae,ae,ae,ae⟩;have hxo:w.heap.size≠wc.heap.size:=ae;have⟨c1,f1,y1⟩:=X3.b;clear D2 F2 B2;go_wp2_with fail;clear c1 f1 y1;go_loopg[24] vs.length (λgk c wr=>PVR cb tb mb lb wc.heap.size TY mk lo w w.heap.size #[Iv x,Iv y,Nv t.al,Nv t.to,Sv t.text,Lv va vs.length vc,Lv ma ms.length mc] z1' vs own gk c wr)
  case atStart=>exact⟨0,_,ai rfl,qp _,rfl,X3,λs _=>by simp[fQ]⟩
  case round=>
   clear X3;obtain⟨i,F,dl,hi,rfl,hX,hO⟩:=hrel;have XR:=ai hX;have HO:=ai hO;have hsw:=hX.k.size;clear hX hO;have⟨c1,f1,y1⟩:=XR.b;by_cases bA:i<vs.length
   .have hd:(i:Int)<(vs.length:Int):=ae;obtain⟨g,rfl,Y6,hg,qQ⟩:∃g,va=some ⟨g,0,none⟩/\g<B/\g<w.heap.size/\∀i,i<vs.length->∀j,j<3->w.cell? ⟨g,i*3+j,none⟩=some (cv i j):=by
     obtain e|e:=HVR
     .exact absurd bA UH
     .exact e
    have mw:∀o,wr.cell? ⟨g,o,none⟩=w.cell? ⟨g,o,none⟩:=λo=>xc (a:=⟨g,o,none⟩)<|XR.k.block g hg<|zT g Y6;have d0:=(mw _).trans<|qQ i bA 0 ae;have d1:=(mw _).trans<|qQ i bA 1 ae;have d2:=(mw _).trans<|qQ i bA 2 ae;have⟨e0,e1,e2,e3,e4⟩:=HVQ i bA;rw[e0]at d0;rw[e1]at d1;rw[e2]at d2;simp only[qr]at d0;have Hl:=ai<|Y7 vs z1' i bA;rw[<-uh fX]at Hl;have HOS:=HO vs[i].text e3
    have HOU:=ai (show NU (own.take<|i+1) (eM F (vs[i].text.extract 1 vs[i].text.size) 0) by
     have rl:i<own.length:=ae;have eo:own[i]=vs[i].text:=by simp[uh fX]
     rw[jq rl,eo]
     exact HO.up e3 0)
    generalize ET [] (vs.take i) z1'=zi at XR Hl;generalize vs[i]=v at d0 d1 d2 Hl HOS HOU;have⟨cE,BA⟩:=uo wr #[Nv v.al,Nv v.to,Sv<|v.text.extract 1 v.text.size] 74;have XA:=ai<|XR.af cE;have HC:=ai<|uH XA.d XA.o Jk.1 v.al v.to 0<|v.text.extract 1 v.text.size;rw[HOS,<-uh Hl]at HC;have⟨c2,f2,y2⟩:=uh BA;clear cE e0 e1 e2 e3 e4 mw qQ;go_wp2_with fail;refine HC.mono ?_;rintro e w3⟨rfl,w2,k2,dd2,o2,m2⟩;have X5:=(XA.ke k2 dd2 Jk.1 ae).alm o2 m2 Jk ae hxo;clear k2 dd2 o2 m2 HC
    go_wp2
    go_roundg(vs.length-(i+1))
    case measure=>rw[uh dl];omega
    case rel=>exact⟨i+1,_,ai rfl,ae,jP,X5,HOU⟩
   .have hd:decide ((i:Int)<(vs.length:Int))=false:=bF;have he:vs.take i=vs:=jv ae;have he2:own.take i=own:=jv ae;rw[he]at XR;rw[he2]at HO;generalize ET [] vs z1'=z2' at XR HQ;go_wp2_with fail;clear c1 f1 y1;go_loopg[36] ms.length (λgk c wr=>PMR cb tb mb lb wc.heap.size TY mk lo F w w.heap.size #[Iv x,Iv y,Nv t.al,Nv t.to,Sv t.text,Lv va vs.length vc,Lv ma ms.length mc] z2' ms own gk c wr)
    case atStart=>exact⟨0,ai rfl,qp _,rfl,XR⟩
    case round=>
     clear XR;obtain⟨j,hgj,hj,rfl,hX⟩:=hrel;have XJ:=ai hX;have hsj:=hX.k.size;clear hX;have⟨c1,f1,y1⟩:=XJ.b;by_cases hlj:j<ms.length
     .have UI:(j:Int)<(ms.length:Int):=ae;obtain⟨g,rfl,Y6,hg,qQ⟩:∃g,ma=some ⟨g,0,none⟩/\g<B/\g<w.heap.size/\∀i,i<ms.length->∀j,j<6->w.cell? ⟨g,i*6+j,none⟩=some (cm i j):=by
       obtain e|e:=HMR
       .exact absurd hlj UH
       .exact e
      have mw:∀o,wr.cell? ⟨g,o,none⟩=w.cell? ⟨g,o,none⟩:=λo=>xc (a:=⟨g,o,none⟩)<|XJ.k.block g hg<|zT g Y6;have d0:=(mw _).trans<|qQ j hlj 0 ae;have d1:=(mw _).trans<|qQ j hlj 1 ae;have d2:=(mw _).trans<|qQ j hlj 2 ae;have d3:=(mw _).trans<|qQ j hlj 3 ae;have d4:=(mw _).trans<|qQ j hlj 4 ae;have d5:=(mw _).trans<|qQ j hlj 5 ae;obtain⟨ss,nn',L,mf,mt,aa,yy,vt,e0,q0,q1,q2,q3,q4,q5,hu,hyy,ta,tc,ct,rfl,htr,HTQ⟩:=uh HMQ j hlj;rw[q0]at d0;rw[q1]at d1;rw[q2]at d2;rw[q3]at d3;rw[q4]at d4;rw[q5]at d5;simp only[qr]at d0;have HSM:=ai (show Sm (.mk 2 ss nn' L mf mt aa) by rw[<-e0];exact hms _<|List.getElem_mem hlj);have⟨hLl,hf4,ha4,hs4⟩:=HSM.len;have Hl:=ai<|UG eM TY own ms (mk,z2') j hlj;rw[e0]at Hl;rw[Y3]at Hl;generalize Rd eM TY own (ms.take j) (mk,z2')=qj at XJ Hl;obtain⟨mkj,zj⟩:=qj;simp only at Hl XJ;have HYY:=ai hyy;have HTR:=ai htr;have⟨cE,BA⟩:=uo wr #[Nv mf,Nv mt,Nv aa,Nv yy,Sv ss,Lv ta L.length tc] 181;have XA:=ai<|XJ.af cE;have⟨zr1,zr2,zr3,zr4⟩:=XJ.d.lts;have zro:=XJ.o.lt;have zrx:=XJ.b.z;have⟨c2,f2,y2⟩:=uh BA;have⟨c3,f3,y3⟩:=XA.d.bx;clear cE q0 q1 q2 q3 q4 q5 mw qQ hyy htr e0 XJ c1 f1 y1;go_wp2_with fail
      go_cut[]from 37 to 56 (λwd=>CD cb tb mb lb wc.heap.size TY (eM mkj ss L.length) lo F w w.heap.size #[Iv x,Iv y,Nv t.al,Nv t.to,Sv t.text,Lv va vs.length vc,Lv (some ⟨g,0,none⟩) ms.length mc] (ba (mkj ss).isSome 4 aa (aa+ss.size) zj) wd/\Bx wd wr.heap.size #[Nv mf,Nv mt,Nv aa,Nv yy,Sv ss,Lv ta L.length tc])
      case first=>
       go_region_with(go_at_call 68;refine(uH (XA.af (qu _ _).drew).d (XA.af (qu _ _).drew).d.m hmc aa yy L.length ss).mono ?_;rintro e w3⟨rfl,w2,k2,dd2,o2,m2⟩;have X3:=ai<|((XA.af (qu _ _).drew).ke k2 dd2 Jk.1 ae).aln o2 m2 Jk.2.2.1 ae;have B3:=ai<|(BA.gw.xI k2 ae).one o2 ae;clear k2 dd2 o2 m2)
       all_goals(
        go_wp2_with fail
        go_meet
        case rel=>exact⟨by rw[<-uh HYY];exact X3,B3⟩)
      case rest=>
       obtain⟨X4,B4⟩:=hcut;clear XA BA c2 f2 y2 c3 f3 y3;generalize ba (mkj ss).isSome 4 aa (aa+ss.size) zj=zt at X4 Hl;obtain⟨c2,f2,y2⟩:=B4
       have HC:=ai (Da (sa:=ta) (sc:=tc) (vs:=λi=>ct i 0) (own:=own) (λx _=>Jl x) X4.d hB (by
        obtain q|⟨g',e,q1,q2,q3⟩:=uh HTR
        .exact j5 q
        .refine jz ⟨g',e,q1,Nat.lt_of_lt_of_le q2 X4.k.size,λi hi=>?_⟩;have:=q3 i hi 0 ae;rw[Nat.mul_one,qr]at this
         exact(xc (a:=⟨g',i,none⟩)<|X4.k.block g' q2<|zT g' q1).trans this) (λi hi=>(HTQ i hi:PT w (·<B) L[i] (ct i 0)).QO X4.k zT) (Hk.of X4.o) (λb q=>by cases q;exact Jk.1) HO HSM.part hLl)
       go_wp2_with fail;refine HC.mono ?_;rintro e w5⟨rfl,k5,d5'⟩;have X5:=X4.ke k5 d5' Jk.1 ae;clear k5 d5' HC
       go_wp2
       go_roundg(ms.length-(j+1))
       case measure=>rw[uh hgj];omega
       case rel=>exact⟨j+1,ai rfl,ae,jP,by rw[uh Hl];exact X5⟩
     .have UI:decide ((j:Int)<(ms.length:Int))=false:=bF;have he3:ms.take j=ms:=jv ae;rw[he3,<-uh HQ]at XJ
      go_wp2
      go_end0;exact⟨rfl,XJ.k,XJ.d⟩
end
end
section
open Go.ChangeMaps Un
def Lg:Cq 34 #[] w λe w'=>e=.returned (.func (.func 49) #[] #[Pv<|w.heap.size+1])/\NB w' (w.heap.size+1) w.heap.size []/\Bq w w':=by
 have jA:= @run_makeMap Tryz.prog;go_enter func34,ntmps34
 go_wp2
 go_ret;refine⟨rfl,⟨?_,?_,ae⟩,(bw _).alloc ag _⟩
 .have:=Bx.new (w.alloc<|.map #[] 0) #[Mv w.heap.size] 154;simpa using this
 .exact(MS.new ajG w).below (bw _)
def Sw:Cq 27 #[] w λe w'=>∃cb nb mb,e=.returned (.func (.func 35) #[] #[Pv cb])/\Bx w' cb #[nbV nb]/\NB w' nb mb []/\w.heap.size<=mb/\cb≠mb/\Bq w w':=by
 go_enter func27,ntmps27;go_wp2_with(go_at_call 34;refine Lg.mono ?_;rintro e w1⟨rfl,hN,hb⟩;have HN:=ai hN;have HB:=ai hb;clear hN hb);go_ret;have hz:=HN.lt;have dz:Bq w1 (w1.alloc<|Cv #[nbV<|w.heap.size+1] 119):=bw _;exact⟨w1.heap.size,w.heap.size+1,w.heap.size,rfl,Bx.new _ _ _,HN.af dz,br _,ae,HB.trans<|dz.mono HB.size⟩
def VH nb mb a T w(e:Ending)w':=
 e=.returned (.string<|bs<|wr dec (vars a T) T 0)/\NB w' nb mb (vars a T)/\Fr (λb=>b=mb) w w'
def Gp(HAt:∀nd,WN nd->Xd nd){nb}{a}{T}(hT:dW w P T v)(hP:∀b,P b->b≠mb)(hN:NB w nb mb a)(hC:Bx w cb #[nbV nb])(Mo:cb≠mb)(hW:Wf T)(hs:size T<=48)(hv:(vars a T).length<=96):
 Cq 35 #[v,Pv cb] w (VH nb mb a T w):=by
 have bA:=hN.lt;have hcz:=hC.z;obtain⟨tv,xv,rfl⟩:=hT.iface;go_enter func35,ntmps35;go_wp2_with fail;refine aa4.mono ?_;rintro e w1⟨rfl,⟨mv,hPN⟩,dz⟩;have C1:=hC.below dz;obtain⟨c1,f1,z1⟩:=C1;have zw1:=hPN.lt;have HC:=DL T w1 nb mb a P _ (hT.af dz) (hN.af dz) hP hW hv (by simp[ak];omega);go_wp2_with fail;refine HC.mono ?_;rintro e w2⟨u,rfl,hU,N2,F2⟩;obtain⟨tu,xu,rfl⟩:=hU.bQ
 have P2:=hPN.same F2.size (λb hb q=>F2.block b hb (λe=>by
  obtain q|q:=q
  .omega
  .simp[Value.ownBlock]at q))
 have hwn:=WN.sp hT hW ae a ae;have hwl:=u7 (L:=vars a T) ae T hW 0;have hnq:NQ w2 w.heap.size (λb=>w1.heap.size<=b/\b<w2.heap.size/\RS w2 b):=λb q=>⟨q.2.1,ae,q.2.2⟩;have hsp:sep ⟨#[]⟩=[]:=by rw[sep];rw[if_pos<|j5<|toList_mk []]
 have HA:=HAt _ hwn w2 w.heap.size w.heap.size _ [] ⟨#[]⟩ mv _ _ 0 P2 hU.by hnq ae (by rw[hsp,aa1];simp;omega)<|br _;rw[hsp,aa1]at HA;go_wp2_with fail;refine HA.mono ?_;rintro e w3⟨rfl,bv3,Sp,N3,fi3,F3⟩;have cV:=hT.ajM<|vars a T;have HS:=aaI N3 (by simpa using cV);have⟨ad,ZB,_⟩:=N3.bk;go_wp2_with fail;refine HS.mono ?_;rintro e w4⟨rfl,F4⟩
 go_wp2
 go_ret;have xP:∀k,k<w.heap.size->k≠mb->w4.heap[k]? =w.heap[k]? :=λk hk hm=>by
  have e1:=dz.block k hk;have e2:=F2.block k ae hm;have e3:=F3.block k (by have:=F2.size;omega) ae<|j5 hk
  have e4:=F4.block k (by have:=F2.size;have:=F3.size;omega) (λq=>by
   obtain q|q:=q
   .omega
   .have:=(fP N3.ow k q).1;omega)
  exact e4.trans<|e3.trans<|e2.trans e1
 have wH:w4.heap[mb]? =w2.heap[mb]? :=by
  have e3:=F3.block mb (by have:=F2.size;omega) ae<|j5 bA.2
  have e4:=F4.block mb (by have:=F2.size;have:=F3.size;omega) (λq=>by
   obtain q|q:=q
   .omega
   .have:=(fP N3.ow mb q).1;omega)
  exact e4.trans e3
 have hs4:=qm dz.size<|qm F2.size<|qm F3.size F4.size;refine⟨ag,⟨?_,N2.mp.same wH,N2.ne⟩,⟨?_,?_,?_,hs4,xP⟩⟩
 .exact N2.bk.same (qm F3.size F4.size) (by
   have e2:=F2.block nb ae N2.ne;have e1:=dz.block nb bA.1
   rw[xP nb bA.1 N2.ne,<-e1,<-e2])
 .exact F4.os.trans (F3.os.trans<|F2.os.trans dz.os)
 .exact F4.tape.trans (F3.tape.trans<|F2.tape.trans dz.tape)
 .exact F4.output.trans (F3.output.trans<|F2.output.trans dz.output)
end
section
open Go.ChangeMaps Go.MapKept Un
abbrev KLI:KL qw 3 qB (λ_ _=>True):=KL.num Tryz.underlying3
def LJ:Tryz.prog.underlying 57=some (.map 3 55):=qkr
def aej w:(zeroValue 55).run qw w=.ok .nilFunc w:=qkr
def V_:Cq 18 #[] w λe w'=>e=.returned (Mv w.heap.size)/\Bq w w'/\MG qB w' w.heap.size (bG 2 (.func (.func 24) #[] #[])<|bG 1 (.func (.func 22) #[] #[]) []):=by
 have jA:= @run_makeMap Tryz.prog;have M0:=MG.new qB w;have k0:Bq w (w.alloc<|.map #[] 0):=bw _;have K0:=ai k0;go_enter func18,ntmps18;go_wp2_with((refine cu KLI LJ rfl _ _ _ (Or.inl rfl) rfl M0 _ _ rfl rfl ?_;clear M0;intro w' H' O';have M0:=ai H';have K1:=K0;clear K0;have K0:=ai (One.below K1 O'<|by exact br _);clear H' O' K1));go_ret;exact⟨rfl,K0,M0⟩
def LK{w}(h:MG qB w b (bG 2 (.func (.func 24) #[] #[])<|bG 1 (.func (.func 22) #[] #[]) [])):(qz 57 (Mv b) (Iv 1) true).run qw w=.ok (.tuple #[.func (.func 22) #[] #[],.bool true]) w/\(qz 57 (Mv b) (Iv 2) true).run qw w=.ok (.tuple #[.func (.func 24) #[] #[],.bool true]) w:=by
 have hl:=λk:Int=>h.ms.look KLI LJ (aej w) k trivial (λ_ _=>trivial) true;constructor
 .have:=hl 1;simpa[aN]using this
 .have:=hl 2;simpa[aN]using this
def XN(w:World)R u v b(h:b≠R):((w.setCell ⟨R,0,none⟩ u).setCell ⟨R,1,none⟩ v).heap[b]? =w.heap[b]? :=(qv _ _ _ _ h).trans<|qv _ _ _ _ h
def Ul(w:World)R u v:((w.setCell ⟨R,0,none⟩ u).setCell ⟨R,1,none⟩ v).heap.size=w.heap.size:=by simp_all
section
variable {c:WC} {cnt:Nat} {s:In.St}
def XO{T:Ty}(hk:WK w c cnt s kb)(ht:∀n,aw n T->s.u n):(vars []<|sub s.k T).length<=cnt:=by
 refine Nb (dF _ jy) λm hm=>?_;have q:=(bP (sub s.k T) [] m).1 hm;simp only[jx,false_or]at q;have⟨n,q1,q2⟩:=(mq T).1 q;exact hk.u m<|hk.ok.use n m (ht n q1) q2
def acG(hk:WK w c cnt s kb)(hg:WG w c s Λ Γ gb){x}(h:Γ x=some d):d.any.length<=cnt:=
 Nb (hg.nd x d h) λn hn=>hk.u n<|(hg.i x d h).use n<|(hg.i x d h).sub n hn
noncomputable def l7 (rc:Bool) (st:BA) (Γ:qi):qi:=if rc then qk Γ st else Γ
def Il{z}(h:l7 rc st Γ z=some d):Γ z=some d:=by
 cases rc
 .simpa[l7]using h
 .simp[l7,qk]at h;exact h.2
def Ng(mk:qe)rc s n x z f t a(Γ:qi):j8 mk (.mk (if rc then 11 else 10) s n [x,z] f t a) Γ=In.andM (In.bX rc s x (j8 mk x) Γ) λt=>λs1=>j8 mk z (In.cz Γ s<|j7 (l7 rc s Γ) s1.k t<|ql x) s1:=by
 cases rc<;>simp[j8,In.kZ,In.rh,In.di,In.j_,In.oe,l7]
def SoP c d w(e:Ending)w':=∃u,e=.returned u/\n_ w' (dw c) d u/\Bq w w'
abbrev PSo c(w:World)x:=(dw c x/\x<w.heap.size)\/w.heap.size+2<=x
def yS{l}(hl:d.any=l){w4}{ta}{xa}{sa}{sc}(hz:c.cb<w.heap.size)(h4:Bq w w4)(ht:TW w4 (PSo c w) 900000 d.of (.iface ta xa))(hv:ri w4 (PSo c w) sa l):SoP c d w (.returned<|.agg #[.iface ta xa,.slice sa l.length sc]) ((w4.setCell ⟨w.heap.size+1,0,none⟩<|.iface ta xa).setCell ⟨w.heap.size+1,1,none⟩<|.slice sa l.length sc):=by
 subst hl;have hs:=Ul w4 (w.heap.size+1) (.iface ta xa)<|.slice sa d.any.length sc;have hb:∀b,PSo c w b->b<w4.heap.size->((w4.setCell ⟨w.heap.size+1,0,none⟩<|.iface ta xa).setCell ⟨w.heap.size+1,1,none⟩<|.slice sa d.any.length sc).heap[b]? =w4.heap[b]? :=λb p _=>XN _ _ _ _ _ (by obtain p|p:=p<;>omega);have hq:∀b,PSo c w b->b<w4.heap.size->dw c b:=λb p _=>by obtain p|p:=p;exact p.1;show b≠c.cb;omega
 exact⟨_,rfl,⟨ta,xa,sa,sc,rfl,ht.move ae hb hq,hv.move ae hb hq⟩,(h4.setCell ag _).setCell ag _⟩
def Nh{a:Nat}{S}{T:Ty}(hw:WE w c cnt)(hk:WK w c cnt s kb)(hg:WG w c s Λ Γ gb)(hp:PE w Q x vx)(hS:S<=900000)(ht:TW w (dw c) S T v)(Um:In.cA Λ s T)(hc:cnt<=850000)(hl:c.nl.length<=1000000):
 Cq 256 #[Mv kb,Mv gb,.agg #[.bool rc,Nv a,Nv y,.string st,vx],v] w (SoP c (j7 (l7 rc st Γ) s.k T<|ql x) w):=by
 have hf:=hk.Ee ae<|jz trivial;have WH:=ck _ ht.wh λn _=>hf.wh n;have gL:=yw;have Mr:size (bL<|sub s.k T)<=900000:=by have:=fI WH (qm (XO hk Um.use) hc) ae;omega
 have zc:=hw.dt;have k0:Bq w ((w.alloc<|Cv #[.bool rc,Nv a,Nv y,Sv st,vx] 83).alloc<|Cv #[Zv,Lv none 0 0] 354):=(bw _).alloc ag _;have B1:=(Bx.new w #[.bool rc,Nv a,Nv y,Sv st,vx] 83).below<|bw<|Cv #[Zv,Lv none 0 0] 354;have R1:Hid (Bx ((w.alloc<|Cv #[.bool rc,Nv a,Nv y,Sv st,vx] 83).alloc<|Cv #[Zv,Lv none 0 0] 354) (w.heap.size+1) #[Zv,Lv none 0 0]):=by
  have:=Bx.new (w.alloc<|Cv #[.bool rc,Nv a,Nv y,Sv st,vx] 83) #[Zv,Lv none 0 0] 354;rw[aY]at this;exact ai this
 have kl:KW w (λi=>dw c i/\i<w.heap.size) kb s.k:=hk.k.move (br _) rfl (λ_ _ _=>rfl) (λi p z=>⟨p,z⟩);have GL:=hg.e.low;have HO:=uv (kl.af k0) ⟨hk.n,hk.k.lt⟩ hf hS<|ht.af k0;have HL:∀(W:World)(b:Nat)(tu:TypeId)(xu:Value)(Qu:Nat->Prop),Bq w W->bS W (PSo c w) b (l7 rc st Γ)->db W Qu (bL<|sub s.k T) (Fv tu xu)->Cq 263 #[Mv b,Mv kb,Fv tu xu] W (pK (λi=>W.heap.size<=i) (j9 (l7 rc st Γ) s.k<|sub s.k T) W):=λW b tu xu Qu hb he hu=>
  acD he ((kl.af hb).wide λi p=>j5 p) (j5 ⟨hk.n,hk.k.lt⟩) hf (NL:=c.nl) (λz q=>hg.dm z λe=>by cases hh:l7 rc st Γ z with|none=>exact q hh|some d=>rw[Il hh]at e;cases e) hl (λz d q=>by
   have:=acG hk hg<|Il q
   omega) hu ae
 have HWo:∀W:World,Bq w W->Cq 262 #[Mv gb,Sv st] W (pJ (λi=>dw c i/\i<w.heap.size) (In.lL Γ st) W):=λW hb=>Ug (GL.af hb) st;have K0:=ai k0;obtain⟨tx,ax,rfl⟩:=hp.iface;obtain⟨tv,xv,rfl⟩:=ht.iface;go_enter func256,ntmps256;go_wp2_with fail;refine HO.mono ?_;rintro e w1⟨u,rfl,hu,k1⟩;have z0:=(uh K0).size;obtain⟨tu,xu,rfl⟩:=hu.iface;have Ms:db w1 (PSo c w) (bL<|sub s.k T) (Fv tu xu):=hu.wide λi p=>by obtain p|p:=p;exact Or.inl p;simp only[aY]at p;exact Or.inr ae
 have K1:=K0.trans<|k1.mono K0.size;have B2:=ai<|B1.below k1;have R2:=R1.below k1;have T1:TW w1 (PSo c w) 900000 (sub s.k T) (Fv tu xu):=⟨⟨_,Ms,(dR.refl _).cut WH,Mr⟩,WH⟩;have U1:=ai Ms;have HI:=pP x w1 Q _<|hp.af K1;have⟨b1,b2,b3⟩:=uh B2;go_wp2_with fail;refine HI.mono ?_;rintro e w2⟨rfl,k2⟩;have K2:=K1.trans<|k2.mono K1.size;have B3:=ai<|B2.below k2;have R3:=ai<|R2.below k2;have T2:=T1.af k2;have U2:=U1.af k2;have⟨b1,b2,b3⟩:=uh B3;have⟨r1,r2,r3⟩:=uh R3
 cases hv:ql x with
 |false=>
  go_wp2_with fail;refine bodyPost_ret (v:=Av #[Fv tu xu,Lv none 0 0]) (by simp[results,Tryz.results256,go_sem,r1]) rfl ?_;rw[hv];exact yS (d:=j7 (l7 rc st Γ) s.k T false) (l:=[]) (by simp[j7]) (sa:=none) (sc:=0) zc K2 T2<|j5 rfl
 |true=>
  cases rc with
  |false=>
   have HLo:=HL w2 gb tu xu _ K2 (by
    have e:l7 false st Γ=Γ:=by simp[l7]
    rw[e];exact(GL.af K2).wide λi p=>j5 p) U2
   go_wp2_with fail;refine HLo.mono ?_;rintro e w4⟨sa,sc,rfl,hv4,k4⟩;have K4:=K2.trans<|k4.mono K2.size;have T4:=T2.af k4;have V4:Hid (ri w4 (PSo c w) sa<|j9 (l7 false st Γ) s.k<|sub s.k T):=ai (hv4.move (br _) (λ_ _ _=>rfl)<|λi p _=>jz (by have:=r3;omega));have⟨q1,q2,q3⟩:=(uh R3).below k4;go_wp2_with fail;refine bodyPost_ret (v:=Av #[Fv tu xu,Lv sa (j9 (l7 false st Γ) s.k<|sub s.k T).length sc]) (by simp[results,Tryz.results256,go_sem,q1]) rfl ?_;rw[hv];exact yS (d:=j7 (l7 false st Γ) s.k T true) (by simp[j7]) (sc:=sc) zc K4 T4<|uh V4
  |true=>
   have HWi:=HWo w2 K2;go_wp2_with fail;refine HWi.mono ?_;rintro e w3⟨bn,rfl,zn,hn,k3⟩;have K3:=K2.trans<|k3.mono K2.size
   have HLo:=HL w3 bn tu xu _ K3 (by
    have e:l7 true st Γ=qk Γ st:=by simp[l7]
    rw[e];exact hn.wide λi p=>j5 p) (U2.af k3)
   have T3:=T2.af k3;have R4:=R3.below k3;have z3:=k3.size;go_wp2_with fail;refine HLo.mono ?_;rintro e w4⟨sa,sc,rfl,hv4,k4⟩;have K4:=K3.trans<|k4.mono K3.size;have T4:=T3.af k4;have V4:Hid (ri w4 (PSo c w) sa<|j9 (l7 true st Γ) s.k<|sub s.k T):=ai (hv4.move (br _) (λ_ _ _=>rfl)<|λi p _=>jz (by have:=r3;omega));have⟨q1,q2,q3⟩:=R4.below k4;go_wp2_with fail;refine bodyPost_ret (v:=Av #[Fv tu xu,Lv sa (j9 (l7 true st Γ) s.k<|sub s.k T).length sc]) (by simp[results,Tryz.results256,go_sem,q1]) rfl ?_;rw[hv];exact yS (d:=j7 (l7 true st Γ) s.k T true) (by simp[j7]) (sc:=sc) zc K4 T4<|uh V4
def ScE.af4{mk}{K}{f t a:Nat}(h:ScE mk nl dom (.mk K st n [x,z] f t a))(hK:K=10\/K=11):st∈nl/\ScE mk nl (λv=>dom v\/(K=11/\v=st)) x/\ScE mk nl (λv=>dom v\/v=st) z:=by
 generalize Bw:Nd.mk K st n [x,z] f t a=nd at h
 cases h
 case lt c s n x z f t a hs hc hx hz=>
  injection Bw with e1 e2 e3 e4;injection e4 with e4 e5;injection e5 with e5;subst e1 e2 e4 e5;exact⟨hs,hx,hz⟩
 all_goals
  exfalso;injection Bw with e1;omega
end
section
variable {c:WC} {cnt:Nat} {s:In.St} {f t a:Nat} {y:Nd} {vy vz:Value}
def Rq{p:Prop}(h:p:=by
 go_wp2_with fail
 go_meet
 case rel=>exact HQ):p:=h
def Us(Hx:Bv x)(Hy:Bv y)(Hz:Bv z)(h:CB (.mk 12 st n [x,y,z] f t a) c w cnt s kb Λ Γ gb Q dom (.iface 230<|.agg #[Nv f,Nv t,vx,vy,vz]))(hx:PE w Q x vx)(hy:PE w Q y vy)(hz:PE w Q z vz):
 Cq 242 #[Pv c.eb,Mv kb,Mv gb,.agg #[Nv f,Nv t,vx,vy,vz]] w (aZ c (1100*nn (.mk 12 st n [x,y,z] f t a)) (1000*nn (.mk 12 st n [x,y,z] f t a)) (j8 c.mks (.mk 12 st n [x,y,z] f t a) Γ) s cnt w):=by
 have en:nn (.mk 12 st n [x,y,z] f t a)=1+nn x+nn y+nn z:=Mu;obtain⟨sx,sy,sz⟩:ScE c.mks c.nl dom x/\ScE c.mks c.nl dom y/\ScE c.mks c.nl dom z:=by
  cases h.sc with
  |ite _ _ _ _ _ _ _ _ _ hx hy hz=>exact⟨hx,hy,hz⟩
 have fb:=h.ft.b;rw[en]at fb;have H:=gO.start h<|P8 ..
 replace en:=ai en
 clear h;have HX:=ai hx;have HY:=ai hy;have HZ:=ai hz;obtain⟨tx,ax,rfl⟩:=hx.iface;obtain⟨ty,ay,rfl⟩:=hy.iface;obtain⟨tz,az,rfl⟩:=hz.iface;have Mx:=hx.place;have plz:=hz.place;dsimp only[PlF]at Mx plz;clear hx hy hz;go_enter func242,ntmps242;go_wp2_with fail;refine H.box.ex (D2:=1000*(1+nn y+nn z)) Hx HX sx ?_ qS qS;intro T1 yT yU s1 ah iV w1 H;have⟨⟨_,b1,b2,b3⟩,_⟩:=H.p;go_wp2_with fail;go_cut[1]from 13 (λv wc=>BN c ah s1 Λ T1 In.oB (In.iJ x) (In.xD x) w1 (Rv v) wc)
 case first=>
  go_region_with(first
   |(go_at_call 48;refine(oC).mono ?_;rintro e w4⟨rfl,rfl⟩)
   |(go_at_call 317;refine(de _ _).mono ?_;rintro e w5⟨rfl,k5⟩;have K5:Hid (Bq w1 w5):=ai<|(qu _ _).drew.trans k5;clear k5)
   |(go_at_call 224;go_loud(refine(H.eqc K5 ((H.af K5).p.2.1.le (S':=900000) ae) (vP lj _ c _ ae) H.p.2.2<|ux _).mono ?_);intro e w6 hq;obtain⟨fl,vl,vr,rfl,hE⟩|hq:=hq;go_loud(exact⟨rfl,hE⟩);have HQ:=ai hq;obtain⟨b6,rfl,-⟩:=hq))
  all_goals
   exact Rq
 case rest=>
  obtain⟨b6,s6,rfl,H⟩:=H.eqd hcut;clear hcut b1 b2 b3;have⟨⟨_,b1,b2,b3⟩,_⟩:=H.p;go_wp2_with fail;refine H.ex (D2:=1000*(1+nn z)) Hy HY sy ?_ ae qS;intro T3 ta3 xa3 s3 rI kb3 w3 H;clear b1 b2 b3;have⟨⟨⟨_,b1,b2,b3⟩,_⟩,_⟩:=H.p;go_wp2_with fail;refine H.ex (D2:=1000) Hz HZ sz ?_ ae qS;intro T4 ta4 xa4 s4 ai1 kb4 w4 H;clear b1 b2 b3;have⟨⟨⟨⟨_,b1,b2,b3⟩,_⟩,_⟩,_⟩:=H.p;go_wp2_with fail;refine(de _ _).mono ?_;rintro e w5⟨rfl,K5⟩;have H:=H.af K5;go_wp2_with fail;refine H.eq (H.p.1.2.1.le (S':=900000) ae) (H.p.2.1.le ae) H.p.1.2.2 H.p.2.2 ?_;intro W4 s6 w6 H
  go_wp2
  go_ret2;exact H.ret H.p.1.2.1 qS
def acP(Hx:Bv x)(Hy:Bv y)(h:CB (.mk 8 st n [x,y] f t a) c w cnt s kb Λ Γ gb Q dom (.iface 238<|.agg #[Nv f,Nv t,vx,vy]))(hx:PE w Q x vx)(hy:PE w Q y vy):
 Cq 245 #[Pv c.eb,Mv kb,Mv gb,.agg #[Nv f,Nv t,vx,vy]] w (aZ c (1100*nn (.mk 8 st n [x,y] f t a)) (1000*nn (.mk 8 st n [x,y] f t a)) (j8 c.mks (.mk 8 st n [x,y] f t a) Γ) s cnt w):=by
 have en:nn (.mk 8 st n [x,y] f t a)=1+nn x+nn y:=Mu;have⟨sx,sy⟩:=h.sc.af_<|.inr<|.inr rfl;have fb:=h.ft.b;rw[en]at fb;have H:=gO.start h<|Ij ..
 replace en:=ai en
 clear h;have HX:=ai hx;have HY:=ai hy;obtain⟨tx,ax,rfl⟩:=hx.iface;obtain⟨ty,ay,rfl⟩:=hy.iface;clear hx hy;go_enter func245,ntmps245;go_wp2_with fail;refine H.box.ex (D2:=1000*(1+nn y)) Hx HX sx ?_ qS qS;intro T1 yT yU s1 ah iV w1 H;have⟨⟨_,b1,b2,b3⟩,_⟩:=H.p;go_wp2_with fail;refine H.ex (D2:=1000) Hy HY sy ?_ ae qS;intro T2 ta2 xa2 s2 cJ kb2 w2 H;clear b1 b2 b3;have⟨e1,e2,e3⟩:=H.we.bx;go_wp2_with fail;refine H.new (D2:=999) ?_;intro s3 w3 H;clear e1 e2 e3;have⟨⟨⟨⟨_,b1,b2,b3⟩,_⟩,_⟩,_⟩:=H.p;have zc:=H.we.dt
 go_wp2
 go_region_with(first
  |(go_at_call 254;go_loud(refine(aiP H.drew.p.1.2.1 (by simpa using X6 w3.drew c (cJ+1)) (show c.cb<w3.drew.heap.size from zc)).mono ?_);rintro e w5⟨g,rfl,k5,t5⟩;have K5:=ai<|(qu w3.heap.size w3).drew.trans k5;have T5:=ai t5;have⟨⟨⟨⟨_,d1,d2,d3⟩,_⟩,_⟩,_⟩:=(H.af K5).p;clear k5 t5)
  |(go_at_call 224;go_loud(refine(H.eqc K5 ((H.af K5).p.1.1.2.1.le (S':=900000) ae) (T5.le ae) H.p.1.1.2.2<|acE H.p.1.2.2 H.p.2).mono ?_);intro e w6 hq;obtain⟨fl,vl,vr,rfl,hE⟩|hq:=hq;go_loud(exact⟨rfl,hE⟩);have HQ:=ai hq;obtain⟨b6,rfl,-⟩:=hq))
 all_goals
  go_wp2
  go_ret2;have⟨_,s6,e,H⟩:=H.eqd HQ
  cases e
  exact H.ret (by simpa using X6 w6 c (cJ+1)) qS
def Ur(Hx:Bv x)(Hy:Bv y)(h:CB (.mk 7 st n [x,y] f t a) c w cnt s kb Λ Γ gb Q dom (.iface 236<|.agg #[Nv f,Nv t,.string st,vx,vy]))(hx:PE w Q x vx)(hy:PE w Q y vy)(hs:st=gh\/st=dE\/st=fc\/st=dL):
 Cq 244 #[Pv c.eb,Mv kb,Mv gb,.agg #[Nv f,Nv t,.string st,vx,vy]] w (aZ c (1100*nn (.mk 7 st n [x,y] f t a)) (1000*nn (.mk 7 st n [x,y] f t a)) (j8 c.mks (.mk 7 st n [x,y] f t a) Γ) s cnt w):=by
 have en:nn (.mk 7 st n [x,y] f t a)=1+nn x+nn y:=Mu;have⟨sx,sy⟩:=h.sc.af_<|.inr<|.inl rfl;have fb:=h.ft.b;rw[en]at fb;have H:=gO.start h<|Nl ..
 replace en:=ai en
 clear h;have HX:=ai hx;have HY:=ai hy;obtain⟨tx,ax,rfl⟩:=hx.iface;obtain⟨ty,ay,rfl⟩:=hy.iface;have Mx:=hx.place;have ply:=hy.place;dsimp only[PlF]at Mx ply;clear hx hy;go_enter func244,ntmps244;go_wp2_with fail;refine H.box.ex (D2:=1000*(1+nn y)) Hx HX sx ?_ qS qS;intro T1 yT yU s1 ah iV w1 H;have⟨⟨_,b1,b2,b3⟩,_⟩:=H.p;go_wp2_with fail;go_cut[1]from 12 (λv wc=>BN c ah s1 Λ T1 In.i_ (In.iJ x) (In.xD x) w1 (Rv v) wc)
 case first=>
  go_region_with(first
   |(go_at_call 47;refine(sA).mono ?_;rintro e w4⟨rfl,rfl⟩)
   |(go_at_call 317;refine(de _ _).mono ?_;rintro e w5⟨rfl,k5⟩;have K5:Hid (Bq w1 w5):=ai<|(qu _ _).drew.trans k5;clear k5)
   |(go_at_call 224;go_loud(refine(H.eqc K5 ((H.af K5).p.2.1.le (S':=900000) ae) (vP ng _ c _ ae) H.p.2.2<|ux _).mono ?_);intro e w6 hq;obtain⟨fl,vl,vr,rfl,hE⟩|hq:=hq;go_loud(exact⟨rfl,hE⟩);have HQ:=ai hq;obtain⟨b6,rfl,-⟩:=hq))
  all_goals
   exact Rq
 case rest=>
  obtain⟨b6,s6,rfl,H⟩:=H.eqd hcut;clear hcut b1 b2 b3 Mx;have⟨⟨_,b1,b2,b3⟩,_⟩:=H.p;go_wp2_with fail;refine H.ex (D2:=1000) Hy HY sy ?_ ae qS;intro T3 ta3 xa3 s3 rI kb3 w3 H;clear b1 b2 b3;have⟨⟨⟨_,b1,b2,b3⟩,_⟩,_⟩:=H.p;go_wp2_with fail;go_cut[1]from 12 (λv wd=>BN c rI s3 Λ T3 In.i_ (In.iJ y) (In.xD y) w3 (Rv v) wd)
  case first=>
   go_region_with(first
    |(go_at_call 47;refine(sA).mono ?_;rintro e w4⟨rfl,rfl⟩)
    |(go_at_call 317;refine(de _ _).mono ?_;rintro e w5⟨rfl,k5⟩;have K5:Hid (Bq w3 w5):=ai<|(qu _ _).drew.trans k5;clear k5)
    |(go_at_call 224;go_loud(refine(H.eqc K5 ((H.af K5).p.2.1.le (S':=900000) ae) (vP ng _ c _ ae) H.p.2.2<|ux _).mono ?_);intro e w6 hq;obtain⟨fl,vl,vr,rfl,hE⟩|hq:=hq;go_loud(exact⟨rfl,hE⟩);have HQ:=ai hq;obtain⟨b6,rfl,-⟩:=hq))
   all_goals
    exact Rq
  case rest=>
   obtain⟨b7,s7,rfl,H⟩:=H.eqd hcut;clear hcut b1 b2 b3 ply;have⟨⟨⟨_,b1,b2,b3⟩,_⟩,_⟩:=H.p;have⟨e1,e2,e3⟩:=H.we.bx;obtain⟨hk,ya⟩|⟨hk,ya⟩:=H.we.rs.drew.look hs
   all_goals(
    first|have EO:Hid (opT st=In.oB):=ai (if_pos hk)|have EO:Hid (opT st=In.i_):=ai<|if_neg hk
    clear hk
    go_wp2
    go_region_with(first|(go_at_call 48;refine(oC).mono ?_;rintro e w4⟨rfl,rfl⟩)|(go_at_call 47;refine(sA).mono ?_;rintro e w4⟨rfl,rfl⟩));all_goals
     go_wp2
     go_ret2
     exact H.drew.ret (by rw[uh EO];first|exact vP lj _ c 1 (by omega)|exact vP ng _ c 1 ae) qS)
def acO(Hx:Bv x)(Hy:Bv y)(h:CB (.mk 6 st n [x,y] f t a) c w cnt s kb Λ Γ gb Q dom (.iface 221<|.agg #[Nv f,Nv t,vx,vy]))(hx:PE w Q x vx)(hy:PE w Q y vy):
 Cq 238 #[Pv c.eb,Mv kb,Mv gb,.agg #[Nv f,Nv t,vx,vy]] w (aZ c (1100*nn (.mk 6 st n [x,y] f t a)) (1000*nn (.mk 6 st n [x,y] f t a)) (j8 c.mks (.mk 6 st n [x,y] f t a) Γ) s cnt w):=by
 have en:nn (.mk 6 st n [x,y] f t a)=1+nn x+nn y:=Mu;have⟨sx,sy⟩:=h.sc.af_<|.inl rfl;have H:=gO.start h<|Nk ..
 replace en:=ai en
 clear h;have HX:=ai hx;have HY:=ai hy;obtain⟨tx,ax,rfl⟩:=hx.iface;obtain⟨ty,ay,rfl⟩:=hy.iface;clear hx hy;go_enter func238,ntmps238;go_wp2_with fail;refine H.box.ex (D2:=1000*(1+nn y)) Hx HX sx ?_ qS qS;intro T1 yT yU s1 ah iV w1 H;have⟨⟨_,b1,b2,b3⟩,_⟩:=H.p;go_wp2_with fail;refine H.ex (D2:=1000) Hy HY sy ?_ ae qS;intro T2 ta2 xa2 s2 cJ kb2 w2 H;have zc:=H.we.dt;go_wp2_with fail;refine(P_ (w:=w2) yT ta2 yU xa2).mono ?_;rintro e w3⟨rfl,rfl⟩
 go_wp2
 go_ret2;exact(H.af<|bw _).ret (TW.pr H.p.1.2.1 H.p.2.1 zc) qS
def aiQ{y}(Hx:Bv x)(h:CB (.mk 9 st n [x] f t a) c w cnt s kb Λ Γ gb Q dom (.iface 226<|.agg #[Nv f,Nv t,Nv a,Nv y,.string st,vx]))(hx:PE w Q x vx):
 Cq 240 #[Pv c.eb,Mv kb,Mv gb,.agg #[Nv f,Nv t,Nv a,Nv y,.string st,vx]] w (aZ c (1100*nn (.mk 9 st n [x] f t a)) (1000*nn (.mk 9 st n [x] f t a)) (j8 c.mks (.mk 9 st n [x] f t a) Γ) s cnt w):=by
 have en:nn (.mk 9 st n [x] f t a)=1+nn x:=qBi;have gL:=yw;obtain⟨jQ,sx⟩:st∈c.nl/\ScE c.mks c.nl (λv=>dom v\/v=st) x:=by
  cases h.sc with
  |fn _ _ _ _ _ _ _ hs hx=>exact⟨hs,hx⟩
 have H:=gO.start h<|Nc ..
 replace en:=ai en
 clear h;have HX:=ai hx;obtain⟨tx,ax,rfl⟩:=hx.iface;clear hx;have⟨e1,e2,e3⟩:=H.we.bx;go_enter func240,ntmps240;go_wp2_with fail;refine H.box.new (D2:=1000*nn x+999) ?_ qS;intro s3 w3 H;clear e1 e2 e3;have⟨⟨_,b1,b2,b3⟩,_⟩:=H.p
 go_wp2
 go_region_with(first
  |(go_at_call 219;go_loud(refine(x_ ((H.wg.fr H.f H.st.p.run).e.af (qu _ _).drew) st<|Ik (pO w3.drew c cnt 1<|br _) ae).mono ?_);rintro e w5⟨b5,rfl,z5,h5,k5⟩;have K5:=ai<|(qu w3.heap.size w3).drew.trans k5;have⟨⟨_,d1,d2,d3⟩,_⟩:=(H.af K5).p;have E5:=ai h5;have Z5:=ai z5;clear k5 h5 z5)
  |(go_at_call 223;go_loud(refine H.exG (D2:=999) K5 Hx (H.asks K5 E5 Z5 H.p.2.mono jy jQ HX sx (λ_ q=>q) ae qS) ?_);intro T6 X9 X_ s6 Iy W4 w6 H6))
 all_goals
  have z6:=H6.we.dt;go_wp2_with fail;refine(aiP (pO w6 c cnt 1<|br _) H6.p.2.1 z6).mono ?_;rintro e w7⟨g,rfl,k7,t7⟩
  go_wp2
  go_ret2;exact(H6.af k7).ret t7 qS
end
end
section
open Un
def BV.head(h:BV s):∃x r,s.toList=x::r/\65<=x.toNat/\x.toNat<=90:=by
 obtain⟨x,r,h1,h2,_⟩:=h;exact⟨x,r,h1,by simp[Pu.BT]at h2;omega,by simp[Pu.BT]at h2;omega⟩
def BV.ne(h:BV s)y q(hy:y.toNat<65\/90<y.toNat):s≠⟨(y::q).toArray⟩:=by
 rintro rfl;have⟨x,r,h1,h2,h3⟩:=h.head;rw[toList_mk]at h1;injection h1 with e1 _;subst e1;omega
def BV.YO(h:BV s)(hz:s.size<=400)n:YO s n:=
 ⟨ae,λe=>(by
  obtain e|e:=e
  .exact absurd e (h.ne 62 [] aB)
  .exact absurd e (h.ne 44 [] aB)),.inr<|.inr h⟩
structure TyG own nd:Prop where
 st:(bt own nd).2=own
 oc:∀n,aw n (bt own nd).1->1<=n/\n<=own.length
 es:bt own (es nd)=bt own nd
 sz:size (bt own nd).1<=nn nd
 wh:Whole (bt own nd).1
 ty:nn nd<=1001->zO nd
structure BW own L:Prop where
 st:(aI own L).2=own
 oc:∀n,bW n (aI own L).1->1<=n/\n<=own.length
 es:aI own (dI L)=aI own L
 sz:ak (aI own L).1<=cD L
 wh:p9 (aI own L).1
 ty:cD L<=1001->∀i(h:i<L.length),zO L[i]
def BW.of{own:List BA}:∀{L:List Nd},(∀x∈L,TyG own x)->BW own L
 |[],_=>⟨rfl,λn h=>h.elim,rfl,br _,trivial,λ_ i h=>absurd h<|qn i⟩|x::L,h=>by
  have hx:=h x ag;have hL:=BW.of (L:=L) λy hy=>h y (by simp[hy]);refine⟨?_,?_,?_,?_,?_,λhn i hi=>?_⟩
  .simp only[aI];rw[hx.st];exact hL.st
  .simp only[aI];rw[hx.st];exact λn q=>q.elim (hx.oc n)<|hL.oc n
  .simp only[aI,dI];rw[hx.es,hx.st,hL.es]
  .simp only[aI,ak,cD];rw[hx.st];have:=hx.sz;have:=hL.sz;omega
  .simp only[aI];rw[hx.st];exact⟨hx.wh,hL.wh⟩
  .simp only[cD]at hn
   cases i with
   |zero=>exact hx.ty ae|succ i=>exact hL.ty ae i qBl
def TyG.aM{own}{k}{s}{n f t a}{L}(hk:k=2\/k=6\/k=17)(hs:iO k s≠sk)(hL:BW own L)(Um:nn (.mk k s n L f t a)<=1001->zO (.mk k s n L f t a)):TyG own (.mk k s n L f t a):=by
 have h16:k≠16:=ae;have h3:¬(k=3\/k=15):=ae;have em:∀(s:BA)n(M:List Nd)f t a,bt own (.mk k s n M f t a)=(.aM (iO k s) (aI own M).1,(aI own M).2):=λs n M f t a=>by simp[bt,h16]
 refine⟨?_,?_,?_,?_,?_,Um⟩
 .rw[em];exact hL.st
 .rw[em];exact hL.oc
 .simp only[Go.Proofs.YtnldmeakhapdhaaGreatDoor.es];rw[if_neg h3,em,em,hL.es]
 .rw[em];simp only[size,nn];have:=hL.sz;omega
 .rw[em];exact⟨hs,hL.wh⟩
def oM{ty:BA->Option Nat}{own:List BA}:∀{L:List Nd}{z:Fl},(iP ty own L z).kind=0->∀x∈L,∃z',(v_ ty own x z').kind=0
 |y::L,z,h,x,hx=>by
  rw[iP]at h;obtain e|e:=List.mem_cons.1 hx
  .subst e;exact⟨z,zP L _ h⟩
  .exact oM h x e
def TD{p:Prop}(h:p:=by
 obtain⟨z',q⟩:=oM hz u hu;simp only[jo,jx,or_false]at hu;obtain rfl|rfl:=hu
 .exact dQ z' q
 .exact il z' q):p:=h
def NF{own}{nd:Nd}(h:xH nd):∀z,(v_ ty own nd z).kind=0->TyG own nd:=by
 induction h with
 |var s n f t a h1 h2 h3=>
  intro z hz;rw[v_,iP]at hz;have hi:s∈own:=by
   have:=(cQ aB (cQ aB hz).2).1;simpa[fQ]using this
  have em:∀n f t a,bt own (.mk 16 s n [] f t a)=(.var<|ix s own+1,own):=λn f t a=>by simp[bt,QG hi]
  refine⟨by rw[em],?_,?_,by rw[em];simp[size,nn],by rw[em];trivial,λ_=>.var s n f t a⟩
  .rw[em];intro n q;have q:n=ix s own+1:=by first|exact q|exact q.symm
   have:=NG hi;omega
  .simp only[Go.Proofs.YtnldmeakhapdhaaGreatDoor.es,dI];rw[em,if_neg aB,em]
 |up s n L f t a h1 h2 h3 h4 ih=>
  intro z hz;rw[v_]at hz;have hL:BW own L:=.of λx hx=>by
   have⟨z',q⟩:=oM hz x hx;exact ih x hx z' q
  refine .aM (j5 rfl) ?_ hL λhn=>?_
  .rw[show iO 2 s=s from rfl];exact h1.ne 116 [111,111,32,108,97,114,103,101] aB
  .simp only[nn]at hn;have:=pS L;exact .up s n L f t a (h1.YO h2) ae<|hL.ty ae
 |pr x y f t a h1 h2 dQ il=>
  intro z hz;rw[v_]at hz;have hL:BW own [x,y]:=.of λu hu=>by
   exact TD
  refine .aM (jz<|j5 rfl) aB hL λhn=>?_;simp only[nn]at hn;exact .two 6 eW 0 x y f t a (jz rfl) (hL.ty ae 0 ag)<|hL.ty ae 1 ag
 |fn x y f t a h1 h2 dQ il=>
  intro z hz;rw[v_]at hz;have hL:BW own [x,y]:=.of λu hu=>by
   exact TD
  refine .aM (jz<|jz rfl) aB hL λhn=>?_;simp only[nn]at hn;exact .two 17 eW 0 x y f t a (j5 rfl) (hL.ty ae 0 ag)<|hL.ty ae 1 ag
def TyG.shut{nd:Nd}(h:TyG [] nd):vars [] (bt []<|Go.Proofs.YtnldmeakhapdhaaGreatDoor.es nd).1=[]:=by
 rw[h.es];exact zE _ [] λn hn=>by have:=h.oc n hn;simp at this;omega
def sY(mk:BA->Option Nat)(mks:qe):=∀s n,mk s=some n->∃tk m,mks s=some (tk,m)/\tk.length=n
def ED(hr:sY mk mks):∀{L:List Nd},(∀x∈L,∀q,(oo mk x q).2.kind=0->(∀s∈oh x,s∈nl)->(oo mk x q).1=q.1++pM x/\si mks nl x)->∀q,(dV mk L q).2.kind=0->(∀s∈kC L,s∈nl)->(dV mk L q).1=q.1++m8 L/\∀i(h:i<L.length),si mks nl L[i]
 |[],_,q,_,_=>⟨by simp[dV,m8],λi h=>absurd h<|qn i⟩|x::L,ih,q,hz,hn=>by
  rw[dV]at hz⊢;have⟨h1,h2⟩:=ih x ag q (EH L _ hz) λs hs=>hn s (by simp[kC,hs]);have⟨h3,h4⟩:=ED hr (L:=L) (λy hy=>ih y<|by simp[hy]) _ hz λs hs=>hn s (by simp[kC,hs]);refine⟨by rw[h3,h1];simp[m8],λi hi=>?_⟩
  cases i with
  |zero=>exact h2|succ i=>exact h4 i qBl
def agt(hr:sY mk mks){nd:Nd}(h:zN nd):∀q,(oo mk nd q).2.kind=0->(∀s∈oh nd,s∈nl)->(oo mk nd q).1=q.1++pM nd/\si mks nl nd:=by
 induction h with
 |any s f t a _=>exact λq _ _=>⟨by simp[oo,dV,pM,m8],.leaf 15 s 0 f t a ag⟩|low s f t a _ _=>exact λq _ hn=>⟨by simp[oo,pM],.low s 0 f t a<|hn s<|by simp[oh]⟩|num s n f t a _ _=>exact λq _ _=>⟨by simp[oo,dV,pM,m8],.leaf 3 s n f t a ag⟩|word s f t a _ _=>exact λq _ _=>⟨by simp[oo,dV,pM,m8],.leaf 4 s 0 f t a ag⟩|unit f t a=>exact λq _ _=>⟨by simp[oo,dV,pM,m8],.leaf 5 eW 0 f t a ag⟩|pr x y f t a _ _ dQ il=>
  intro q hz hn;have e:oo mk (.mk 6 eW 0 [x,y] f t a) q=dV mk [x,y] q:=by simp[oo,ba]
  rw[e]at hz⊢
  have⟨h1,h2⟩:=ED hr (L:=[x,y]) (λu hu=>by
   simp only[jo,jx,or_false]at hu;obtain rfl|rfl:=hu
   .exact dQ
   .exact il) q hz λs hs=>hn s (by simp only[oh,jo];exact jz hs)
  exact⟨by rw[h1];simp[pM],.pr eW 0 x y f t a (h2 0 ag)<|h2 1 ag⟩
 |up s n L f t a _ _ _ _ ih=>
  intro q hz hn;have e:oo mk (.mk 2 s n L f t a) q=dV mk L (q.1,ba (mk s !=some L.length) 5 a (a+s.size) q.2):=by simp[oo]
  rw[e]at hz⊢;have hm:=(cQ aB<|EH L _ hz).1;have⟨h1,h2⟩:=ED hr (L:=L) (λu hu=>ih u hu) _ hz λs hs=>hn s (by simp only[oh,jo];exact jz hs);have⟨tk,m,g1,g2⟩:=hr s L.length (by simpa using hm);exact⟨by rw[h1];simp[pM],.up s n L f t a tk m g1 g2.symm h2⟩
def QH(hr:sY mk mks){l:List BA}{dom:BA->Prop}(hd:∀s∈l,dom s):∀{A:List (Nd×Nd)},(∀p∈A,zN p.1)->(∀p∈A,∀l z,(dA ty mk p.2 l z).kind=0->(∀s∈oh p.2,s∈nl)->nn p.2<=1000->∀dom:BA->Prop,(∀s∈l,dom s)->ScE mks nl dom p.2)->∀z,(oJ ty mk (aP A) l z).kind=0->(∀s∈kC (aP A),s∈nl)->cD (aP A)<=1000->(∀i(h:i<A.length),si mks nl A[i].1)/\∀i(h:i<A.length),ScE mks nl (λv=>dom v\/v∈pM A[i].1) A[i].2
 |[],_,_,z,_,_,_=>⟨λi h=>absurd h<|qn i,λi h=>absurd h<|qn i⟩|(p,e)::A,hp,he,z,hz,hn,hl=>by
  simp only[aP]at hz hn hl;simp only[kC,jp]at hn;simp only[cD]at hl;rw[oJ,UC]at hz;have h1:=EI (aP A) l _ hz;have⟨g1,g2⟩:=agt hr (hp (p,e) ag) _ (mC e _ _ h1) λs hs=>hn s<|j5 hs;simp only[List.nil_append]at g1;have⟨f1,f2⟩:=QH hr hd (A:=A) (λq hq=>hp q<|by simp[hq]) (λq hq=>he q<|by simp[hq]) _ hz (λs hs=>hn s<|jz<|jz hs) ae;have g3:=he (p,e) ag _ _ h1 (λs hs=>hn s<|jz<|j5 hs) (by show nn e<=1000;omega) (λv=>dom v\/v∈pM p) λs hs=>by
   obtain q|q:=List.mem_append.1 hs
   .exact j5 (hd s q)
   .rw[g1]at q;exact jz q
  refine⟨λi hi=>?_,λi hi=>?_⟩
  .cases i with
   |zero=>exact g2|succ i=>exact f1 i qBl
  .cases i with
   |zero=>exact g3|succ i=>exact f2 i qBl
def EG ty mk(mks:qe)nl nd:=∀l z,(dA ty mk nd l z).kind=0->(∀s∈oh nd,s∈nl)->nn nd<=1000->∀dom:BA->Prop,(∀s∈l,dom s)->ScE mks nl dom nd
def EG.two{k}{s}{n f t a}{x y}(hk:k=6\/k=7\/k=8)(hx:EG ty mk mks nl x)(hy:EG ty mk mks nl y):EG ty mk mks nl (.mk k s n [x,y] f t a):=by
 intro l z hz hn hl dom hd;have e:dA ty mk (.mk k s n [x,y] f t a) l z=dA ty mk y l (dA ty mk x l z):=by obtain rfl|rfl|rfl:=hk<;>simp[dA,hY]
 rw[e]at hz;simp only[oh,kC,jo,jp,jt]at hn;simp only[nn,cD]at hl;exact .two dom k s n x y f t a hk (hx l z (mC y _ _ hz) (λs hs=>hn s<|jz<|j5 hs) ae dom hd)<|hy l _ hz (λs hs=>hn s<|jz<|jz hs) ae dom hd
def EG.fn{s}{n f t a}{x}(hx:EG ty mk mks nl x):EG ty mk mks nl (.mk 9 s n [x] f t a):=by
 intro l z hz hn hl dom hd;have e:dA ty mk (.mk 9 s n [x] f t a) l z=dA ty mk x (l++[s]) z:=by simp[dA,Ss]
 rw[e]at hz;simp only[oh,kC,jo,jt]at hn;simp only[nn,cD]at hl;refine .fn dom s n x f t a (hn s<|j5 rfl)<|hx _ z hz (λs hs=>hn s<|jz hs) ae _ λv hv=>?_;obtain q|q:=List.mem_append.1 hv
 .exact j5 (hd v q)
 .grind
def EG.lt{c}{s}{n f t a}{x y}(hc:c=10\/c=11)(hx:EG ty mk mks nl x)(hy:EG ty mk mks nl y):EG ty mk mks nl (.mk c s n [x,y] f t a):=by
 intro l z hz hn hl dom hd;have e:dA ty mk (.mk c s n [x,y] f t a) l z=dA ty mk y (l++[s]) (dA ty mk x (if c=11 then l++[s]else l) z):=by obtain rfl|rfl:=hc<;>simp[dA,UB,Ss]
 rw[e]at hz;simp only[oh,kC,jo,jp,jt]at hn;simp only[nn,cD]at hl;have hs:∀v∈l++[s],dom v\/v=s:=λv hv=>by
  obtain q|q:=List.mem_append.1 hv
  .exact j5 (hd v q)
  .grind
 refine .lt dom c s n x y f t a (hn s<|j5 rfl) hc (hx _ z (mC y _ _ hz) (λs hs=>hn s<|jz<|j5 hs) ae _ λv hv=>?_)<|hy _ _ hz (λs hs=>hn s<|jz<|jz hs) ae _ hs;split at hv
 .rename_i q;exact(hs v hv).imp id λe=>⟨q,e⟩
 .grind
def agu(hr:sY mk mks){nd}(h:iH nd):EG ty mk mks nl nd:=by
 induction h with
 |low s f t a _ _=>
  intro l z hz hn hl dom hd;have e:dA ty mk (.mk 1 s 0 [] f t a) l z=ba (!fQ s l) 5 f t z:=by simp[dA]
  rw[e]at hz;exact .low dom s 0 f t a (hd s<|yh.1<|by simpa using(cQ aB hz).1)
 |up s f t a _ _=>
  intro l z hz hn hl dom hd;have e:dA ty mk (.mk 2 s 0 [] f t a) l z=ba (mk s).isNone 5 f t z:=by simp[dA]
  rw[e]at hz;have h1:=(cQ aB hz).1
  cases hm:mk s with
  |none=>grind|some n=>
   have⟨tk,m,g1,_⟩:=hr s n hm;exact .up dom s 0 f t a tk m g1
 |num s n f t a _ _=>exact λl z _ _ _ dom _=>.leaf dom 3 s n f t a ag|word s f t a _ _=>exact λl z _ _ _ dom _=>.leaf dom 4 s 0 f t a ag|unit f t a=>exact λl z _ _ _ dom _=>.leaf dom 5 eW 0 f t a ag|pr x y f t a _ _ dQ il=>exact .two ag dQ il|of x y f t a _ hy dQ=>
  intro l z hz hn hl dom hd;have e:dA ty mk (.mk 14 eW 0 [x,y] f t a) l z=v_ ty [] y (dA ty mk x l z):=by simp[dA,YP]
  rw[e]at hz;simp only[oh,kC,jo,jp,jt]at hn;simp only[nn,cD]at hl;have g:=NF hy _ hz;have gz:=g.sz;exact .of dom eW 0 x y f t a (dQ l z (YQ y _ hz) (λs hs=>hn s<|jz<|j5 hs) ae dom hd) g.shut (by rw[g.es];omega) (by rw[g.es];exact g.wh)
 |op s x y f t a _ _ _ dQ il=>exact .two ag dQ il|call x y f t a _ _ dQ il=>exact .two ag dQ il|fn s x f t a _ _ _ ih=>exact ih.fn|lt s x z f t a _ _ _ _ dQ YR=>exact .lt (j5 rfl) dQ YR|ltr s s' x z f t a f' t' a' _ _ _ _ _ _ dQ YR=>exact .lt (jz rfl) dQ.fn YR|ite x y w f t a _ _ _ dQ il ihw=>
  intro l z hz hn hl dom hd;have e:dA ty mk (.mk 12 eW 0 [x,y,w] f t a) l z=dA ty mk w l (dA ty mk y l<|dA ty mk x l z):=by simp[dA,hY]
  rw[e]at hz;simp only[oh,kC,jo,jp,jt]at hn;simp only[nn,cD]at hl;have h1:=mC w _ _ hz;exact .ite dom eW 0 x y w f t a (dQ l z (mC y _ _ h1) (λs hs=>hn s<|jz<|j5 hs) ae dom hd) (il l _ h1 (λs hs=>hn s<|jz<|jz<|j5 hs) ae dom hd)<|ihw l _ hz (λs hs=>hn s<|jz<|jz<|jz hs) ae dom hd
 |mt x A f t a _ _ hp _ dQ ihA=>
  intro l z hz hn hl dom hd;have e:dA ty mk (.mk 13 eW 0 (x::aP A) f t a) l z=oJ ty mk (aP A) l (dA ty mk x l z):=by simp[dA,YE]
  rw[e]at hz;simp only[oh,kC,jo,jp]at hn;simp only[nn,cD]at hl;have⟨g1,g2⟩:=QH hr hd hp (λp hq=>ihA p hq) _ hz (λs hs=>hn s<|jz<|jz hs) ae;exact .mt dom eW 0 x A f t a (dQ l z (EI (aP A) l _ hz) (λs hs=>hn s<|jz<|j5 hs) ae dom hd) g1 g2
def kl:Nd->Nat
 |.mk _ _ _ L _ _ _=>L.length
def MkL:Dc->Prop
 |.ty _ vs ms=>∀m∈ms,vs.length+nn m+kl m<=802|.lt _ _ _=>True
def aia{s:Nat}(d:eF T e s k j a):10<=s->nn a+kl a<=2*(j-k):=by
 induction d
 case add d1 d2 i1 i2=>
  intro h;have:=d1.le;have:=Ez d2;have:=i1 h;rw[YN,show∀x y u,kl (Nd.add x y u)=kl x+1 from λx y u=>by cases x;simp[Nd.add,kl]];omega
 case par d _ ih=>intro h;have:=ih h;omega
 case nm=>intro;simp[nn,cD,kl]
 all_goals intro;omega
def Wz(hs:¬400<s.size):match bV s with
 |.error _=>True|.ok l=>∀d∈l,MkL d:=by
 have q:=GX hs;have hl:=(ub s ae).2
 cases e:bV s with
 |error f=>trivial|ok l=>
  rw[e]at q;obtain⟨j,q⟩:=q;refine q.all λi j d z=>?_
  cases z with
  |lt=>trivial|ty _ _ m h1 h2=>exact m.all λk q' x a b c=>by have:=aia c aB;have:=c.le;omega
def PH:∀{vs:List jc}{p:List BA}{z:Fl},(ET p vs z).kind=0->z.kind=0/\(vs.map (·.text)).Nodup/\∀v∈vs,v.text∉p
 |[],p,z,h=>⟨h,ag,ag⟩|v::r,p,z,h=>by
  rw[ET]at h;have⟨h1,h2,h3⟩:=PH h;have⟨h4,h5⟩:=cQ aB h1;refine⟨h5,?_,?_⟩
  .simp only[ju,List.nodup_cons];refine⟨λq=>?_,h2⟩;have⟨u,hu,e⟩:=List.mem_map.1 q;exact h3 u hu UH
  .intro u hu;obtain e|e:=List.mem_cons.1 hu
   .subst e;exact Gm.1 h4
   .exact λq=>h3 u e qBf
def acd{ty:BA->Option Nat}(t:jc)(vs:List jc):∀{ms:List Nd}{q:(BA->Option Nat)×Fl}{mks:qe},(∀m∈ms,IW xH m)->(Rd eM ty (vs.map (·.text)) ms q).2.kind=0->sY q.1 mks->
 q.2.kind=0/\sY (Rd eM ty (vs.map (·.text)) ms q).1 (In.wa t vs ms mks)/\∀m∈ms,∃s L f u a,m=.mk 2 s 0 L f u a/\BW (vs.map (·.text)) L
 |[],q,mks,_,h,hm=>⟨h,hm,ag⟩|m::r,q,mks,h3,h,hm=>by
  obtain⟨s,L,f,u,a,rfl,g1,g2,g3⟩:=h3 m ag;rw[Rd]at h⊢;have hL':∀(z:Fl),(iP ty (vs.map (·.text)) L z).kind=0->BW (vs.map (·.text)) L:=λz hz=>.of λx hx=>by
   have⟨z',q⟩:=oM hz x hx;exact NF (g3 x hx) z' q
  have hs:sY (eM q.1 s L.length) (λy=>if y=qg (.mk 2 s 0 L f u a)then some (qh (vs.map (·.text))<|.mk 2 s 0 L f u a,j6 t vs)else mks y):=by
   intro y n hy;rw[eM]at hy;by_cases e:y=s
   .rw[if_pos e]at hy;injection hy with hy;refine⟨_,_,if_pos<|show y=qg (.mk 2 s 0 L f u a)from e,?_⟩;rw[<-hy];have:∀(l:List Nd)ns,(aI ns<|dI l).1.length=l.length:=by
     intro l
     induction l with
     |nil=>intro ns;rfl|cons x l ih=>intro ns;simp only[dI,aI,yE,ih]
    exact this L _
   .rw[if_neg e]at hy;have⟨tk,m,q1,q2⟩:=hm y n hy;exact⟨tk,m,(if_neg e).trans q1,q2⟩
  have⟨k1,k2,k3⟩:=acd t vs (ms:=r) (λm hm=>h3 m<|by simp[hm]) h hs;refine⟨(cQ aB<|zP L _ k1).2,k2,λm hm=>?_⟩;obtain e|e:=List.mem_cons.1 hm
  .grind
  .exact k3 m e
def WA(t:jc)(vs:List jc)n(h:1<=n/\n<=vs.length):aw n (j6 t vs):=by
 rw[j6];simp only[aw];have:∀(l:List Nat),n-1∈l->bW n (l.map λi=>Ty.var<|i+1):=by
  intro l
  induction l with
  |nil=>simp|cons x l ih=>
   intro hx;simp only[ju,bW];obtain e|e:=List.mem_cons.1 hx
   .left;simp only[aw];omega
   .exact jz (ih e)
 exact this _<|List.mem_range.2 ae
def PK(t:jc)(vs:List jc):size (j6 t vs)=1+vs.length:=by
 rw[j6];simp only[size];have:∀(l:List Nat),ak (l.map λi=>Ty.var<|i+1)=l.length:=by
  intro l
  induction l with
  |nil=>rfl|cons x l ih=>simp only[ju,ak,size,ih,yE];omega
 rw[this,List.length_range]
def L_(vs:List jc)(h:BV t.text):Whole (j6 t vs):=by
 refine⟨h.ne 116 [111,111,32,108,97,114,103,101] aB,?_⟩;have:∀(l:List Nat),p9<|l.map λi=>Ty.var<|i+1:=by
  intro l
  induction l with
  |nil=>trivial|cons x l ih=>exact⟨trivial,ih⟩
 exact this _
def T7:∀(tk:List Ty)(m:Ty),size (qf tk m)=ak tk+tk.length+size m/\(p9 tk->Whole m->Whole (qf tk m))/\∀n,aw n (qf tk m)->bW n tk\/aw n m
 |[],m=>⟨by simp[qf,ak],λ_ h=>h,λn h=>jz h⟩|t::tk,m=>by
  have⟨h1,h2,h3⟩:=T7 tk m;have e:qf (t::tk) m=In.lY t (qf tk m):=rfl;rw[e];refine⟨?_,λq1 q2=>⟨aB,q1.1,h2 q1.2 q2,trivial⟩,λn q=>?_⟩
  .simp only[size,ak,yE,h1];omega
  .simp only[aw,bW,or_false]at q;obtain q|q:=q
   .exact j5 (j5 q)
   .exact(h3 n q).imp jz id
def MkFine.add{t:jc}{vs:List jc}(ht:BV t.text):∀{ms:List Nd}{mks:qe},MkFine mks->(∀m∈ms,vs.length+nn m+kl m<=802)->(∀m∈ms,∃s L f u a,m=.mk 2 s 0 L f u a/\BW (vs.map (·.text)) L)->MkFine (In.wa t vs ms mks)
 |[],mks,h,_,_=>h|m::r,mks,h,hz,hm=>by
  refine MkFine.add ht (ms:=r) ?_ (λm hm=>hz m<|by simp[hm]) (λx hx=>hm x<|by simp[hx]);obtain⟨s,L,f,u,a,rfl,g⟩:=hm m ag;have hz:=hz _<|List.mem_cons_self ..;simp only[nn,kl]at hz;have e:qh (vs.map (·.text)) (.mk 2 s 0 L f u a)=(aI (vs.map (·.text)) L).1:=by show(aI _<|dI L).1=_;rw[g.es]
  have ln:(aI (vs.map (·.text)) L).1.length=L.length:=by
   have:∀(l:List Nd)ns,(aI ns l).1.length=l.length:=by
    intro l
    induction l with
    |nil=>intro ns;rfl|cons x l ih=>intro ns;simp only[aI,yE,ih]
   exact this L _
  have⟨a1,a2,a3⟩:=T7 (aI (vs.map (·.text)) L).1<|j6 t vs;have key:∀x tk m,(if x=qg (.mk 2 s 0 L f u a)then some (qh (vs.map (·.text))<|.mk 2 s 0 L f u a,j6 t vs)else mks x)=some (tk,m)->mks x=some (tk,m)\/(tk=(aI (vs.map (·.text)) L).1/\m=j6 t vs):=xY;refine⟨λx tk m q=>?_,λx tk m q=>?_,λx tk m q=>?_⟩
  .obtain q|⟨rfl,rfl⟩:=key x tk m q
   .exact h.sz x tk m q
   .rw[a1,PK,ln];have:=g.sz;omega
  .obtain q|⟨rfl,rfl⟩:=key x tk m q
   .exact h.wh x tk m q
   .exact a2 g.wh (L_ vs ht)
  .obtain q|⟨rfl,rfl⟩:=key x tk m q
   .exact h.vs x tk m q
   .intro n hn;obtain q|q:=a3 n hn
    .have:=g.oc n q;rw[List.length_map]at this;exact WA t vs n this
    .exact q
def Mb:MkFine (λ_=>none):=⟨λ_ _ _ q=> lq,λ_ _ _ q=> lq,λ_ _ _ q=> lq⟩
def PL:sY (λ_=>none) mks:=λ_ _ q=> lq
end
section
open Go.ChangeMaps Un
@[simp] theorem aiA a0 a1 a2 a3 a4 a5 a6 w:(qy (.iface 78<|.agg #[a0,a1,a2,a3,a4,a5,a6]) 70 78 true).run qw w=.ok (.tuple #[(.agg #[a0,a1,a2,a3,a4,a5,a6]),.bool true]) w:=qkr
@[simp] theorem aiB a0 a1 a2 a3 a4 a5 a6 w:(qy (.iface 85<|.agg #[a0,a1,a2,a3,a4,a5,a6]) 70 85 true).run qw w=.ok (.tuple #[(.agg #[a0,a1,a2,a3,a4,a5,a6]),.bool true]) w:=qkr
@[simp] theorem aiC a0 a1 a2 a3 a4 a5 a6 w:(qy (.iface 85<|.agg #[a0,a1,a2,a3,a4,a5,a6]) 70 78 true).run qw w=.ok (.tuple #[(.agg #[Iv 0,Iv 0,Iv 0,Iv 0,.string ⟨#[]⟩,.slice none 0 0,.slice none 0 0]),.bool false]) w:=qkr
def metW_Makers a w:(method 554 65 (.pointer<|some a) "Makers").run Tryz.prog w=.ok (211,.pointer<|some a) w:=qkr
def metW_Let a w:(method 554 65 (.pointer<|some a) "Let").run Tryz.prog w=.ok (210,.pointer<|some a) w:=qkr
def metJ_Makers a w:(method 554 67 (.pointer<|some a) "Makers").run Tryz.prog w=.ok (279,.pointer<|some a) w:=qkr
def metJ_Let a w:(method 554 67 (.pointer<|some a) "Let").run Tryz.prog w=.ok (278,.pointer<|some a) w:=qkr
def f_.K(g:f_)(P:Nat->Prop)n:=n∈g.ds/\∀x,Hd g.nx n x->P x
open Classical in
noncomputable def f_.cut (g:f_) (P:Nat->Prop):f_:=⟨g.ds.filter λn=>decide (g.K P n),λn=>if g.K P n then g.str n else none,λn=>if g.K P n then g.nx n else none,g.vr,g.ly,g.lv,λn=>if g.K P n then g.V n else .var (g.vr n)⟩
section
variable {g:f_} {s:In.St} {x:Nat}
def cW:n∈(g.cut P).ds↔g.K P n:=by
 simp only[f_.cut,List.mem_filter,decide_eq_true_eq];exact⟨λq=>q.2,λq=>⟨q.1,q⟩⟩
def bJ(h:g.K P n):(g.cut P).str n=g.str n/\(g.cut P).nx n=g.nx n/\(g.cut P).V n=g.V n:=by simp[f_.cut,h]
def vB(h:¬g.K P n):(g.cut P).str n=none/\(g.cut P).nx n=none/\(g.cut P).V n=.var (g.vr n):=by simp[f_.cut,h]
def aed(hg:GL w g.ds g.str g.nx g.vr g.ly g.lv)(hn:n∈g.ds)(e:g.nx n=some m):g.K P n↔g.K P m:=
 ⟨λq=>⟨(hg.nd n hn).2.2 m e,λx k=>q.2 x<|.step e k⟩,λq=>⟨hn,λx k=>q.2 x<|k.sM e⟩⟩
def aee(hg:GL w g.ds g.str g.nx g.vr g.ly g.lv)(k:Hd g.nx n x)(hn:g.K P n):Hd (g.cut P).nx n x/\g.K P x:=by
 induction k with
 |here e=>exact⟨.here<|by rw[(bJ hn).2.1,e],hn⟩|step e k ih=>
  have⟨h1,h2⟩:=ih<|(aed hg hn.1 e).1 hn;exact⟨.step (by rw[(bJ hn).2.1,e]) h1,h2⟩
def ahK(hg:GL w g.ds g.str g.nx g.vr g.ly g.lv)(hn:g.K P n)(k:Hd (g.cut P).nx n x):Hd g.nx n x:=by
 have⟨y,hy⟩:=hg.hd n hn.1;rw[k.one (aee hg hy hn).1];exact hy
def GD(hg:GL w g.ds g.str g.nx g.vr g.ly g.lv)(j:JG g.ds g.str g.nx g.vr)(hP:ScD g.str g.ds g.nx P)(hn:g.K P n){c}{l}(hs:g.str n=some (c,l)){p}(hp:p∈l):g.K P p:=by
 have⟨x,hx⟩:=hg.hd n hn.1;have⟨l',h1,h2⟩:=Pg j hx hs;refine⟨j.Xi n c l hn.1 hs p hp,λy hy=>?_⟩;have:∀{l l':List Nat},dH (y_ g.nx) l l'->p∈l->∃q,q∈l'/\y_ g.nx p q:=by
  intro l l' a
  induction a with
  |nil=>simp|cons e _ ih=>
   intro hp;obtain rfl|hp:=List.mem_cons.1 hp
   .grind
   .grind
 have⟨q,hq,e⟩:=this h2 hp;have hy':Hd g.nx q y:=by
  obtain rfl|⟨z,z1,z2⟩:=e
  .exact hy
  .rw[hy.one z1];exact z2
 exact hP x (j.k_ n x hn.1 hx) hx.head (hn.2 x hx) c l' h1 q hq y hy'
def JS.cut(hg:GL w g.ds g.str g.nx g.vr g.ly g.lv)(nF:vW g.str g.nx [])(inj:∀a b,a∈g.ds->b∈g.ds->g.str a=none->g.str b=none->g.vr a=g.vr b->a=b)(can:Can g.str g.nx g.vr g.V)(val:∀n,n∈g.ds->g.str n=none->g.V n=s.k (g.vr n))(use:∀n,n∈g.ds->g.str n=none->s.u (g.vr n))(ok:In.Ok s)(hP:ScD g.str g.ds g.nx P)(lc:∀a,a∈g.ds->g.nx a=none->P a->∀c l,g.str a=some (c,l)->∀p,p∈l->∀h,Hd g.nx p h->g.lv h<=g.lv a):JS w (g.cut P) s:=by
 have j:=hg.jg nF inj;refine⟨⟨λn hn=>?_,λn hn=>?_,λn hn=>?_⟩,λE hE n m c l e hs=>?_,λa b ha hb sa sb e=>?_,λn x k=>?_,λa ha hn c l hs p hp x hx=>?_,λn hn hs=>?_,λn hn hs=>?_,ok⟩
 .have hn:=cW.1 hn;have⟨q1,q2,q3⟩:=hg.nd n hn.1;refine⟨by rw[(bJ hn).1,(bJ hn).2.1];exact q1,?_,λm e=>cW.2<|(aed hg hn.1 (by rw[<-(bJ hn).2.1];exact e)).1 hn⟩;rw[(bJ hn).1]
  cases e:g.str n with
  |none=>trivial|some q=>
   obtain⟨c,l⟩:=q;rw[e]at q2;obtain⟨r1,r2,r3,r4⟩:=q2;exact⟨r1,r2,λm hm=>cW.2<|GD hg j hP hn e hm,r4.imp id λ⟨gg,z1,z2,z3,z4⟩=>⟨gg,z1,λz=>z2 (cW.1 z).1,z3,z4⟩⟩
 .have hn:¬g.K P n:=λq=>hn<|cW.2 q;exact⟨(vB hn).2.1,(vB hn).1⟩
 .have hn:=cW.1 hn;have⟨x,hx⟩:=hg.hd n hn.1;exact⟨x,(aee hg hx hn).1⟩
 .have hn:=Classical.byContradiction λq=>by rw[(vB q).2.1]at e;cases e
  rw[(bJ hn).2.1]at e;rw[(bJ hn).1]at hs;have hm:=(aed hg hn.1 e).1 hn;have hE':Un.Eq g.nx [] (λa b=>(g.K P a↔g.K P b)/\(g.K P a->E a b)):=by
   refine⟨λa=>⟨Iff.rfl,λ_=>hE.refl a⟩,λa b q=>⟨q.1.symm,λz=>hE.symm _ _<|q.2<|q.1.2 z⟩,λa b d q r=>⟨q.1.trans r.1,λz=>hE.trans _ _ _ (q.2 z)<|r.2<|q.1.1 z⟩,λa b q=>?_,λa b q=>by simp at q⟩;have ha:=Classical.byContradiction λz=>by rw[(hg.out a z).1]at q;cases q
   exact⟨aed hg ha q,λz=>hE.bD a b (by rw[(bJ z).2.1];exact q)⟩
  have⟨l',h1,h2⟩:=nF _ hE' n m c l e hs;refine⟨l',by rw[(bJ hm).1];exact h1,?_⟩;have:∀{l l':List Nat},dH (λa b=>(g.K P a↔g.K P b)/\(g.K P a->E a b)) l l'->(∀p,p∈l->g.K P p)->dH E l l':=by
   intro l l' a
   induction a with
   |nil=>exact λ_=>.nil|cons e _ ih=>exact λh=>.cons (e.2<|h _ ag) (ih λp hp=>h p<|by simp[hp])
  exact this h2 λp hp=>GD hg j hP hn hs hp
 .have ha:=cW.1 ha;have hb:=cW.1 hb;rw[(bJ ha).1]at sa;rw[(bJ hb).1]at sb;exact inj a b ha.1 hb.1 sa sb e
 .by_cases hn:g.K P n
  .have k':=ahK hg hn k;have hx:=(aee hg k' hn).2;rw[(bJ hn).2.2,(bJ hx).1,can n x k']
   cases e:g.str x with
   |none=>rfl|some q=>
    obtain⟨c,l⟩:=q;show Ty.aM c (l.map g.V)=.aM c (l.map (g.cut P).V);rw[eC λp hp=>(bJ<|GD hg j hP hx e hp).2.2]
  .rw[k.one<|.here (vB hn).2.1,(vB hn).2.2,(vB hn).1];rfl
 .have ha:=cW.1 ha;rw[(bJ ha).1]at hs;rw[(bJ ha).2.1]at hn;exact lc a ha.1 hn (ha.2 a<|.here hn) c l hs p hp x<|ahK hg (GD hg j hP ha hs hp) hx
 .have hn:=cW.1 hn;rw[(bJ hn).1]at hs;rw[(bJ hn).2.2];exact val n hn.1 hs
 .have hn:=cW.1 hn;rw[(bJ hn).1]at hs;exact use n hn.1 hs
end
end
section
open Go.ChangeMaps
def VL a b c d e w:(qy (.iface 411<|.agg #[a,b,c,d,e]) 20 411 true).run qw w=.ok (.tuple #[.agg #[a,b,c,d,e],.bool true]) w:=qkr
def DO b(hB:Bx w b My)(f:Fl)vl vr(hv:(vl=.nilIface/\vr=.nilIface)\/∃a b c d,vl=.iface a b/\vr=.iface c d):
 CallsD qw 280 #[Pv b] (.panicking [{v:=.iface 411<|.agg #[Nv f.kind,Nv f.al,Nv f.to,vl,vr],recovered:=false}]) w λe u' w'=>
  e=.returned (.tuple #[])/\u'=.panicking [{v:=.iface 411<|.agg #[Nv f.kind,Nv f.al,Nv f.to,vl,vr],recovered:=true}]/\Bx w' b #[Nv f.kind,Nv f.al,Nv f.to,vl,vr]/\Fr (λi=>i=b) w w':=by
 obtain⟨G,hG⟩:∃G:Value,G=.iface 411 (.agg #[Nv f.kind,Nv f.al,Nv f.to,vl,vr]):=⟨_,rfl⟩;rw[<-hG];have hta:=VL;have B0:=ai hB;obtain⟨c,ff,z⟩:=hB;refine callsD_of_wpS Tryz.func280 rfl λfB cs hu=>?_;apply wpS_seq;apply wpS_region;simp[wpOpsS,go_sem,recoverD,hu,Tryz.ntmps280,Exit.thenS];rw[show(#[Pv b]++((Array.replicate 16 undef).setIfInBounds 3 G).setIfInBounds 0 G)=#[Pv b,G,undef,undef,G,undef,undef,undef,undef,undef,undef,undef,undef,undef,undef,undef,undef]from rfl];obtain⟨CS,Ic⟩:∃CS:List Frame,CS=({fn:=fB.fn,tmps:=fB.tmps,todo:=fB.todo,defers:=fB.defers,mode:=FrameMode.panicking [{v:=G,recovered:=true}],kind:=fB.kind,roundOf:=fB.roundOf}::cs):=⟨_,rfl⟩;rw[<-Ic];refine wpS_of_wp ?_;subst hG;obtain⟨rfl,rfl⟩|⟨ta,xa,tb,xb,rfl,rfl⟩:=hv
 all_goals(
 go_wp2_with fail;refine⟨rfl,_,Ic,.tuple #[],by simp[results,Tryz.results280,go_sem],rfl,rfl,?_,?_⟩
 .exact((B0.Qb rfl _ _ _ _ _).alloc _)
 .exact(((((Fr.refl (λi=>i=b) w).set (b:=b) (j5 rfl) 0 _).set (j5 rfl) 1 _).set (j5 rfl) 2 _).set (j5 rfl) 3 _).set (j5 rfl) 4 _|>.trans (Fr.of<|bw _))
def adY b:
 CallsD qw 280 #[Pv b] .returning w λe u' w'=>
  e=.returned (.tuple #[])/\u'=.returning/\w'=w:=by
 refine callsD_of_wpS Tryz.func280 rfl λfB cs hu=>?_;apply wpS_seq;apply wpS_region;simp[wpOpsS,go_sem,recoverD,hu,Tryz.ntmps280,Exit.thenS];rw[show(#[Pv b]++((Array.replicate 16 undef).setIfInBounds 3 Zv).setIfInBounds 0 Zv)=#[Pv b,Zv,undef,undef,Zv,undef,undef,undef,undef,undef,undef,undef,undef,undef,undef,undef,undef]from rfl];have Ic:fB::cs={fB with mode:=.returning}::cs:=(by cases fB;simp at hu;subst hu;rfl);refine wpS_of_wp ?_
 go_wp2
 exact⟨rfl,_,Ic,.tuple #[],by simp[results,Tryz.results280,go_sem],rfl,rfl,rfl⟩
end
end Go.Proofs.YtnldmeakhapdhaaGreatDoor

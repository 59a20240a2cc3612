import Derived.Test.YtopmodaakdnliaaGreatDoorCGp
import Derived.Test.YtopmodaakdnliaaGreatDoorCYz1
import Derived.Test.YtopmodaakdnliaaGreatDoorCOl
set_option linter.all false
set_option maxRecDepth 100000
set_option maxHeartbeats 8000000
namespace Go.Proofs.YtopmodaakdnliaaGreatDoor
open Or renaming inr->ja,inl->jc
open And renaming intro->jd
open _root_.List renaming mem_cons_of_mem->jf,take_succ_eq_append_getElem->jh,getD_eq_getElem?_getD->ji,append_nil->jj,drop_eq_getElem_cons->jk,mem_map_of_mem->jl,take_length->jm,mem_filter->jo,map_append->jq
open _root_.Nat renaming le_trans->jt,le_of_eq->ju,le_succ->jv,lt_of_lt_of_le->jx,zero_le->jy,mul_one->jz
open Go.World renaming cell?_of_block->j3,cell?->j5
open Go.Value renaming string->j6,slice->j7,ownBlock->j8
open Un renaming dZ->j9,wr->qd
open Go.RowKit.Below renaming refl->qe,heap_setCell->qf
open Fr renaming of->qg,refl->qh
open Ne renaming symm->qi
open Classical renaming byContradiction->qj
open Un.Ty renaming var->ql
open Pu renaming Tok->qm
open Bx renaming new->qn
open Go Go.RowKit Go.ChangeMaps Un Proofs.Tryz
variable {C:Array Value} {k st:BA} {dom:BA->Prop} {rc rs:Bool} {e:Ending} {g g0 g1:fU} {G Γ yd:In.Env} {p q r:In.MM Un.Ty} {mks:In.Mks} {ρ lH:In.Rn} {d:In.Ri} {s s0 s1:In.St} {c:JC} {ls:List (List UInt8)} {nl:List BA} {ms:List Nd} {vs:List qm} {B D D' K L a b base cnt0 aw f gb l l' m mb n nb Vp sb sc t vc y:Nat} {cy:Nat->Nat} {E P Q S:Nat->Prop} {nd x:Nd} {va:Option Addr} {α β:Type} {a_:Un.Nx} {T T1:Un.Ty} {u v vx:Value} {V W w w' w0 w1 w2:World}
section
open Go.MapKept
def Fa(g:fU)l n:=∃S:Nat->Prop,ScD g.str g.ds g.nx S/\(∀x,S x->g.lv x<=l\/g.lv x=aL)/\∀h,Hd g.nx n h->S h
def dP(g:fU)v:=∃x,g.R v x/\g.lv x=aL
structure ug(E:Nat->Prop)l sb w(g:fU)(s:In.St)ρ M:Prop where
 ms:MS BQ w sb M
 kd:∀p,p∈M->p.1∈g.ds
 gm:∀h v,bd h M=some v->∃m,v=nA m/\m∈g.ds/\g.V m=sub (In.via ρ) (g.V h)/\(∀x,Hd g.nx m x->g.lv x<=l)/\∀y,aG y (g.V h)->dP g y->ρ y≠none
 rn:∀v n,ρ v=some n->s.u n/\∃x,g.R v x/\g.lv x=aL/\(bd x M≠none\/E x)
section
variable {cnt:Nat} {M:List (Nat×Value)}
def ug.any(h:ug E l sb w g s ρ M){v:Nat}(q:ρ v=some n):dP g v:=by
 have⟨_,x,r,q,_⟩:=h.rn v n q;exact⟨x,r,q⟩
def Fa.mv(h:JS w g s)(h1:JS w1 g1 s1)(o:OR l B g s cnt ρ g1 s1 aw lH)(hn:n∈g.ds)(f:Fa g L n):Fa g1 L n:=by
 obtain⟨S,f1,f2,f3⟩:=f;refine⟨λx=>S x/\x∈g.ds,λx hx MW hS k l hs p hp y ky=>?_,λx hx=>by rw[(o.gB x hx.2).1];exact f2 x hx.1,λy ky=>?_⟩
 .have e:=(o.st.gB x hS.2).2.1;rw[e]at hs;have Mw:=(h.gl.part hS.2 hs).2 p hp;have ky':=(o.hd p Mw y).1 ky;exact⟨f1 x hS.2 ((o.hd x hS.2 x).1<|.here MW).head hS.1 k l hs p hp y ky',h.gl.bD Mw ky'⟩
 .have ky':=(o.hd n hn y).1 ky;exact⟨f3 y ky',h.gl.bD hn ky'⟩
def Fa.part{ps}(f:Fa g L n)(ha:Hd g.nx n a)(had:a∈g.ds)(hs:g.str a=some (k,ps)){p:Nat}(hp:p∈ps):Fa g L p:=by
 obtain⟨S,f1,f2,f3⟩:=f;exact⟨S,f1,f2,λy ky=>f1 a had ha.head (f3 a ha) k ps hs p hp y ky⟩
def dP.back(h:JS w g s)(h1:JS w1 g1 s1)(o:OR l B g s cnt ρ g1 s1 aw lH){p v:Nat}(hp:p∈g.ds)(hv:aG v (g.V p))(a:dP g1 v):dP g v:=by
 obtain⟨x,r,q⟩:=a;have⟨y,r0⟩:=h.IK hp hv;have⟨b1,b2,b3⟩:=o.st.gB y r0.1;have e:=h1.inj y x b1 r.1 (b2.trans r0.2.2.1) r.2.2.1 (by rw[b3,r0.2.2.2,r.2.2.2]);subst e;exact⟨y,r0,by rw[<-(o.gB y r0.1).1];exact q⟩
def dP.fwd(h:JS w g s)(o:OR l B g s cnt ρ g1 s1 aw lH){v:Nat}(a:dP g v):dP g1 v:=by
 obtain⟨x,r,q⟩:=a;have⟨b1,b2,b3⟩:=o.st.gB x r.1;exact⟨x,⟨b1,((o.hd x r.1 x).2<|.here r.2.1).head,b2.trans r.2.2.1,b3.trans r.2.2.2⟩,by rw[(o.gB x r.1).1];exact q⟩
def ad2(h:JS w g s)(h1:JS w1 g1 s1)(o:OR l B g s cnt ρ g1 s1 aw lH)(hr:∀v n,lH v=some n->dP g1 v){p:Nat}(hp:p∈g.ds)(hc:∀v,aG v (g.V p)->dP g v->ρ v≠none):sub (In.via ρ) (g.V p)=sub (In.via lH) (g.V p):=sub_congr _ λv ov=>by
 unfold In.via
 cases e:ρ v with
 |some n=>rw[o.ext v n e]|none=>
  cases e1:lH v with
  |none=>rfl|some n=>exact absurd e<|hc v ov<|dP.back h h1 o hp ov<|hr v n e1
def ahw(h:JS w g s)(hr:∀v n,ρ v=some n->dP g v){x}(hn:n∈g.ds)(hx:Hd g.nx n x)(hl:g.lv x<aL):(∀v,aG v (g.V n)->¬dP g v)/\sub (In.via ρ) (g.V n)=g.V n:=by
 have a:∀v,aG v (g.V n)->¬dP g v:=λv ov⟨y,r,q⟩=>by
  have⟨z,r1,q1⟩:=e_ (lv:=g.lv) h.jg h.can _ n x hn hx (br _) ov;have e:=h.inj z y r1.1 r.1 r1.2.2.1 r.2.2.1<|r1.2.2.2.trans r.2.2.2.symm;subst e;have:=q1 h.lc;omega
 refine⟨a,In.rJ λv ov=>?_⟩;rw[In.via]
 cases e:ρ v with
 |none=>rfl|some n=>grind
end
abbrev vrV(c:JC):Value:=.func (.func 348) #[Pv c.eb] #[]
abbrev Jg c l sb:=#[Nv l,vrV c,Mv sb]
def NU E c nb l sb g s cnt ρ n w(e:Ending)w':=
 ∃m g' s' aC du M',e=.returned (nA m)/\JE w' c nb l aC/\JS w' g' s'/\ug E l sb w' g' s' du M'/\OR l w.heap.size g s cnt ρ g' s' aC du/\m∈g'.ds/\g'.V m=sub (In.via du) (g.V n)/\(∀x,Hd g'.nx m x->g'.lv x<=l)/\(∀v,aG v (g.V n)->dP g v->du v≠none)/\(∀v,ρ v=none->du v≠none->aG v (g.V n))/\aC<=cnt+size (g.V n)/\Fr (λb=>b=c.cb\/b∈g.ds\/b=sb) w w'
def VH(c:JC)sb:=c.gL<=sb/\c.eb<sb/\c.cb<sb/\c.rb<sb/\c.mb<sb
def ad3 c nb l sb k:=∀(w:World)(g:fU)(s:In.St)(cnt:Nat)(ρ:In.Rn)(M:List (Nat×Value))(n:Nat),JE w c nb l cnt->JS w g s->(∀n,s.u n->us cnt n)->ug (λ_=>False) l sb w g s ρ M->n∈g.ds->Fa g l n->size (g.V n)<=k->cnt+size (g.V n)<=900000->Cq 370 #[.agg<|Jg c l sb,nA n] w (NU (λ_=>False) c nb l sb g s cnt ρ n w)
def akr c nb l sb k:=∀(w:World)(g:fU)(s:In.St)(cnt:Nat)(ρ:In.Rn)(M:List (Nat×Value))(h:Nat),JE w c nb l cnt->JS w g s->(∀n,s.u n->us cnt n)->ug (λ_=>False) l sb w g s ρ M->h∈g.ds->g.nx h=none->g.lv h=aL->bd h M=none->Fa g l h->size (g.V h)<=k->cnt+size (g.V h)<=900000->Cq 372 #[.agg<|Jg c l sb,nA h] w (NU (λx=>x=h) c nb l sb g s cnt ρ h w)
section
variable {cnt:Nat} {M:List (Nat×Value)}
def OR.eqv{a_:Nx}(h:JS w g s)(e:iF g.str g.nx a_)(hg:GL w' g.ds g.str a_ g.vr g.ly g.lv)(B:Nat):OR l B g s cnt ρ {g with nx:=a_} s cnt ρ where
 st:=iG.eqv h e hg l
 hd m _ x:=⟨e.back h.gl,e.bO m x⟩
 kk:=rfl
 ext _ _ q:=q
 cc:=br _
 uu _ q:=jc q
 nw v n q r:=qAw
 on v v' n q r:=qAw
 ZH n:=⟨jc,λq=>q.elim id λ⟨v,q,r⟩=>qAw⟩
 gB m _:=⟨rfl,rfl⟩
 new m hm:=jc ⟨hm,rfl,rfl⟩
 nl m hm q:=absurd hm q
def ug.eqv(h:ug E l sb w g s ρ M)(j:JS w g s)(e:iF g.str g.nx a_)(RG:MS BQ w' sb M):ug E l sb w' {g with nx:=a_} s ρ M where
 ms:=RG
 kd:=h.kd
 gm y v q:=by
  have⟨m,r1,r2,r3,r4,r5⟩:=h.gm y v q;exact⟨m,r1,r2,r3,λx k=>r4 x<|e.back j.gl k,λz oz⟨x,⟨a1,a2,a3,a4⟩,b⟩=>r5 z oz ⟨x,⟨a1,(e.Bt x).1 a2,a3,a4⟩,b⟩⟩
 rn v n q:=by
  have⟨q1,x,⟨a1,a2,a3,a4⟩,q2,q3⟩:=h.rn v n q;exact⟨q1,x,⟨a1,(e.Bt x).2 a2,a3,a4⟩,q2,q3⟩
def ug.put(h:ug (λx=>x=a) l sb w g s ρ M)(RG:MS BQ w' sb (bn a (nA m) M))(ha:a∈g.ds)(hm:m∈g.ds)(hV:g.V m=sub (In.via ρ) (g.V a))(hl:∀x,Hd g.nx m x->g.lv x<=l)(ho:∀y,aG y (g.V a)->dP g y->ρ y≠none):ug (λ_=>False) l sb w' g s ρ (bn a (nA m) M) where
 ms:=RG
 kd p hp:=by
  have:bd p.1 (bn a (nA m) M)≠none:=λq=>by
   have:=(zO (x:=p.1) (L:=bn a (nA m) M)).2<|jl hp;rw[q]at this
   cases this
  rw[aN]at this;split at this
  .rename_i e;rw[<-e];exact ha
  .cases e:bd p.1 M with
   |none=>exact absurd e this|some v=>exact h.kd (p.1,v)<|pf e
 gm y v q:=by
  rw[aN]at q;split at q
  .rename_i e;subst e;injection q with q;exact⟨m,q.symm,hm,hV,hl,ho⟩
  .exact h.gm y v q
 rn v n q:=by
  have⟨q1,x,r,q2,q3⟩:=h.rn v n q;refine⟨q1,x,r,q2,jc ?_⟩;rw[aN];split
  .simp
  .rename_i e;exact q3.resolve_right<|λq=>e q.symm
def Q6{p:Prop}(h:p:=by
 by_cases e:z=n
 .simp[j9,e]
 .simp only[j9,e,if_false];exact r4 z k):p:=h
def ug.var{w1}(h:ug (λ_=>False) l sb w g s ρ M)(j:JS w g s)(RG:MS BQ w1 sb M){x n}(hx:x∈g.ds)(hn:g.nx x=none)(hs:g.str x=none)(hl:g.lv x=aL)(hg:bd x M=none)(nd:¬n∈g.ds)(Iz:l<aL):ρ (g.vr x)=none/\ug (λy=>y=x) l sb w1 (g.add n none (cnt+1) (none,0) l<|.var<|cnt+1) ⟨s.k,λm=>s.u m\/m=cnt+1⟩ (λy=>if y=g.vr x then some (cnt+1)else ρ y) M:=by
 have hr:ρ (g.vr x)=none:=by
  cases e:ρ (g.vr x)with
  |none=>rfl|some n'=>
   have⟨_,y,r,_,q⟩:=h.rn _ _ e;have:=j.inj x y hx r.1 hs r.2.2.1 r.2.2.2.symm;subst this;exact(q.resolve_right id hg).elim
 have ne:∀m,m∈g.ds->m≠n:=λm hm e=>nd<|e▸hm;have ahx:∀v,dP (g.add n none (cnt+1) (none,0) l<|.var<|cnt+1) v->dP g v:=λv⟨y,⟨r1,r2,r3,r4⟩,q⟩=>by
  by_cases e:y=n
  .subst e;simp[j9]at q;omega
  .exact⟨y,⟨(List.mem_cons.1 r1).resolve_left e,r2,by simpa[j9,e]using r3,by simpa[j9,e]using r4⟩,by simpa[j9,e]using q⟩
 refine⟨hr,RG,λp hp=>jf _<|h.kd p hp,λy v q=>?_,λv n' q=>?_⟩
 .have⟨m,r1,r2,r3,r4,r5⟩:=h.gm y v q;have hy:y∈g.ds:=by
   have:(y,v)∈M:=pf q;exact h.kd _ this
  refine⟨m,r1,jf _ r2,?_,λz k=>?_,λz oz az=>?_⟩
  .simp only[j9,ne m r2,ne y hy,if_false];rw[r3];refine sub_congr _ λz oz=>?_;unfold In.via;by_cases e:z=g.vr x
   .exact absurd hr (by rw[<-e];exact r5 z oz ⟨x,⟨hx,hn,hs,e.symm⟩,hl⟩)
   .simp[e]
  .exact Q6
  .simp only[j9,ne y hy,if_false]at oz;have:=r5 z oz<|ahx z az;by_cases e:z=g.vr x
   .simp[e]
   .simpa[e]using this
 .by_cases e:v=g.vr x
  .simp[e]at q;exact⟨ja q.symm,x,⟨jf _ hx,hn,by simp[j9,ne x hx,hs],by simp[j9,ne x hx,e]⟩,by simp[j9,ne x hx,hl],ja rfl⟩
  .simp[e]at q;have⟨q1,y,⟨r1,r2,r3,r4⟩,q2,q3⟩:=h.rn v n' q;exact⟨jc q1,y,⟨jf _ r1,r2,by simp[j9,ne y r1,r3],by simp[j9,ne y r1,r4]⟩,by simp[j9,ne y r1,q2],q3.imp id False.elim⟩
def VJ(hf:VH c sb)(Iz:l<aL)(h:JE w c nb l cnt)(j:JS w g s)(hu:∀n,s.u n->us cnt n)(cp:ug (λ_=>False) l sb w g s ρ M){x}(hx:x∈g.ds)(hn:g.nx x=none)(hl:g.lv x=aL)(hg:bd x M=none)(hs:g.str x=none)(hc:cnt+1<=900000):Cq 372 #[.agg<|Jg c l sb,nA x] w (NU (λy=>y=x) c nb l sb g s cnt ρ x w):=by
 have k0:Bq w (w.alloc<|Cv (Jg c l sb) 514):=bw _;have⟨_,_,c3,_,_⟩:=((j.af k0).gl.nd x hx).cells;rw[hs]at c3;have c3':(w.alloc<|Cv (Jg c l sb) 514).cell? ⟨x,3,none⟩=some (Sv ⟨#[]⟩):=c3;have b1:(w.alloc<|Cv (Jg c l sb) 514).cell? ⟨w.heap.size,1,none⟩=some (vrV c):=(Bx.new w (Jg c l sb) 514).c 1;have HV:=nU (h.af k0) (j.af k0) hu ae;have zc:=h.ct.z;have HX:=ai<|And.intro h<|And.intro j<|And.intro hu cp;have K0:=ai k0;clear h j hu cp k0 c3;go_enter func372,ntmps372;go_wp2_with fail;refine HV.mono ?_;rintro e w1⟨n,rfl,hnn,CY,lp,F1⟩;have HY:=ai<|And.intro CY<|And.intro lp F1;clear HV CY lp F1
 go_wp2
 go_ret;have⟨h,j,hu,cp⟩:=uh HX;have⟨CY,lp,F1⟩:=uh HY;have k0:=uh K0;have zk:=k0.size;have nd:¬n∈g.ds:=λq=>by have:=j.lt q;omega
 have zs:=cp.ms.lt;obtain⟨f1,f2,f3,f4,f5⟩:=hf;have RG:MS BQ w1 sb M:=(cp.ms.below k0).same (F1.block sb ae (λe=>by have e:sb=c.cb:=e;omega));have⟨hr,EO⟩:=cp.var j (cnt:=cnt) RG hx hn hs hl hg nd Iz;have hV:g.V x=.var (g.vr x):=by have:=j.can x x<|.here hn;rw[hs]at this;exact this
 refine⟨n,_,_,cnt+1,_,M,rfl,CY,lp,EO,OR.var j (v:=g.vr x) ae nd hu hr<|λy n' q=>(cp.rn y n' q).1,ah,?_,λz k=>?_,λv o _=>?_,λv q q'=>?_,by rw[hV];simp[size],?_⟩
 .simp[j9,hV,sub,In.via]
 .have:z=n:=k.one<|.here (j.gl.out _ nd).1;subst this;simp[j9]
 .rw[hV]at o;simp only[aG]at o;simp[o]
 .rw[hV];simp only[aG];exact qj λe=>q' (by simp[qi e,q])
 .exact(qg k0).trans (F1.gL λb q=>jc q)
def ahy{k}(hf:VH c sb)(Iz:l<aL)(HM:akr c nb l sb k):ad3 c nb l sb k:=by
 intro w g s cnt ρ M n h j hu cp hn fa hk hc;have⟨a,hd⟩:=j.gl.hd n hn;have ha:=j.gl.bD hn hd;have⟨k0,BA⟩:=Hu w (Jg c l sb) 514;have HC:=p_ (j.af k0).gl hn hd;have zs:=cp.ms.lt;have xD:∀x∈g.ds,x<w.heap.size:=λx hx=>j.lt hx;have HX:=And.intro h<|And.intro j<|And.intro hu<|And.intro cp fa;have HHD:=ai hd;have K0:=ai k0;go_enter func370,ntmps370;go_wp2_with fail;refine HC.mono ?_;rintro e w1⟨rfl,eI,G1,F1,E1,z1⟩;have j:=HX.2.1;have cp:=HX.2.2.2.1;have hd:=uh HHD;have k0:=uh K0;have zk:=k0.size;have hsd:=(j.mI cp.ms).1;have tJ:¬w.heap.size∈g.ds:=λq=>by have:=xD _ q;omega
 have zE:=BA.fr F1 tJ;have M1:=(cp.ms.below k0).same<|F1.block sb ae hsd;have j1:=j.eqv E1 G1;have EO:=cp.eqv j E1 M1;have o1:OR l w.heap.size g s cnt ρ {g with nx:=eI} s cnt ρ:=OR.eqv j E1 G1 _;have hcb:=HX.1.CX j;have heb:=HX.1.CW j;have e1:=(HX.1.af k0).fr (j.af k0) (F1.gL λb q=>ja<|ja q) ((HX.1.af k0).bx.fr F1 heb)<|(HX.1.af k0).ct.fr F1 hcb;have FF:Fr (λb=>b=c.cb\/b∈g.ds\/b=sb) w w1:=(qg k0).trans' F1<|λx q=>jc<|ja<|jc q;have⟨ry,_⟩:=(G1.nd a ha).lvl;have hVa:g.V n=g.V a:=by rw[j.can n a hd,j.can a a<|.here hd.head]
 have b2:=zE.c 2;by_cases hla:g.lv a=aL
 .have UX:∀x∈g.ds,∃c t,w1.heap[x]? =some (Cv c t (0,0)):=λx hx=>⟨_,_,(G1.nd x hx).1⟩;have hl:=M1.look YE Tryz.underlying512 (zN w1) a (UX a ha) (λp hp=>UX p.1<|cp.kd p hp) true;rw[hla]at ry
  cases hg:bd a M with
  |some v=>
   rw[hg]at hl;obtain⟨m,rfl,r2,r3,r4,r5⟩:=EO.gm a v hg;simp at hl;have HY:=show NU (λ_=>False) c nb l sb g s cnt ρ n w (Rv<|nA m) w1 from⟨m,{g with nx:=eI},s,cnt,ρ,M,rfl,e1,j1,EO,o1,r2,by rw[hVa];exact r3,r4,λv o av=>r5 v (by rw[<-hVa];exact o)<|dP.fwd j o1 av,λv q q'=>absurd q q',ae,FF⟩
   go_wp2
   go_ret;exact HY
  |none=>
   rw[hg]at hl;simp at hl;have fa1:Fa {g with nx:=eI} l a:=by
    have⟨S,f1,f2,f3⟩:=HX.2.2.2.2.mv j j1 o1 hn;exact⟨S,f1,f2,λy ky=>by rw[ky.one<|.here (E1.bO _ _ hd).head];exact f3 a<|E1.bO _ _ hd⟩
   have HD:=HM w1 {g with nx:=eI} s cnt ρ M a e1 j1 HX.2.2.1 EO ha (E1.bO _ _ hd).head hla hg fa1 (by rw[hVa]at hk;exact hk) (by rw[hVa]at hc;exact hc);have b0:=zE.c 0;have b1:=zE.c 1;have zb1:=zE.z;have HY:=jd j1<|jd o1 FF;have HJ0:=ai j;have nbx:¬(w.heap.size=c.cb\/w.heap.size∈g.ds\/w.heap.size=sb):=by
    have:=HX.1.ct.z;rintro(q|q|q)
    .omega
    .exact tJ q
    .omega
   go_wp2_with fail;refine HD.mono ?_;rintro e w2⟨m,g2,s2,dI,ZI,M2,rfl,e2,j2,RH,o2,r1,r2,r3,r4,r5,r6,F2⟩;have b2':=(zE.fr F2 nbx).c 2;have HMS:=ai RH.ms;have HOK:∀x∈g2.ds,∃c t,w2.heap[x]? =some (Cv c t (0,0)):=λx hx=>⟨_,_,(j2.gl.nd x hx).1⟩;have ha2:=(o2.st.gB a ha).1;have kd2:=ai RH.kd;have HZ:=jd e2<|jd j2<|jd RH<|jd o2<|jd r1<|jd r2<|jd r3<|jd r4<|jd r5<|jd r6 F2;go_wp2_with(refine aY _ rfl _ _ _ _ (ja rfl) YE Tryz.underlying512 _ _ rfl HMS a (nA m) rfl rfl (HOK a ha2) (λp hp=>HOK p.1<|kd2 p hp) ?_;intro w3 H' O';have HM3:=ai H';have O3:=ai O';clear H' O');go_ret;obtain⟨e2,j2,RH,o2,r1,r2,r3,r4,r5,r6,F2⟩:=HZ;obtain⟨j1,o1,FF⟩:=HY;have O:=uh O3;have j:=uh HJ0;obtain⟨f1,f2,f3,f4,f5⟩:=hf;have⟨n1,n2⟩:=j2.mI RH.ms;have eV:=(o2.gB a ha).2;refine⟨m,g2,s2,dI,ZI,_,rfl,e2.one O f1 f2 f3 f4 f5,j2.one O n1 n2,RH.put HM3 ha2 r1 (by rw[eV];exact r2) r3<|λy oy ay=>?_,o1.trans j j1 j2 o2 ae,r1,by rw[hVa];exact r2,r3,λv o av=>r4 v (by show aG v (g.V a);rw[<-hVa];exact o) (dP.fwd j o1 av),λv q q'=>by rw[hVa];exact r5 v q q',by rw[hVa];exact r6,?_⟩
   .rw[eV]at oy;exact r4 y oy<|dP.back j1 j2 o2 ha oy ay
   .have F3:=FF.trans F2;exact⟨O.os.trans F3.os,O.tape.trans F3.tape,O.output.trans F3.output,by rw[O.size];exact F3.size,λk hk hn=>(O.block k<|λe=>hn<|ja<|ja e).trans<|F3.block k hk hn⟩
 .have hle:g.lv a<=l:=by
   have⟨S,f1,f2,f3⟩:=HX.2.2.2.2;exact(f2 a<|f3 a hd).resolve_right hla
  have cJ:¬((g.lv a:Nat):Int)=9223372036854775807:=by have:l<9223372036854775807:=Iz;omega
  have⟨v1,v2⟩:=ahw j (λv n=>cp.any) hn hd ae;have HY:=show NU (λ_=>False) c nb l sb g s cnt ρ n w (Rv<|nA a) w1 from⟨a,{g with nx:=eI},s,cnt,ρ,M,rfl,e1,j1,EO,o1,ha,by rw[v2];exact hVa.symm,(λx k=>by rw[k.one<|.here (E1.bO _ _ hd).head];exact hle),λv o av=>absurd av<|v1 v o,λv q q'=>absurd q q',ae,FF⟩
  go_wp2
  go_ret;exact HY
end
def CpR c nb l sb g s cnt ρ(L:List Nat)w gk v wr:=
 ∃(j:Nat)(C:Array Value)(g':fU)(s':In.St)(aC:Nat)(du:In.Rn)(M':List (Nat×Value))(ps:List Nat),Hid (gk=L.length-j)/\j<=L.length/\v=Nv j/\JE wr c nb l aC/\JS wr g' s'/\ug (λ_=>False) l sb wr g' s' du M'/\OR l (w.heap.size+2) g s cnt ρ g' s' aC du/\Fr (λb=>b=c.cb\/b∈g.ds\/b=sb) w wr/\Bx wr w.heap.size (Jg c l sb)/\Bx wr (w.heap.size+1) C/\Hid (C.size=L.length)/\
  Hid (ps.length=j/\(∀m,m∈ps->m∈g'.ds/\∀x,Hd g'.nx m x->g'.lv x<=l)/\ps.map g'.V=(L.take j).map (λp=>sub (In.via du)<|g.V p)/\(∀i(h:i<ps.length),C[i]? =some (nA ps[i]))/\(∀v,(∃p,p∈L.take j/\aG v (g.V p))->dP g v->du v≠none)/\(∀v,ρ v=none->du v≠none->∃p,p∈L.take j/\aG v (g.V p))/\aC<=cnt+ak ((L.take j).map g.V))
def ug.af{M}(h:ug E l sb w g s ρ M)(hb:Bq w w'):ug E l sb w' g s ρ M:=⟨h.ms.below hb,h.kd,h.gm,h.rn⟩
def ug.one{E}{l sb b}{w w'}{g}{s}{ρ}{M}(h:ug E l sb w g s ρ M)(o:One b w w')(hb:sb≠b):ug E l sb w' g s ρ M:=⟨h.ms.one o hb,h.kd,h.gm,h.rn⟩
def ug.add{M}(h:ug (λ_=>False) l sb w g s ρ M)(nd:¬n∈g.ds)q v a T:ug E l sb w (g.add n (some q) v a l T) s ρ M:=by
 have ne:∀m,m∈g.ds->m≠n:=λm hm e=>nd<|e▸hm;refine⟨h.ms,λp hp=>jf _<|h.kd p hp,λy u r=>?_,λu n' r=>?_⟩
 .have⟨m,r1,r2,r3,r4,r5⟩:=h.gm y u r;have hy:=h.kd _<|pf r;refine⟨m,r1,jf _ r2,by simp[j9,ne m r2,ne y hy,r3],λz k=>?_,λz oz⟨t,⟨b1,b2,b3,b4⟩,b5⟩=>?_⟩
  .exact Q6
  .simp only[j9,ne y hy,if_false]at oz;have e:t≠n:=λe=>by subst e;simp[j9]at b3
   exact r5 z oz ⟨t,⟨(List.mem_cons.1 b1).resolve_left e,b2,by simpa[j9,e]using b3,by simpa[j9,e]using b4⟩,by simpa[j9,e]using b5⟩
 .have⟨q1,y,⟨r1,r2,r3,r4⟩,q2,q3⟩:=h.rn u n' r;exact⟨q1,y,⟨jf _ r1,r2,by simp[j9,ne y r1,r3],by simp[j9,ne y r1,r4]⟩,by simp[j9,ne y r1,q2],q3.imp id False.elim⟩
section
variable {cnt:Nat} {M:List (Nat×Value)}
def VK(hf:VH c sb)(IH:ad3 c nb l sb K)(h:JE w c nb l cnt)(js:JS w g s)(hu:∀n,s.u n->us cnt n)(cp:ug (λ_=>False) l sb w g s ρ M){x}(hx:x∈g.ds)(hn:g.nx x=none)(fa:Fa g l x){L}(hs:g.str x=some (k,L))(hz:size (g.V x)<=K+1)(hc:cnt+size (g.V x)<=900000):Cq 372 #[.agg<|Jg c l sb,nA x] w (NU (λy=>y=x) c nb l sb g s cnt ρ x w):=by
 have hP:=(js.gl.nd x hx).2.1;rw[hs]at hP;obtain⟨CB,hL,HLM,aE⟩:=hP;have hV:g.V x=.aM k (L.map g.V):=by have:=js.can x x<|.here hn;rw[hs]at this;exact this
 have HSZ:size (g.V x)=1+ak (L.map g.V):=by rw[hV];simp[size]
 have⟨i0,m6,ku,gS,gC⟩:=info_parts Cx;have Hi:=lE (by_:=8) vF m6 ku rfl gS gC aA L.length hL;have k0:Bq w (w.alloc<|Cv (Jg c l sb) 514):=bw _;have b8:Bq w ((w.alloc<|Cv (Jg c l sb) 514).alloc<|Cv (Array.replicate L.length<|.pointer none) 476):=(bw _).alloc ah _;have⟨_,_,a3,_,a4⟩:=((js.af k0).gl.nd x hx).cells;rw[hs]at a3 a4;have a3':(w.alloc<|Cv (Jg c l sb) 514).cell? ⟨x,3,none⟩=some (Sv<|pn k):=a3;have a4':(w.alloc<|Cv (Jg c l sb) 514).cell? ⟨x,4,none⟩=some (.slice (g.ly x).1 L.length (g.ly x).2):=a4;have⟨_,_,_,_,d4⟩:=((js.af b8).gl.nd x hx).cells;rw[hs]at d4;have d4':((w.alloc<|Cv (Jg c l sb) 514).alloc<|Cv (Array.replicate L.length<|.pointer none) 476).cell? ⟨x,4,none⟩=some (.slice (g.ly x).1 L.length (g.ly x).2):=d4;obtain⟨⟨sa,sc⟩,YT⟩:∃q,g.ly x=q:=⟨_,rfl⟩;rw[YT]at a4' d4';have HLY:=ai YT;have hea:((pn k).toList==[])=false:=by rw[<-Bool.not_eq_true,beq_iff_eq];exact eP CB
 have zc:=h.ct.z;have zs:=cp.ms.lt;have ST:Hid (CpR c nb l sb g s cnt ρ L w L.length (Iv 0)<|(w.alloc<|Cv (Jg c l sb) 514).alloc<|Cv (Array.replicate L.length<|.pointer none) 476):=ai ⟨0,Array.replicate L.length<|.pointer none,g,s,cnt,ρ,M,[],ai ah,Nat.zero_le _,rfl,h.af b8,js.af b8,cp.af b8,OR.refl js _ _ _ _,Fr.of b8,(Bx.new w _ _).alloc _,by have:=Bx.new (w.alloc<|Cv (Jg c l sb) 514) (Array.replicate L.length<|.pointer none) 476;simpa using this,ai ah,ai ⟨rfl,ah,ah,(λi hi=>by simp at hi),(λv⟨p,q,_⟩=>by simp at q),(λv q q'=>absurd q q'),by simp[ak]⟩⟩;have HJ:=ai js;have HV:=ai hV;have HZ:=ai<|And.intro h.z.2.2<|And.intro h.bx.z<|And.intro h.ct.z<|And.intro h.rs.lt h.ms.lt;have xlt:=js.lt hx;clear h js cp k0 b8 a3 a4 d4 aE hV YT;go_enter func372,ntmps372
 go_wp2
 go_loopg[27] L.length (λgk v wr=>CpR c nb l sb g s cnt ρ L w gk v wr)
 case atStart=>exact ST
 case round=>
  clear ST a3' a4' d4' hea Hi;obtain⟨j,C,g1,s1,aw,lH,M1,ps,bE,hj,rfl,CY,lp,EO,rD,F1,B0,B1,hC,hT⟩:=hrel;have zw:=F1.size;have zb:=B1.z;have VL:x∈g1.ds/\g1.ly x=g.ly x/\g1.str x=some (k,L):=by
   have⟨b1,b2,b3⟩:=rD.st.gB x hx;obtain⟨_,q2,_⟩|⟨q,_⟩:=rD.new x b1
   .exact⟨b1,q2,b2.trans hs⟩
   .omega
  have XZ:∀p,p∈L->g1.V p=g.V p:=λp hp=>(rD.gB p<|HLM p hp).2;have sz:=HSZ;by_cases aI:j<L.length
  .have hd:(j:Int)<(L.length:Int):=ae;have⟨ga,ea,ra,_⟩:=lp.gl.row VL.1 VL.2.2 aI;rw[VL.2.1,uh HLY]at ea;have ea:=ea;subst ea;have⟨x1,x2,x3,x4,x5,x6,x7⟩:=uh hT;have hjm:j<(L.map g.V).length:=by simpa using aI
   have⟨y1,y2⟩:=zL (L.map g.V) hjm;simp only[List.getElem_map,<-List.map_take]at y1 y2;have hpm:=List.getElem_mem aI;have Mw:=HLM _ hpm;have HC:=IH wr g1 s1 aw lH M1 L[j] CY lp (rD.used hu) EO (rD.st.gB _ Mw).1 ((fa.part (.here hn) hx hs hpm).mv HJ lp rD Mw) (by rw[XZ _ hpm];omega) (by rw[XZ _ hpm];omega);have b0:=B0.c 0;have b1:=B0.c 1;have b2:=B0.c 2;have HY:=ai<|jd lp<|jd rD<|jd F1<|jd B0<|jd B1 EO;have EQV:=ai XZ;have nm:∀b,w.heap.size<=b->b<w.heap.size+2->¬(b=c.cb\/b∈g1.ds\/b=sb):=λb q1 q2=>by
    rintro(q|q|q)
    .omega
    .obtain⟨q,_⟩|⟨q,_⟩:=rD.new b q
     .have:=HJ.lt q;omega
     .omega
    .omega
   clear CY lp EO rD F1 B0 B1 x1 x2 x3 x4 x5 x6 x7 XZ VL sz;go_wp2_with fail;refine HC.mono ?_;rintro e w1⟨m,g2,s2,dI,ZI,M2,rfl,je2,Uz,RH,MH,hm,hVm,IZ,EL,Cb,zM,F2⟩;have⟨lp,rD,F1,B0,B1,EO⟩:=uh HY;have B2:=B1.fr F2<|nm _ ae ae;have B02:=B0.fr F2<|nm _ ae ae;have Bp:j<C.size:=qBh;have cj:=(B2.c j).trans<|Array.getElem?_eq_getElem Bp;have fj:=B2.f j;have B3:=B2.aP j (nA m) (C.setIfInBounds j<|nA m) rfl Bp;have B03:=B02.bJ (b2:=w.heap.size+1) ae j<|nA m;have Zk:=rD.trans HJ lp Uz MH ae;have HD:=jd je2<|jd Uz<|jd RH<|jd MH<|jd hm<|jd hVm<|jd IZ<|jd EL<|jd Cb zM
   have xX:=ai (F1.trans' F2 (λb q=>by
    obtain q|q|q:=q
    .exact jc (jc q)
    .obtain⟨q,_⟩|⟨q,_⟩:=rD.new b q
     .exact jc (ja<|jc q)
     .exact ja ae
    .exact jc (ja<|ja q)))
   have z2:=F2.size;clear HC F2 F1 B0 B1 B2 B02 lp rD EO je2 Uz RH MH hm hVm IZ EL Cb zM nm b0 b1 b2 ra
   go_wp2
   go_roundg(L.length-(j+1))
   case measure=>rw[uh bE];omega
   case rel=>
    have⟨x1,x2,x3,x4,x5,x6,x7⟩:=uh hT;obtain⟨je2,Uz,RH,MH,hm,hVm,IZ,EL,Cb,zM⟩:=HD;have⟨lp,rD,F1,B0,B1,EO⟩:=uh HY;have UA:=Zk;have js:=uh HJ;have XZ:=uh EQV;have oc:=One.cell w1 (w.heap.size+1) j<|nA m;have⟨u1,u2,u3,u4,u5⟩:=uh HZ;have BH:=(rD.st.gB _ Mw).1;refine⟨j+1,C.setIfInBounds j<|nA m,g2,s2,dI,ZI,M2,ps++[m],ai rfl,ae,d_,je2.one oc ae ae ae ae ae,?_,RH.one oc ae,UA,xX.set (ja ae) j _,B03,B3,ai (by simp;exact hC),ai ⟨by simp[x1],?_,?_,?_,?_,?_,by rw[XZ _ hpm]at zM;omega⟩⟩
    .refine Uz.one oc (λq=>?_) (λy hy c' l' gg e1 e2 e3 e4=>?_)
     .obtain⟨q,_⟩|⟨q,_⟩:=UA.new _ q
      .have:=js.lt q;omega
      .omega
     .obtain⟨q1,q2,q3⟩|⟨q1,q2⟩:=UA.new y hy
      .have:=js.ahu q1 (q3▸e1) e2<|q2▸e3;omega
      .have:=q2 gg e3;omega
    .intro y hy;obtain q|q:=List.mem_append.1 hy
     .have⟨r1,r2⟩:=x2 y q;refine⟨(MH.st.gB y r1).1,λx k=>?_⟩;have k:=(MH.hd y r1 x).1 k;rw[(MH.gB x<|lp.gl.bD r1 k).1];exact r2 x k
     .simp at q;subst q;exact⟨hm,IZ⟩
    .rw[jq,jh aI,jq];have e1:ps.map g2.V=ps.map g1.V:=dQ λp hp=>(MH.gB p (x2 p hp).1).2;have e2:(L.take j).map (λp=>sub (In.via lH)<|g.V p)=(L.take j).map (λp=>sub (In.via ZI)<|g.V p):=List.map_congr_left λp hp=>by
      have Nl:p∈L:=List.mem_of_mem_take hp;have hpg:=HLM p Nl
      have:=ad2 lp Uz MH (λv n=>RH.any) (rD.st.gB p hpg).1 (λv ov av=>by
       rw[XZ p Nl]at ov
       exact x5 v ⟨p,hp,ov⟩<|dP.back js lp rD hpg ov av)
      rw[XZ p Nl]at this;exact this
     rw[e1,x3,e2];simp[hVm,XZ _ hpm]
    .intro i hi;by_cases e:i<j
     .rw[Array.getElem?_setIfInBounds_ne ae,x4 i ae,List.getElem_append_left ae]
     .have e:i=j:=qAk;subst e;rw[List.getElem_append_right ae];simp[Bp,x1]
    .rintro v⟨p,hp,o⟩av;rw[jh aI]at hp;obtain q|q:=List.mem_append.1 hp
     .have:=x5 v ⟨p,q,o⟩ av
      cases e:lH v with
      |none=>exact absurd e this|some n=>rw[MH.ext v n e];simp
     .simp at q;subst q;exact EL v (by rw[XZ _ hpm];exact o)<|dP.fwd js rD av
    .intro v q q';rw[jh aI]
     cases e:lH v with
     |none=>
      have:=Cb v e q';rw[XZ _ hpm]at this;exact⟨L[j],List.mem_append_right _<|List.mem_singleton.2 rfl,this⟩
     |some n=>
      have⟨p,hp,o⟩:=x6 v q (by rw[e];simp);exact⟨p,List.mem_append_left _ hp,o⟩
  .have hd:decide ((j:Int)<(L.length:Int))=false:=bi;have ej:j=L.length:=ae;subst ej;have b0:=B0.c 0;have⟨_,_,a3,_,_⟩:=(lp.gl.nd x VL.1).cells;rw[VL.2.2]at a3;have a3':wr.cell? ⟨x,3,none⟩=some (Sv<|pn k):=a3;have HY:=ai<|jd CY<|jd lp<|jd EO<|jd rD<|jd F1<|jd B1 hT;clear CY lp EO rD F1 B0 B1 hT XZ VL sz a3
   go_wp2
   go_region_held3(λw'=>w'.cell? ⟨w.heap.size,0,none⟩=some (Nv l)/\w'.cell? ⟨x,3,none⟩=some (Sv<|pn k)) (first|go_keep|(simp[*])) (first
    |(go_at_call 352;go_loud(refine(EI _ _ _ _ _).mono ?_);rintro e w3⟨rfl,rC⟩;have k3:Bq wr w3:=(by rw[rC];exact(qe _ _).drew.alloc (br _) _);have N3:w3.heap[wr.heap.size]? =some (Cv #[.pointer none,Nv l,Iv 0,Sv<|pn k,Lv (some ⟨w.heap.size+1,0,none⟩) L.length L.length] 486 (0,0)):=(by rw[rC];exact(MapKept.heap_alloc wr.drew _).1);have s2:w3.cell? ⟨w.heap.size,0,none⟩=some (Nv l):=(j3 (a:=⟨w.heap.size,0,none⟩) (w:=wr)<|k3.block w.heap.size ae).trans b0;have s3:w3.cell? ⟨x,3,none⟩=some (Sv<|pn k):=(j3 (a:=⟨x,3,none⟩) (w:=wr)<|k3.block x ae).trans a3';have K3:=ai k3;have N3':=ai N3;clear rC k3 N3))
   go_wp2
   go_ret;have⟨CY,lp,EO,rD,F1,B1,x1,x2,x3,x4,x5,x6,x7⟩:=uh HY;simp only[jm]at x3 x5 x6 x7;have cU:=uh K3;have zE:=B1.below cU;have js:=uh HJ;have hV:=uh HV;have hz:¬wr.heap.size∈g1.ds:=λq=>by have:=lp.lt q;omega
   have hrd:¬(w.heap.size+1)∈g1.ds:=λq=>by
    obtain⟨q,_⟩|⟨q,_⟩:=rD.new _ q
    .have:=js.lt q;omega
    .omega
   have js3:=lp.YX cU (n:=wr.heap.size) (l:=l) (c:=k) (ps:=ps) (a:=(some ⟨w.heap.size+1,0,none⟩,L.length)) (br _) CB ae x2 (ja ⟨w.heap.size+1,rfl,(λq=>by
    obtain q|q:=List.mem_cons.1 q
    .omega
    .exact hrd q),zE.z,λi hi=>(zE.c i).trans<|x4 i hi⟩) (by rw[x1];exact N3')
   have UA:OR l w.heap.size g1 s1 aw lH (g1.add wr.heap.size (some (k,ps)) 0 (some ⟨w.heap.size+1,0,none⟩,L.length) l<|.aM k<|ps.map g1.V) s1 aw lH:=OR.add lp ae hz (λgg e=>by injection e with e;injection e with e;omega);refine⟨wr.heap.size,_,s1,aw,lH,M1,rfl,CY.af cU,js3,(EO.af cU).add hz _ _ _ _,(rD.EK ae).trans js lp js3 UA<|br _,ah,?_,λz q=>?_,λv o av=>?_,λv q q'=>?_,by rw[HSZ];omega,F1.trans<|qg cU⟩
   .rw[hV];simp only[j9,if_true,sub,iq,x3,List.map_map];rfl
   .have:z=wr.heap.size:=q.one<|.here (lp.gl.out _ hz).1;subst this;simp[j9]
   .rw[hV]at o;simp only[aG]at o;have⟨t,h1,h2⟩:=(lL _ _).1 o;obtain⟨p,h3,rfl⟩:=List.mem_map.1 h1;exact x5 v ⟨p,h3,h2⟩ av
   .have⟨p,h1,h2⟩:=x6 v q q';rw[hV];simp only[aG];exact(lL _ _).2 ⟨_,jl h1,h2⟩
def ahz(hf:VH c sb)(Iz:l<aL)(IH:ad3 c nb l sb K):akr c nb l sb (K+1):=by
 intro w g s cnt ρ M x h j hu cp hx hn hl hg fa hz hc
 cases hs:g.str x with
 |none=>exact VJ hf Iz h j hu cp hx hn hl hg hs (by have:=size_pos<|g.V x;omega)|some q=>
  obtain⟨k,L⟩:=q;exact VK hf IH h j hu cp hx hn fa hs hz hc
def af3(hf:VH c sb)(Iz:l<aL):∀K,ad3 c nb l sb K
 |0=>λw g s cnt ρ M n h j hu cp hn fa hk hc=>by have:=size_pos<|g.V n;omega|K+1=>ahy hf Iz<|ahz hf Iz<|af3 hf Iz K
end
structure AJ w c nb l cnt g s:Prop where
 je:JE w c nb l cnt
 js:JS w g s
 us:∀n,s.u n->us cnt n
 lv:∀n,n∈g.ds->g.nx n=none->g.lv n<=l\/g.lv n=aL
 lo:∀n,n∈g.ds->c.lo<=n
structure ib l c(w:World)g s w1 g1 s1:Prop where
 st:iG l g s g1 s1
 an:∀m,m∈g.ds->∀h,Hd g.nx m h->g.lv h=aL->Hd g1.nx m h/\g1.lv h=aL
 lo:∀m,m∈g.ds->∀h h',Hd g.nx m h->Hd g1.nx m h'->∀i,i<=l->g.lv h<=i->g1.lv h'<=i
 nw:∀m,m∈g1.ds->m∈g.ds\/w.heap.size<=m
 fr:Fr (jS c g) w w1
 ky:∀v,s1.k v=sub s1.k (s.k v)
 um:∀n,s.u n->s1.u n
structure rE l(g:fU)(s:In.St)n T:Prop where
 mem:n∈g.ds
 val:g.V n=sub s.k T
 lv:∀x,Hd g.nx n x->g.lv x<=l
structure C5(g:fU)(s:In.St)(d:In.Ri)m:Prop where
 mem:m∈g.ds
 val:g.V m=sub s.k d.of
 any:∀v,v∈d.any↔aG v (g.V m)/\dP g v
 use:∀n,aG n d.of->s.u n
 sub:∀v,v∈d.any->aG v d.of
def cq w nb(Γ:In.Env)g s:=∃L,MG j6 w nb L/\∀x,(Γ x=none/\bd x L=none)\/∃d m,Γ x=some d/\bd x L=some (nA m)/\C5 g s d m
section
variable {g2:fU} {s2:In.St} {cnt:Nat}
def EP(h:∀v,s1.k v=sub s1.k (s.k v))T:sub s1.k (sub s.k T)=sub s1.k T:=by
 rw[sub_sub];exact sub_congr _ λv _=>(h v).symm
def AJ.hd(a:AJ w c nb l cnt g s){h}(hm:m∈g.ds)(k:Hd g.nx m h):g.lv h<=l\/g.lv h=aL:=a.lv h (a.js.gl.bD hm k) k.head
def ib.refl(h:JS w g s)c l:ib l c w g s w g s:=⟨.refl h l,λm _ h k e=>⟨k,e⟩,λm _ h h' k k' i _ z=>by rw[k'.one k];exact z,λm hm=>jc hm,.refl _ _,λv=>(h.ok.yR<|.var v).symm,λ_ q=>q⟩
def ib.trans{Wa Wb Wc:World}(h:JS Wa g s)(h1:JS Wb g1 s1)(h2:JS Wc g2 s2)(a:ib l c w g s w1 g1 s1)(b:ib l c w1 g1 s1 w2 g2 s2):ib l c w g s w2 g2 s2 where
 st:=a.st.trans h h1 h2 b.st
 an m hm x k e:=by have⟨k1,e1⟩:=a.an m hm x k e;exact b.an m (a.st.gB m hm).1 x k1 e1
 lo m hm x x' k k' i hi z:=by
  have⟨y,hy⟩:=h1.gl.hd m (a.st.gB m hm).1;exact b.lo m (a.st.gB m hm).1 y x' hy k' i hi<|a.lo m hm x y k hy i hi z
 nw m hm:=by
  obtain q|q:=b.nw m hm
  .exact a.nw m q
  .exact ja (jt a.fr.size q)
 fr:=a.fr.trans' b.fr λx q=>by
  obtain q|q|q:=q
  .omega
  .omega
  .exact(a.nw x q).imp (λz=>ja<|ja z) id
 ky v:=by rw[b.ky v,a.ky v,EP b.ky]
 um n q:=b.um n<|a.um n q
def ib.le(a:ib l c w g s w1 g1 s1)(hl:l'<=l):ib l' c w g s w1 g1 s1:={a with st:=⟨a.st.gB,a.st.val,λi hi=>a.st.U8 i ae⟩,lo:=λm hm x x' k k' i hi=>a.lo m hm x x' k k' i<|by omega}
def rE.kY(r:rE l g s n T)(h:JS W g s)(a:ib l c w g s w1 g1 s1):rE l g1 s1 n T:=by
 have⟨x,hx⟩:=h.gl.hd n r.mem;exact⟨(a.st.gB n r.mem).1,by rw[a.st.val n r.mem,r.val,EP a.ky],λy hy=>a.lo n r.mem x y hx hy l (br _)<|r.lv x hx⟩
def ib.ad4(a:ib l c w g s w1 g1 s1){v:Nat}(q:dP g v):dP g1 v:=by
 obtain⟨x,⟨r1,r2,r3,r4⟩,e⟩:=q;have⟨k,e1⟩:=a.an x r1 x (.here r2) e;have⟨o1,o2,o3⟩:=a.st.gB x r1;exact⟨x,⟨o1,k.head,o2.trans r3,o3.trans r4⟩,e1⟩
def ib.root{W}(a:ib l c w g s w1 g1 s1)(h1:JS W g1 s1){v}(q:dP g v):s1.k v=.var v:=by
 have⟨x,r,_⟩:=a.ad4 q;exact(h1.root r).2
def ib.back(hl:l<aL)(aj:AJ V c nb l cnt g s)(h1:JS W g1 s1)(a:ib l c w g s w1 g1 s1){v:Nat}(hm:m∈g.ds)(o:aG v (g1.V m))(q:dP g1 v):aG v (g.V m)/\dP g v:=by
 rw[a.st.val m hm]at o;have⟨u,ou,ov⟩:=(In.bI _).1 o;have⟨y,hy⟩:=aj.js.gl.hd m hm;have⟨x,r,_⟩:=e_ (lv:=g.lv) aj.js.jg aj.js.can _ m y hm hy (br _) ou;obtain z|z:=aj.lv x r.1 r.2.1
 .exfalso;have⟨o1,o2,o3⟩:=a.st.gB x r.1;have⟨x',Em⟩:=h1.gl.hd x o1;have ez:=a.lo x r.1 x x' (.here r.2.1) Em l (br _) z;have ov':aG v (g1.V x):=by rw[h1.val x o1<|o2.trans r.2.2.1,o3,r.2.2.2];exact ov
  have⟨x2,r2,e2⟩:=e_ (lv:=g1.lv) h1.jg h1.can _ x x' o1 Em (br _) ov';obtain⟨x3,r3,e3⟩:=q;have e2:=e2 h1.lc;rw[r2.one h1.jg r3,e3]at e2;omega
 .have qa:dP g u:=⟨x,r,z⟩;rw[a.root h1 qa]at ov;simp only[aG]at ov;subst ov;exact⟨ou,qa⟩
def C5.kY(n:C5 g s d m)(hl:l<aL)(aj:AJ V c nb l cnt g s)(h1:JS W g1 s1)(a:ib l c w g s w1 g1 s1):C5 g1 s1 d m where
 mem:=(a.st.gB m n.mem).1
 val:=by rw[a.st.val m n.mem,n.val,EP a.ky]
 any v:=by
  rw[n.any v];refine⟨λq=>⟨?_,a.ad4 q.2⟩,λq=>a.back hl aj h1 n.mem q.1 q.2⟩;rw[a.st.val m n.mem];exact(In.bI _).2 ⟨v,q.1,by rw[a.root h1 q.2];rfl⟩
 use k q:=a.um k<|n.use k q
 sub:=n.sub
def Q_{p:Prop}(h:p:=by
 rintro(z|z|z)
 .have:=aj.je.ct.c 0;rw[<-z,h.bF 0]at this;simp at this
 .have:=aj.je.bx.c 0;rw[<-z,h.bF 0]at this;simp at this
 .exact(aj.js.mI h.ms).1 z):p:=h
def cq.kY{Γ}(e:cq w nb Γ g s)(hl:l<aL)(aj:AJ w c Vp l cnt g s)(h1:JS w1 g1 s1)(a:ib l c w g s w1 g1 s1):cq w1 nb Γ g1 s1:=by
 obtain⟨L,h,q⟩:=e;refine⟨L,h.fr a.fr ?_,λx=>(q x).imp id λ⟨d,m,q1,q2,q3⟩=>⟨d,m,q1,q2,q3.kY hl aj h1 a⟩⟩;exact Q_
def OR.stj(o:OR l B g s cnt ρ g1 s1 aw lH)(h:JS w g s)(hB:w.heap.size<=B)(hf:Fr (jS c g) w w1):ib l c w g s w1 g1 s1 where
 st:=o.st
 an m hm x k e:=⟨(o.hd m hm x).2 k,by rw[(o.gB x<|h.gl.bD hm k).1];exact e⟩
 lo m hm x x' k k' i _ z:=by
  rw[((o.hd m hm x').1 k').one k,(o.gB x<|h.gl.bD hm k).1];exact z
 nw m hm:=(o.new m hm).imp (λq=>q.1) λq=>by have:=q.1;omega
 fr:=hf
 ky v:=by rw[o.kk];exact(h.ok.yR<|.var v).symm
 um n q:=(o.ZH n).2<|jc q
def OR.aj(o:OR l B g s cnt ρ g1 s1 aw lH)(a:AJ w c nb l cnt g s)(hB:w.heap.size<=B)(je:JE w1 c nb l aw)(js:JS w1 g1 s1):AJ w1 c nb l aw g1 s1 where
 je:=je
 js:=js
 us:=o.used a.us
 lv n hm e:=by
  by_cases q:n∈g.ds
  .have k:=(o.hd n q n).1<|.here e;rw[(o.gB n q).1];exact a.lv n q k.head
  .exact jc (o.nl n hm q)
 lo n hm:=by
  obtain q|q:=o.new n hm
  .exact a.lo n q.1
  .have h1:=q.1;have h2:=a.je.z;have:=a.je.bx.z;omega
end
section
variable {cnt:Nat}
def One.fr(o:One b w w')(h:S b):Fr S w w':=⟨o.os,o.tape,o.output,ju o.size.symm,λk _ hn=>o.block k λe=>hn<|e▸h⟩
def JS.eb(j:JS w g s)(h:JE w c nb l cnt)(o:One c.eb w w'):JS w' g s:=by
 refine j.one o (h.CW j) λm hm k l' gg hs hl hg e=>?_;have⟨ga,q1,q2,_⟩:=j.gl.row hm hs<|List.length_pos_iff.2 hl;rw[hg]at q1;injection q1 with q1;injection q1 with q1;subst q1;have:=h.bx.c 0;rw[<-e,q2]at this;simp at this
def AJ.eng(a:AJ w c nb l cnt g s)(o:One c.eb w w')(hb:Bx w' c.eb (VC c Vp l'))(hl:l<=l'):AJ w' c Vp l' cnt g s:=
 ⟨a.je.fr a.js (o.fr<|ja<|jc rfl) hb<|a.je.ct.one o<|qi a.je.ne.1,a.js.eb a.je o,a.us,λn hn e=>(a.lv n hn e).imp (λq=>ae) id,a.lo⟩
def ic w b j v:One b w (w.setCell ⟨b,j,none⟩ v):=⟨rfl,rfl,rfl,yG,λi hi=>qf _ _ _ _ hi⟩
def AJ.given(a:AJ w c nb l cnt g s)Vp:AJ (w.setCell ⟨c.eb,3,none⟩<|Mv Vp) c Vp l cnt g s:=a.eng (ic _ _ _ _) (a.je.bx.aP 3 _ _ rfl ah) (br _)
def AJ.af(a:AJ w c nb l cnt g s)(k:Bq w w'):AJ w' c nb l cnt g s:=⟨a.je.af k,a.js.af k,a.us,a.lv,a.lo⟩
def cq.af(e:cq w nb Γ g s)(k:Bq w w'):cq w' nb Γ g s:=by obtain⟨L,h,q⟩:=e;exact⟨L,h.af k,q⟩
def cq.one(e:cq w nb Γ g s)(o:One b w w')(h:nb≠b):cq w' nb Γ g s:=by obtain⟨L,m,q⟩:=e;exact⟨L,m.one o h,q⟩
def cq.af4(e:cq w nb Γ g s)(a:JE w c Vp l cnt):nb≠c.eb:=λz=>by
 obtain⟨L,h,_⟩:=e;have:=a.bx.c 0;rw[<-z,h.bF 0]at this;simp at this
def cq.lt(e:cq w nb Γ g s):nb<w.heap.size:=by obtain⟨L,h,_⟩:=e;exact h.lt
def cq.new(w:World)g s:cq (w.alloc<|.map #[] 0) w.heap.size (λ_=>none) g s:=⟨[],MG.new _ w,λx=>jc ⟨rfl,rfl⟩⟩
def aks b1 b2 L1 L w gk wr:=
 ∃done L',IG j6 wr w.heap.size b2 L done gk/\MG j6 wr b1 L'/\(∀x,x∈done->bd x L'=bd x L/\bd x L≠none)/\(∀x,¬x∈done->bd x L'=bd x L1)/\Fr (λi=>i=b1) w wr
def ad5{b1 b2}{L1 L}(h1:MG j6 w b1 L1)(h2:MG j6 w b2 L)(hn:b1≠b2):
 Cq 364 #[Mv b1,Mv b2] w λe w'=>e=.returned (.tuple #[])/\(∃L',MG j6 w' b1 L'/\∀x,bd x L'=match bd x L with|some v=>some v|none=>bd x L1)/\Fr (λi=>i=b1) w w':=by
 have l1:=h1.lt;have⟨o,cnt,hrg,ni⟩:=h2.range dV;have k1:Bq w (w.alloc o):=bw _;have ST:aks b1 b2 L1 L w cnt (w.alloc o):=⟨[],L1,ni,h1.af k1,λx q=>by simp at q,λx _=>rfl,Fr.of k1⟩;go_enter func364,ntmps364
 go_wp2
 go_loopg[] cnt (λgk wr=>aks b1 b2 L1 L w gk wr)
 case atStart=>exact ST
 case round=>
  obtain⟨done,L',ni,hM,H3,H4,HF⟩:=hrel;have hiz:=ni.lt;have zr:=HF.size;rcases ni.next (P:=Tryz.prog) str_inj with⟨HA,MW⟩|⟨x,u,w2,aC,hxd,HX,MW,I2,Ie,BE,kX,hen⟩
  .have HM:=ai hM
   go_wp2
   go_end0;refine⟨rfl,⟨L',HM,λx=>?_⟩,HF⟩
   cases e:bd x L with
   |some v=>rw[(H3 x<|HA x v e).1,e]|none=>
    exact H4 x λq=>(H3 x q).2 e
  .have F2:=BE;have M2:=hM.fr F2 ae;go_wp2_with(refine cK KLS dV rfl _ _ _ (ja rfl) rfl M2 x u rfl rfl ?_;intro w4 H' O';have S4:=ai H';have O4:=ai O';clear H' O');go_roundg aC
   case measure=>exact Ie
   case rel=>
    have o:=uh O4;refine⟨x::done,_,I2.same (o.block b2<|qi hn)<|o.block _ ae,S4,λy hy=>?_,λy hy=>?_,(HF.iH F2<|λi e=>ja ae).trans<|o.fr rfl⟩
    .rw[aN];by_cases q:x=y
     .subst q;rw[if_pos rfl,HX];simp
     .rw[if_neg q];exact H3 y<|(List.mem_cons.1 hy).resolve_left<|qi q
    .rw[aN,if_neg λe=>hy qBq];exact H4 y λq=>hy qBf
end
def xJ{α:Type}c(p:In.MM α)g(s:In.St)w e w':=∃z vl vr,e=pnJ z.f vl vr/\p s (.error z)/\vM w' (λ_=>True) z vl vr/\Fr (jS c g) w w'
def fY c nb l D(p:In.MM Ty)g(s:In.St)cnt w e w':=
 (∃n g' s' aC T,e=.returned (nA n)/\p s (.ok (T,s'))/\AJ w' c nb l aC g' s'/\ib l c w g s w' g' s'/\aC<=cnt+D/\rE l g' s' n T)\/xJ c p g s w e w'
structure ER nd c w nb l cnt g(s:In.St)(Γ:In.Env)dom v:Prop where
 aj:AJ w c nb l cnt g s
 en:cq w nb Γ g s
 pe:PE w (λb=>b<c.lo) nd v
 sc:tQ c.mks c.nl dom nd
 hd:∀x,dom x->Γ x≠none
 fa:cnt+1000*nn nd<=850000
 fb:l+nn nd<=805
 mf:MkFine c.mks
def EU nd:=∀(c:JC)(w:World)(nb l cnt:Nat)(g:fU)(s:In.St)(Γ:In.Env)(dom:BA->Prop)(v:Value),ER nd c w nb l cnt g s Γ dom v->
 Cq 347 #[nA c.eb,v] w (fY c nb l (1000*nn nd) (In.inf c.mks nd Γ) g s cnt w)
structure yi c nb l w0 g0(s0:In.St)w g(s:In.St)cnt:Prop where
 a:AJ w c nb l cnt g s
 t:ib l c w0 g0 s0 w g s
 z:∃k,AJ w0 c nb l k g0 s0
def vM.wide{x}{vl vr}(h:vM w P x vl vr)(q:∀b,P b->Q b):vM w Q x vl vr:=⟨h.tK,λk=>⟨(h.apart k).1.move (br _) (λ_ _ _=>rfl)<|λb p _=>q b p,(h.apart k).2.move (br _) (λ_ _ _=>rfl)<|λb p _=>q b p⟩,h.k⟩
section
variable {cnt:Nat}
def yi.refl(a:AJ w c nb l cnt g s):yi c nb l w g s w g s cnt:=⟨a,.refl a.js c l,_,a⟩
def yi.next(n:yi c nb l w0 g0 s0 w g s cnt)(a:AJ w1 c nb l aw g1 s1)(t:ib l c w g s w1 g1 s1):yi c nb l w0 g0 s0 w1 g1 s1 aw:=by
 have⟨k,z⟩:=n.z;exact⟨a,n.t.trans z.js n.a.js a.js t,n.z⟩
def yi.fr(n:yi c nb l w0 g0 s0 w g s cnt)(f:Fr (jS c g) w w1):Fr (jS c g0) w0 w1:=n.t.fr.trans' f λx q=>by
 obtain q|q|q:=q
 .omega
 .omega
 .exact(n.t.nw x q).imp (λz=>ja<|ja z) id
def yi.af(n:yi c nb l w0 g0 s0 w g s cnt)(k:Bq w w1):yi c nb l w0 g0 s0 w1 g s cnt:=n.next (n.a.af k) {ib.refl n.a.js c l with fr:=qg k}
def yi.bad{p:In.MM α}{q:In.MM β}(n:yi c nb l w0 g0 s0 w g s cnt)(b:xJ c p g s w e w')(hp:∀z,p s (.error z)->q s0 (.error z)):xJ c q g0 s0 w0 e w':=by
 obtain⟨z,vl,vr,h1,h2,h3,h4⟩:=b;exact⟨z,vl,vr,h1,hp z h2,h3,n.fr h4⟩
def yi.bx(n:yi c nb l w0 g0 s0 w g s cnt)(h:Bx w0 b C)(hb:¬jS c g0 b):Bx w b C:=h.fr n.t.fr hb
def AJ.qJ(a:AJ w c nb l cnt g s)(hb:w.heap.size<=b):¬jS c g b:=by
 have h1:=a.je.ct.z;have h2:=a.je.bx.z;rintro(q|q|q)
 .omega
 .omega
 .have:=a.js.lt q;omega
def AJ.jlo(a:AJ w c nb l cnt g s)(hb:b<c.lo):¬jS c g b:=by
 have h1:=a.je.z;rintro(q|q|q)
 .omega
 .omega
 .have:=a.lo b q;omega
def yi.pe(n:yi c nb l w0 g0 s0 w g s cnt)(h:PE w0 (λb=>b<c.lo) x u):PE w (λb=>b<c.lo) x u:=by
 have⟨k,z⟩:=n.z;exact h.move n.t.fr.size (λb p q=>n.t.fr.block b q<|z.jlo p)<|λ_ p _=>p
def ER.part(h:ER nd c w0 nb l cnt0 g0 s0 Γ dom v)(n:yi c nb l w0 g0 s0 w g s cnt)(hp:PE w0 (λb=>b<c.lo) x u)(hs:tQ c.mks c.nl dom x)(hz:cnt+1000*nn x<=cnt0+1000*nn nd)(hx:nn x<=nn nd):ER x c w nb l cnt g s Γ dom u:=
 have:=h.fa;have:=h.fb
 ⟨n.a,h.en.kY qAx h.aj n.a.js n.t,n.pe hp,hs,h.hd,ae,ae,h.mf⟩
def ER.up(h:ER nd c w nb l cnt g s Γ dom v)(k:Bq w w1):ER nd c w1 nb l cnt g s Γ dom v:=⟨h.aj.af k,h.en.af k,h.pe.af k,h.sc,h.hd,h.fa,h.fb,h.mf⟩
def fY.up(h:fY c nb l D p g s cnt w1 e w')(k:Bq w w1):fY c nb l D p g s cnt w e w':=by
 obtain⟨n,g',s',aC,T,h1,h2,h3,h4,h5,h6⟩|⟨z,vl,vr,h1,h2,h3,h4⟩:=h
 .exact jc ⟨n,g',s',aC,T,h1,h2,h3,{h4 with nw:=λm hm=>(h4.nw m hm).imp id<|jt k.size,fr:=(qg k).trans h4.fr},h5,h6⟩
 .exact ja ⟨z,vl,vr,h1,h2,h3,(qg k).trans h4⟩
def fY.ok(n:yi c nb l w0 g0 s0 w g s cnt)(hp:p s0 (.ok (T,s)))(r:rE l g s m T)(hc:cnt<=cnt0+D):fY c nb l D p g0 s0 cnt0 w0 (.returned<|nA m) w:=jc ⟨m,g,s,cnt,T,rfl,hp,n.a,n.t,hc,r⟩
def amI c nb l(p:In.MM Unit)g(s:In.St)cnt w e w':=
 (e=.returned (.tuple #[])/\∃g' s',p s (.ok ((),s'))/\AJ w' c nb l cnt g' s'/\ib l c w g s w' g' s')\/xJ c p g s w e w'
def ZN(aj:AJ w c nb l cnt g s)(hl:l<aL){x y:Ty}(ra:rE l g s a x)(rb:rE l g s b y)f t:
 Cq 350 #[nA a,nA b,.agg #[Nv f,Nv t]] w (amI c nb l (In.UN x y f t) g s cnt w):=by
 refine(YV aj.js ra.mem rb.mem ra.val rb.val f t).mono ?_;rintro e w'⟨F,⟨rfl,a_,cy,V',s',js,st,hp,hu,mo,ln⟩|⟨z,vl,vr,rfl,hp,hF⟩⟩
 .have F':Fr (jS c g) w w':=F.gL λb q=>ja<|ja q;have ln:=ln (λx=>g.lv x<=l) (λx hx hn q k ps hs p hp h hh=>jt (aj.js.lc x hx hn k ps hs p hp h hh) q) ra.lv rb.lv;have any:∀m,m∈g.ds->∀h h',Hd g.nx m h->Hd a_ m h'->g.lv h=aL->h'=h/\cy h=aL:=λm hm h h' k k' e=>by
   have⟨q1,q2⟩:=(ln m hm h h' k k').1 (by rw[e];unfold aL at*;omega);exact⟨q1,q2.trans e⟩
  refine jc ⟨rfl,_,s',hp,⟨aj.je.fr aj.js F' (aj.je.bx.fr F<|aj.je.CW aj.js)<|aj.je.ct.fr F<|aj.je.CX aj.js,js,by rw[hu];exact aj.us,λn hn e=>?_,aj.lo⟩,⟨st l,λm hm h k e=>?_,λm hm h h' k k' i hi z=>jt (mo m hm h h' k k') z,λm hm=>jc hm,F',λv=>?_,λn q=>by rw[hu];exact q⟩⟩
  .have⟨h,k⟩:=aj.js.gl.hd n hn;have k':Hd a_ n n:=.here e;obtain q|q:=aj.hd hn k
   .grind
   .grind
  .have⟨h',k'⟩:=js.gl.hd m hm;have⟨q1,q2⟩:=any m hm h h' k k' e;exact⟨q1▸k',q2⟩
  .obtain⟨_,q⟩|⟨_,_,⟨θ,_,q⟩|⟨_,q⟩⟩:=hp
   .cases q
   .cases q
    show sub θ (s.k v)=sub (λv=>sub θ<|s.k v) (s.k v);exact sub_congr _ λn o=>by rw[aj.js.ok.idem v n o];rfl
   .cases q
 .exact ja ⟨z,vl,vr,rfl,hp,hF.wide λ_ _=>trivial,F.gL λb q=>ja<|ja q⟩
def akt c nb l g(s:In.St)cnt w(e:Ending)w':=∃n g',e=.returned (nA n)/\In.qK s (.ok (cnt+1,⟨s.k,λm=>s.u m\/m=cnt+1⟩))/\AJ w' c nb l (cnt+1) g' ⟨s.k,λm=>s.u m\/m=cnt+1⟩/\ib l c w g s w' g' ⟨s.k,λm=>s.u m\/m=cnt+1⟩/\rE l g' ⟨s.k,λm=>s.u m\/m=cnt+1⟩ n (.var<|cnt+1)/\g'.str n=none/\g'.vr n=cnt+1/\g'.nx n=none
def NV(aj:AJ w c nb l cnt g s)(hc:cnt<=1000000):Cq 348 #[nA c.eb] w (akt c nb l g s cnt w):=by
 refine(nU aj.je aj.js aj.us hc).mono ?_;rintro e w'⟨n,rfl,hn,je,js,F⟩;have nd:¬n∈g.ds:=λq=>by have:=aj.js.lt q;omega
 have o:OR l w.heap.size g s cnt (λ_=>none) _ _ _ _:=OR.var (v:=0) aj.js hn nd aj.us rfl (λy n' q=>eh);have nx:=(aj.js.gl.out n nd).1;have hu:¬s.u (cnt+1):=λq=>by have:=aj.us _ q;rw[us]at this;omega
 refine⟨n,_,rfl,⟨cnt+1,hu,rfl⟩,o.aj aj (br _) je js,o.stj aj.js (br _)<|F.gL λb q=>jc q,⟨ah,?_,λx k=>?_⟩,QK,QK,nx⟩
 .show j9 g.V n (.var<|cnt+1) n=s.k (cnt+1);simp[j9,aj.js.ok.out _ hu]
 .rw[k.one<|.here nx];simp[j9]
def ahA(aj:AJ w c nb l cnt g s)(hn:w.heap.size<=n){q}{ar}(je:JE w' c nb l cnt)(js:JS w' (g.add n (some q) 0 ar l T) s)(k:Bq w w'):AJ w' c nb l cnt (g.add n (some q) 0 ar l T) s/\ib l c w g s w' (g.add n (some q) 0 ar l T) s/\n∈(g.add n (some q) 0 ar l T).ds/\(g.add n (some q) 0 ar l T).V n=T/\∀x,Hd (g.add n (some q) 0 ar l T).nx n x->(g.add n (some q) 0 ar l T).lv x<=l:=by
 have nd:¬n∈g.ds:=λq=>by have:=aj.js.lt q;omega
 have nx:=(aj.js.gl.out n nd).1;refine⟨⟨je,js,aj.us,λm hm e=>?_,λm hm=>?_⟩,⟨.add aj.js nd rfl (λe=>by cases e),λm hm h hk e=>⟨hk,?_⟩,λm hm h h' hk Zr i _ z=>?_,λm hm=>?_,qg k,λv=>(aj.js.ok.yR<|.var v).symm,λ_ q=>q⟩,ah,QK,λx hx=>?_⟩
 .by_cases z:m=n
  .exact jc (by simp[j9,z])
  .simp only[j9,z,if_false];exact aj.lv m ((List.mem_cons.1 hm).resolve_left z) e
 .obtain z|z:=List.mem_cons.1 hm
  .have:=aj.je.z;have:=aj.je.bx.z;omega
  .exact aj.lo m z
 .have z:h≠n:=λz=>nd<|z▸aj.js.gl.bD hm hk;simpa[j9,z]using e
 .have Zr:=Zr;rw[Zr.one hk];have y:h≠n:=λz=>nd<|z▸aj.js.gl.bD hm hk;simpa[j9,y]using z
 .grind
 .have hx:=hx;rw[hx.one<|.here nx];simp[j9]
def af5 k c nb l g(s:In.St)cnt x y w(e:Ending)w':=∃n g',e=.returned (nA n)/\AJ w' c nb l cnt g' s/\ib l c w g s w' g' s/\rE l g' s n (.aM k [x,y])
def Rg{p:Prop}(h:p:=by
 rintro e w'⟨n,ar,rfl,hn,je,js,k⟩;obtain⟨h1,h2,h3,h4,h5⟩:=ahA aj hn je js k
 exact⟨n,_,rfl,h1,h2,h3,by rw[h4,ra.val,rb.val];rfl,h5⟩):p:=h
def aku(aj:AJ w c nb l cnt g s){x y:Ty}(ra:rE l g s a x)(rb:rE l g s b y):Cq 357 #[nA c.eb,nA a,nA b] w (af5 pH c nb l g s cnt x y w):=by
 refine(Ja (jc ⟨rfl,rfl⟩) aj.je aj.js ⟨ra.mem,ra.lv⟩ ⟨rb.mem,rb.lv⟩).mono ?_;exact Rg
def akv(aj:AJ w c nb l cnt g s){x y:Ty}(ra:rE l g s a x)(rb:rE l g s b y):Cq 355 #[nA c.eb,nA a,nA b] w (af5 o6 c nb l g s cnt x y w):=by
 refine(Ja (ja ⟨rfl,rfl⟩) aj.je aj.js ⟨ra.mem,ra.lv⟩ ⟨rb.mem,rb.lv⟩).mono ?_;exact Rg
def akw c nb l D T g(s:In.St)cnt w(e:Ending)w':=∃n g' aC,e=.returned (nA n)/\AJ w' c nb l aC g' s/\ib l c w g s w' g' s/\aC<=cnt+D/\rE l g' s n T
def akx(aj:AJ w c nb l cnt g s){v}(hv:eN w Q T v)(hQ:∀b,Q b->b≠c.cb)(hs:size T<=1000)(hT:∀n,¬aG n T)(hc:cnt+size T<=900000):Cq 339 #[nA c.eb,v] w (akw c nb l (size T) T g s cnt w):=by
 refine(ad0 aj.je aj.js aj.us hv hQ hs hT hc).mono ?_;rintro e w'⟨n,g',aC,rfl,je,js,o,hn,hV,hl,oY,F⟩;exact⟨n,g',aC,rfl,o.aj aj (br _) je js,o.stj aj.js (br _)<|F.gL λb q=>jc q,oY,hn,by rw[hV];exact(In.rJ λn o=>absurd o<|hT n).symm,hl⟩
end
section
variable {cnt:Nat}
def GL.pL{ds}{str}{nx}{vr}{ly}{lv}(h:GL w ds str nx vr ly lv)(hs:w.heap.size<=w'.heap.size)(hb:∀b p,w.cell? ⟨b,0,none⟩=some (.pointer p)->w'.heap[b]? =w.heap[b]?):GL w' ds str nx vr ly lv:=by
 refine⟨λn hn=>?_,h.out,h.hd⟩;have⟨p1,p2,p3⟩:=h.nd n hn;have⟨p,hp⟩:=h.pY hn;refine⟨(hb n p hp).trans p1,?_,p3⟩
 cases e:str n with
 |none=>trivial|some q=>
  obtain⟨k,ps⟩:=q;rw[e]at p2;obtain⟨q1,q2,q3,q4⟩:=p2;refine⟨q1,q2,q3,?_⟩;by_cases e0:ps=[]
  .exact jc e0
  .have⟨gg,r1,r2,r3,r4⟩:=q4.resolve_left e0;have hl:=List.length_pos_iff.2 e0;have:=hb gg _<|r4 0 hl;exact ja ⟨gg,r1,r2,ae,λi hi=>by rw[<-r4 i hi];simp only[j5,this]⟩
def AJ.pL{S}(a:AJ w c nb l cnt g s)(f:Fr S w w')(h:∀b,S b->b≠c.rb/\b≠c.mb/\∀o,w.cell? ⟨b,o,none⟩=none):AJ w' c nb l cnt g s:=by
 have nc:∀{b o v},w.cell? ⟨b,o,none⟩=some v->w'.heap[b]? =w.heap[b]? :=λ{b o v}q=>f.block b (iQ q) λz=>by rw[(h b z).2.2 o]at q;cases q
 obtain⟨⟨bx,ct,rs,ms,z⟩,js,q1,q2,q3⟩:=a;have e1:=nc<|bx.c 0;have e2:=nc<|ct.c 0;exact⟨⟨bx.same f.size e1,ct.same f.size e2,rs.same<|f.block _ rs.lt λz=>(h _ z).1 rfl,(ms.VD (S:=S) λb q a y e=>by rw[(h b q).2.2 0]at e;cases e).move f.size (f.block _ ms.lt λz=>(h _ z).2.1 rfl) (λb p y=>f.block b y p.2)<|λ_ p _=>p.1,⟨z.1,z.2.1,jt z.2.2 f.size⟩⟩,⟨js.gl.pL f.size λb p q=>nc q,js.mA,js.inj,js.can,js.lc,js.val,js.use,js.ok⟩,q1,q2,q3⟩
theorem cq.over{nb1}{L L2 L'}(q:∀x,(Γ x=none/\bd x L=none)\/∃d m,Γ x=some d/\bd x L=some (nA m)/\C5 g s d m)(q2:∀x,(yd x=none/\bd x L2=none)\/∃d m,yd x=some d/\bd x L2=some (nA m)/\C5 g s d m)(h:MG j6 w nb1 L')(e:∀x,bd x L'=match bd x L2 with|some v=>some v|none=>bd x L):cq w nb1 (In.over yd Γ) g s:=by
 refine⟨L',h,λx=>?_⟩;rw[e x];rw[In.over];obtain⟨h1,h2⟩|⟨d,m,h1,h2,h3⟩:=q2 x
 .grind
 .grind
def C6(Hx:EU x)(aj:AJ w c nb l cnt g s)(en:cq w nb Γ g s)(em:cq w mb yd g s)(hx:PE w (λb=>b<c.lo) x v)(sc:tQ c.mks c.nl dom x)(hd:∀y,dom y->In.over yd Γ y≠none)(fa:cnt+1000*nn x<=850000)(fb:l+nn x<=805)(mf:MkFine c.mks):
 Cq 349 #[nA c.eb,Mv mb,v] w (fY c nb l (1000*nn x) (In.inf c.mks x<|In.over yd Γ) g s cnt w):=by
 have f3:=aj.je.bx.c 3;have ze:=aj.je.bx.z;have gL:=aj.je.z.2.2;have zr:=aj.je.rs.lt;have zm:=aj.je.ms.lt;have n2:=em.af4 aj.je;have z2:=em.lt;obtain⟨L,m1,q1⟩:=en;obtain⟨L2,M2,q2⟩:=em;have HC:=ZO m1;have HK:∀w1 w3 L',Bq w w1->w1.heap.size=w.heap.size+1->MG Sv w1 w.heap.size L->MG Sv w3 w.heap.size L'->(∀x,bd x L'=match bd x L2 with|some v=>some v|none=>bd x L)->Fr (λi=>i=w.heap.size) (w1.setCell ⟨c.eb,3,none⟩<|Mv w.heap.size) w3->yi c w.heap.size l w3 g s w3 g s cnt/\ib l c w g s w3 g s/\Cq 347 #[nA c.eb,v] w3 (fY c w.heap.size l (1000*nn x) (In.inf c.mks x<|In.over yd Γ) g s cnt w3):=λw1 w3 L' k1 z1 mc m3 e3 f=>by
  have o:=ic w1 c.eb 3<|Mv w.heap.size;have aj3:=((aj.af k1).given w.heap.size).pL f λb e=>by
   have mc':=mc.one o ae;exact⟨ae,ae,λi=>by rw[e];exact mc'.bF i⟩
  have F:Fr (jS c g) w w3:=((qg k1).trans<|o.fr<|ja<|jc rfl).iH f λi e=>ja ae;exact⟨.refl aj3,{ib.refl aj.js c l with fr:=F},Hx c w3 w.heap.size l cnt g s _ dom v ⟨aj3,.over q1 q2 m3 e3,hx.move F.size (λb p q=>F.block b q<|aj.jlo p)<|λ_ p _=>p,sc,hd,fa,fb,mf⟩⟩
 obtain⟨tx,ax,rfl⟩:=hx.iface;go_enter func349,ntmps349;go_wp2_with fail;refine HC.mono ?_;rintro e w1⟨rfl,MC,K1,Z1⟩;have HD:=ad5 (w:=w1.setCell ⟨c.eb,3,none⟩<|Mv w.heap.size) (MC.one (ic _ _ _ _) ae) ((M2.af K1).one (ic _ _ _ _) n2) ae;have c1:=(aj.je.bx.below K1).c;have c2:=(aj.je.bx.below K1).f;go_wp2_with fail;refine HD.mono ?_;rintro e w3⟨rfl,⟨L',m3,e3⟩,F3⟩;have⟨NX,st,HE⟩:=HK w1 w3 L' K1 Z1 MC m3 e3 F3;have ST:=ai st;go_wp2_with fail;refine HE.mono ?_;rintro e w4(⟨n,g4,s4,amJ,T,rfl,HP,a4,t4,hc,R4⟩|⟨z,vl,vr,rfl,HP,hF,BE⟩)
 .have d1:=a4.je.bx.c;have d2:=a4.je.bx.f;have A5:=a4.given nb;have S5:=ST.trans aj.js NX.a.js a4.js t4
  go_wp2
  go_ret;have st:=S5;exact jc ⟨n,g4,s4,amJ,T,rfl,HP,A5,{st with fr:=st.fr.set (jc<|ja<|jc rfl) 3 _},hc,R4⟩
 .have HX:=show xJ c (In.inf c.mks x<|In.over yd Γ) g s w (pnJ z.f vl vr) w4 from⟨z,vl,vr,rfl,HP,hF,ST.fr.trans BE⟩
  go_wp2
  exact⟨rfl,ja HX⟩
end
structure pM{β:Type}c nb l w0 g0(s0:In.St)(p:In.MM β)w g(s:In.St)cnt(q:In.MM β):Prop where
 n:yi c nb l w0 g0 s0 w g s cnt
 p:∀o,q s o->p s0 o
section
variable {cnt:Nat} {p' q':In.MM β} {m:In.MM α} {k:α->In.MM β} {a:α}
def pM.start(a:AJ w c nb l cnt g s)(p':In.MM β):pM c nb l w g s p' w g s cnt p':=⟨.refl a,λ_ h=>h⟩
def pM.and(n:pM c nb l w0 g0 s0 p' w g s cnt (In.andM m k))(hm:m s (.ok (a,s1)))(a1:AJ w1 c nb l aw g1 s1)(t1:ib l c w g s w1 g1 s1):pM c nb l w0 g0 s0 p' w1 g1 s1 aw (k a):=⟨n.n.next a1 t1,λo ho=>n.p o<|ja ⟨a,s1,hm,ho⟩⟩
def pM.bad(n:pM c nb l w0 g0 s0 p' w g s cnt (In.andM m k))(b:xJ c m g s w e w'):xJ c p' g0 s0 w0 e w':=n.n.bad b λz h=>n.p _<|jc ⟨z,h,rfl⟩
def pM.ret{x}(n:pM c nb l w0 g0 s0 p w g s cnt (In.eQ T))(r:rE l g s x T)(hc:cnt<=cnt0+D):fY c nb l D p g0 s0 cnt0 w0 (.returned<|nA x) w:=.ok n.n (n.p _ rfl) r hc
def pM.af(n:pM c nb l w0 g0 s0 p' w g s cnt q')(k:Bq w w1):pM c nb l w0 g0 s0 p' w1 g s cnt q':=⟨n.n.af k,n.p⟩
def pM.step(n:pM c nb l w0 g0 s0 p' w g s cnt q')(a1:AJ w1 c nb l aw g1 s)(t1:ib l c w g s w1 g1 s):pM c nb l w0 g0 s0 p' w1 g1 s aw q':=⟨n.n.next a1 t1,n.p⟩
def pM.last(n:pM c nb l w0 g0 s0 p w g s cnt q)(h:fY c nb l D' q g s cnt w e w')(hc:cnt+D'<=cnt0+D):fY c nb l D p g0 s0 cnt0 w0 e w':=by
 obtain⟨x,g',s',aC,T,h1,h2,h3,h4,h5,h6⟩|h:=h
 .obtain rfl:=h1;exact .ok (n.n.next h3 h4) (n.p _ h2) h6 ae
 .exact ja (n.n.bad h λz h=>n.p _ h)
def af6(d:In.Ri)c nb l g(s:In.St)cnt w(e:Ending)w':=∃n g' s' aC ρ,e=.returned (nA n)/\In.zP d.any In.My s (.ok (ρ,s'))/\AJ w' c nb l aC g' s'/\ib l c w g s w' g' s'/\aC<=cnt+48/\rE l g' s' n (sub (In.via ρ)<|sub s.k d.of)
def ad6(aj:AJ w c nb l cnt g s)(hl:l<aL){m}(nm:C5 g s d m)(hz:size (g.V m)<=48)(hc:cnt+48<=900000):Cq 367 #[nA m,Nv l,vrV c] w (af6 d c nb l g s cnt w):=by
 have g_:= @run_makeMap Tryz.prog;have k0:Bq w (w.alloc<|.map #[] 0):=bw _;have a0:=aj.af k0;have z:=aj.je.z.2.2;have hf:VH c w.heap.size:=⟨z,aj.je.bx.z,aj.je.ct.z,aj.je.rs.lt,aj.je.ms.lt⟩;have cp:ug (λ_=>False) l w.heap.size (w.alloc<|.map #[] 0) g s In.My []:=⟨MS.new _ w,λp q=>by simp at q,λh v q=>by simp[bd]at q,λv n q=>eh⟩;have fa:Fa g l m:=⟨λx=>x∈g.ds/\g.nx x=none,λx hx _ _ k ps hs p hp h hh=>⟨aj.js.gl.bD (aj.js.jg.XO x k ps hx hs p hp) hh,hh.head⟩,λx q=>aj.lv x q.1 q.2,λh hh=>⟨aj.js.gl.bD nm.mem hh,hh.head⟩⟩;have HI:=af3 (nb:=nb) hf hl 48 _ g s cnt In.My [] m a0.je a0.js aj.us cp nm.mem fa hz ae;have HK:Hid (∀e w',NU (λ_=>False) c nb l w.heap.size g s cnt In.My m (w.alloc<|.map #[] 0) e w'->(∃n,e=Rv (nA n))/\af6 d c nb l g s cnt w e w'):=ai λe w' hp=>by
  obtain⟨n,g',s',aC,du,M',rfl,je,js,cp',o,hn,hV,IZ,h1,h2,h3,F⟩:=hp;have F':Fr (jS c g) w w':=(qg k0).iH F λb q=>by
   obtain q|q|q:=q
   .exact jc (jc q)
   .exact jc (ja<|ja q)
   .exact ja ae
  have o':=o.EK k0.size;have ahx:∀v,du v≠none->aG v (g.V m)/\dP g v:=λv q=>by
   have ov:=h2 v rfl q
   cases e:du v with
   |none=>exact absurd e q|some x=>exact⟨ov,dP.back aj.js js o' nm.mem ov<|cp'.any e⟩
  refine⟨⟨n,rfl⟩,n,g',s',aC,du,rfl,⟨du,s'.u,⟨λv n q=> eh,λv hv=>?_,λv hv=>h1 v ((nm.any v).1 hv).1 ((nm.any v).1 hv).2,λv n _ q=>o.nw v n rfl q,λv v' n _ q q'=>o.on v v' n rfl q q',o.ZH⟩,by rw[<-o.kk]⟩,o'.aj aj (br _) je js,o'.stj aj.js (br _) F',ae,hn,?_,IZ⟩
  .cases e:du v with
   |none=>rfl|some x=>exact absurd ((nm.any v).2<|ahx v (by rw[e];simp)) hv
  .rw[<-nm.val,<-hV];exact(In.rJ λv ov=>by have⟨x,r⟩:=js.IK hn ov;exact(js.root r).2).symm
 go_enter func367,ntmps367;go_wp2_with fail;refine HI.mono ?_;intro e w1 hp;obtain⟨⟨n,rfl⟩,Q⟩:=uh HK e w1 hp
 go_wp2
 go_ret;exact Q
def af7(aj:AJ w c nb l cnt g s)(hn:n∈g.ds)f t:Cq 338 #[nA n,.agg #[Nv f,Nv t]] w (λe w'=>(∃a_,AJ w' c nb l cnt {g with nx:=a_} s/\ib l c w g s w' {g with nx:=a_} s)/\((size (g.V n)<=48/\e=.returned (.tuple #[]))\/(48<size (g.V n)/\e=pnJ ⟨7,f,t⟩ .nilIface .nilIface))):=by
 refine(qD aj.js hn f t).mono ?_;rintro e w'⟨⟨a_,E,js⟩,F,h⟩;have o:OR l w.heap.size g s cnt In.My {g with nx:=a_} s cnt In.My:=OR.eqv aj.js E js.gl _;have F':Fr (jS c g) w w':=F.gL λb q=>ja<|ja q;exact⟨⟨a_,o.aj aj (br _) (aj.je.fr aj.js F' (aj.je.bx.fr F<|aj.je.CW aj.js)<|aj.je.ct.fr F<|aj.je.CX aj.js) js,o.stj aj.js (br _) F'⟩,h⟩
def ahB(aj:AJ w c nb l cnt g s)(hl:l<aL)(en:cq w nb Γ g s){x}(hx:Γ x≠none)f t(hc:cnt+48<=900000):Cq 353 #[nA c.eb,.agg #[Nv f,Nv t,.string x]] w (fY c nb l 48 (In.Ca Γ x f t) g s cnt w):=by
 obtain⟨L,hM,hq⟩:=en;have⟨d,m,e1,e2,NM⟩:=(hq x).resolve_left λq=>hx q.1;have⟨k0,b0⟩:=Hu w #[Nv f,Nv t,Sv x] 305;have HL:∀n,(Instr.lookup 156 (Mv nb) (Sv x) false).run Tryz.prog ((w.alloc<|Cv #[Nv f,Nv t,Sv x] 305).drewN n)=.ok (nA m) ((w.alloc<|Cv #[Nv f,Nv t,Sv x] 305).drewN n):=λn=>by
  have:=(hM.af<|k0.drewN n).ms.look KLS dV (zN _) x trivial (λ_ _=>trivial) false;rw[e2]at this;exact this
 have f3:=(aj.af k0).je.bx.c 3;obtain⟨c1,c2,c3⟩:=b0;have K0:=ai k0;go_enter func353,ntmps353
 go_wp2
 go_quiet(fail);have KQ:=K0.drewN nq;have aQ:=aj.af KQ;have HM:=af7 aQ NM.mem f t;have N0:=yi.refl aQ;go_wp2_with fail;refine HM.mono ?_;rintro e w2⟨⟨pR,a2,t2⟩,⟨hz,rfl⟩|⟨hz,rfl⟩⟩
 .have N2:=N0.next a2 t2;have nm2:=NM.kY hl N0.a a2.js t2;have HI:=ad6 a2 hl nm2 hz hc;have HV:=ai nm2.val;have f4:=a2.je.bx.c 4;go_wp2_with fail;refine HI.mono ?_;rintro e w3⟨n,g3,s3,EV,ρ,rfl,hd,a3,t3,hc3,r3⟩;have n3:=N2.next a3 t3;have hp:In.Ca Γ x f t s (.ok (sub (In.via ρ)<|sub s.k d.of,s3)):=by
   rw[In.Ca];rw[e1];exact ja ⟨by rw[<-(uh HV)];exact hz,ρ,s3,hd,rfl⟩
  have HX:=(fY.ok (D:=48) (cnt0:=cnt) n3 hp r3 hc3).up KQ
  go_wp2
  go_ret;exact HX
 .have HX:=show fY c nb l 48 (In.Ca Γ x f t) g s cnt w (pnJ ⟨7,f,t⟩ Zv Zv) w2 from ja ⟨In.tK f t,Zv,Zv,rfl,by rw[In.Ca];rw[e1];exact jc ⟨by rw[<-NM.val];exact hz,rfl⟩,⟨λ_=>⟨rfl,rfl⟩,λq=>by simp[In.tK]at q,ja rfl⟩,(qg KQ).trans t2.fr⟩
  go_wp2
  exact⟨rfl,HX⟩
end
def aky(hu:m0 k)w:eN w (λ_=>False) (.aM k []) (.iface 260<|.agg #[.string k,.slice none 0 0]):=by
 have:=eN.aM (w:=w) (P:=λ_=>False) k [] none 0 (λ_=>Zv) (ja<|ja hu) (jc rfl)<|λi h=>xA
 rwa[fG hu]at this
section
variable {cnt:Nat}
def akz(aj:AJ w c nb l cnt g s)(hu:m0 k)(hc:cnt+1<=900000):Cq 339 #[nA c.eb,.iface 260<|.agg #[.string k,.slice none 0 0]] w (akw c nb l 1 (.aM k []) g s cnt w):=by
 have:=akx aj (aky hu w) (λb q=>q.elim) (by simp[size,ak]) (λn q=>by simp[aG,ck]at q) (by simpa[size,ak]using hc);simpa[size,ak]using this
end
structure TpD tl(g:fU)(cy:Nat->Nat)n l(D:Nat->Prop):Prop where
 up:∀m,D m->m∈g.ds/\g.nx m=none/\l<g.lv m/\g.lv m≠aL/\cy m=tl
 no:∀m,¬D m->cy m=g.lv m
 hd:∀h,Hd g.nx n h->D h\/g.lv h<=l
 cl:∀a,D a->∀c ps,g.str a=some (c,ps)->∀p,p∈ps->∀h,Hd g.nx p h->D h\/g.lv h<=l
section
variable {cnt:Nat} {D:Nat->Prop}
def akY(js:JS w g s)(r:rE l g s n T)(hD:∀R:Nat->Prop,(∀h,Hd g.nx n h->R h)->(∀a k ps p h,R a->g.str a=some (k,ps)->p∈ps->Hd g.nx p h->R h)->∀a,D a->R a):∀a,D a->g.lv a<=l:=λa d=>
 (hD (λx=>x∈g.ds/\g.nx x=none/\g.lv x<=l) (λh k=>⟨js.gl.bD r.mem k,k.head,r.lv h k⟩) (λa k ps p h q hs hp hh=>⟨js.gl.bD (js.jg.XO a k ps q.1 hs p hp) hh,hh.head,jt (js.lc a q.1 q.2.1 k ps hs p hp h hh) q.2.2⟩) a d).2.2
def ue.tp(js:JS w g s)(hl:l+1<aL)(r:rE (l+1) g s n T)(d:ue g.str g.nx g.ds g.lv cy n l D):TpD aL g cy n l D:=
 ⟨d.up,d.no,λh k=>(d.hd h k).imp id λq=>q.resolve_right (by have:=r.lv h k;omega),λa q k ps hs p hp h hh=>(d.cl a q k ps hs p hp h hh).imp id λz=>z.resolve_right (by
  have h1:=akY js r d.re a q;have h2:=js.lc a (d.up a q).1 (d.up a q).2.1 k ps hs p hp h hh
  omega)⟩
def JS.ah8(js:JS w g s)(hS:ScD g.str g.ds g.nx S)(hn:n∈g.ds)(hh:∀h,Hd g.nx n h->S h){v}(o:aG v (g.V n)):∃x,g.R v x/\S x:=by
 classical
 have⟨y,hy⟩:=js.gl.hd n hn;have⟨x,r,q⟩:=e_ (lv:=λx=>if S x then 0 else 1) js.jg js.can _ n y hn hy (br _) o;refine⟨x,r,?_⟩;have:=q λa ha na k ps hs p hp h hh=>by
  by_cases z:S a
  .simp[z,hS a ha na z k ps hs p hp h hh]
  .grind
 rw[if_pos<|hh y hy]at this;exact qj λz=>by rw[if_neg z]at this;omega
def JY(aj:AJ w c nb l cnt g s)(hl:l+1<aL)(nm:∀y d,Γ y=some d->∃m,C5 g s d m)(t1:ib (l+1) c w g s w1 g1 s1)(js:JS w1 g1 s1)(hp:In.boundM rc st x (In.inf c.mks x) Γ s (.ok (T,s1))){v}(hv:aG v (sub s1.k T))(hy:g1.R v y):In.vZ (MK rc st Γ) s1.k v↔g1.lv y<=l:=by
 have Cf:∀z d,MK rc st Γ z=some d->∃m,C5 g s d m:=λz d q=>by
  cases rc with
  |false=>exact nm z d q|true=>
   simp only[MK,if_true,In.aes]at q;split at q
   .cases q
   .exact nm z d q
 have t0:=t1.le<|jv l;have hl':l<aL:=ae;constructor
 .rintro⟨z,d,q1,q2,q3⟩;have⟨m,k⟩:=Cf z d q1;have k1:=k.kY hl' aj js t0;rw[<-k1.val]at q2;have na:¬dP g1 v:=λa=>q3<|(k1.any v).2 ⟨q2,a⟩;rw[t1.st.val m k.mem]at q2;have⟨u,ou,ov⟩:=(In.bI _).1 q2;have⟨r,r1⟩:=aj.js.IK k.mem ou;obtain e|e:=aj.lv r r1.1 r1.2.1
  .have⟨o1,o2,o3⟩:=t1.st.gB r r1.1;have⟨r',UB⟩:=js.gl.hd r o1;have e':=t1.lo r r1.1 r r' (.here r1.2.1) UB l (jv l) e;have ov':aG v (g1.V r):=by rw[js.val r o1<|o2.trans r1.2.2.1,o3,r1.2.2.2];exact ov
   have⟨x2,r2,e2⟩:=e_ (lv:=g1.lv) js.jg js.can _ r r' o1 UB (br _) ov';have e2:=e2 js.lc;rw[r2.one js.jg hy]at e2;omega
  .exfalso;have qa:dP g u:=⟨r,r1,e⟩;rw[t1.root js qa]at ov;simp only[aG]at ov;subst ov;exact na<|t1.ad4 qa
 .intro e;have eb:In.boundM rc st x (In.inf c.mks x) Γ=In.boundM rc st x (In.inf c.mks x) (MK rc st Γ):=by
   cases rc with
   |false=>rfl|true=>
    unfold In.boundM;simp only[if_true];have:∀d,In.dN (MK true st Γ) st d=In.dN Γ st d:=λd=>by
     funext z;unfold In.dN MK In.aes;by_cases q:z=st<;>simp[q]
    simp only[this]
  rw[eb]at hp;have hE:In.dF (λn=>¬s.u n\/In.vZ (MK rc st Γ) s.k n) s (MK rc st Γ):=λz d q=>by
   have⟨m,k⟩:=Cf z d q;refine⟨k.use,λn o=>?_,λn o=>?_,k.sub⟩
   .by_cases a:n∈d.any
    .exact jc a
    .exact ja (ja ⟨z,d,q,o,a⟩)
   .have⟨o1,o2⟩:=(k.any n).1 o;obtain⟨r,r1,r2⟩:=o2;refine⟨(aj.js.root r1).2,λb=>?_⟩;obtain b|⟨z',d',b1,b2,b3⟩:=b
    .exact b (aj.js.root r1).1
    .have⟨m',k'⟩:=Cf z' d' b1;rw[<-k'.val]at b2;exact b3<|(k'.any n).2 ⟨b2,r,r1,r2⟩
  have⟨kp,ti⟩:=In.oj rc st x (In.ol c.mks x) (MK rc st Γ) s _ aj.js.ok (λn q=>jc q) hE T s1 hp;have lv:=ti.loc v hv;have⟨u,⟨r,r1,r2⟩,ov⟩:=(t1.st.U8 l (Nat.lt_succ_self l) v).1 ⟨y,hy,e⟩;have hu:=aj.js.root r1;have fu:In.vZ (MK rc st Γ) s.k u:=by
   refine qj λz=>?_;have nz:¬(¬s.u u\/In.vZ (MK rc st Γ) s.k u):=λq=>q.elim (λq=>q hu.1) z;rw[kp.fix hu.2 nz]at ov;simp only[aG]at ov;subst ov;exact nz lv
  obtain⟨z,d,q1,q2,q3⟩:=fu;have⟨m,k⟩:=Cf z d q1;refine⟨z,d,q1,?_,λa=>?_⟩
  .rw[<-EP t1.ky];exact(In.bI _).2 ⟨u,q2,ov⟩
  .have⟨r',a1,a2⟩:=t1.ad4 ((k.any v).1 a).2;rw[a1.one js.jg hy]at a2;omega
end
def In.aet{k:Nat->Ty}{t:Ty}{v:Bool}(h:n∈(In.v_ Γ k t v).any):aG n (sub k t)/\¬In.vZ Γ k n:=by
 unfold In.v_ at h
 cases v with
 |false=>simp at h|true=>simp[In.SG]at h;exact⟨In.bM.1 h.1,h.2⟩
def uD(g:fU)l x:=∃S:Nat->Prop,ScD g.str g.ds g.nx S/\(∀y,S y->g.lv y<=l\/g.lv y=aL)/\S x
section
variable {cnt tl:Nat} {D:Nat->Prop}
def Wi(aj:AJ w c nb l cnt g s)(hl:l+1<aL)(nm:∀y d,Γ y=some d->∃m,C5 g s d m)(a1:AJ w1 c nb (l+1) aw g1 s1)(t1:ib (l+1) c w g s w1 g1 s1)(r1:rE (l+1) g1 s1 n T)(hp:In.boundM rc st x (In.inf c.mks x) Γ s (.ok (T,s1)))(hg:GL w2 g1.ds g1.str a_ g1.vr g1.ly cy)(e:iF g1.str g1.nx a_)(d:TpD (if In.MQ x then aL else l) g1 cy n l D)(F:Fr (jS c g1) w1 w2)(je:JE w2 c nb l aw):
 ∃g2,AJ w2 c nb l aw g2 s1/\ib l c w g s w2 g2 s1/\C5 g2 s1 (In.v_ (MK rc st Γ) s1.k T<|In.MQ x) n:=by
 obtain⟨gx,X8⟩:∃gx:fU,gx={g1 with nx:=a_,lv:=cy}:=⟨_,rfl⟩;have e0:gx.ds=g1.ds:=by rw[X8]
 have e1:gx.str=g1.str:=by rw[X8]
 have e2:gx.nx=a_:=by rw[X8]
 have e3:gx.lv=cy:=by rw[X8]
 have e4:gx.vr=g1.vr:=by rw[X8]
 have e5:gx.V=g1.V:=by rw[X8]
 have hG:GL w2 gx.ds gx.str gx.nx gx.vr gx.ly gx.lv:=by rw[X8];exact hg
 have js:=a1.js;have tl2:∀m,D m->cy m=aL\/cy m=l:=λm q=>by
  have:=(d.up m q).2.2.2.2;split at this
  .exact jc this
  .exact ja this
 have low:∀m,g1.lv m<=l->cy m=g1.lv m:=λm q=>d.no m λz=>by have:=(d.up m z).2.2.1;omega
 have any:∀m,g1.lv m=aL->cy m=aL:=λm q=>by rw[d.no m λz=>(d.up m z).2.2.2.1 q];exact q
 have bk:∀{m h},Hd gx.nx m h->Hd g1.nx m h:=λk=>e.back js.gl<|e2▸k;have fw:∀{m h},Hd g1.nx m h->Hd gx.nx m h:=λk=>e2▸e.bO _ _ k;have lc1:∀a,a∈g1.ds->g1.nx a=none->cy a<=l->∀k ps,g1.str a=some (k,ps)->∀p,p∈ps->∀h,Hd g1.nx p h->cy h<=cy a:=λa ha hn hz k ps hs p hp h hh=>by
  by_cases q:D a
  .have ea:=(tl2 a q).resolve_left ae;obtain z|z:=d.cl a q k ps hs p hp h hh
   .obtain y|y:=tl2 h z
    .have h1:=(d.up a q).2.2.2.2;have h2:=(d.up h z).2.2.2.2;omega
    .omega
   .rw[low h z];omega
  .rw[d.no a q]at hz⊢;have z:=js.lc a ha hn k ps hs p hp h hh;rw[low h ae];exact z
 have hP:ScD gx.str gx.ds gx.nx (uD gx l):=λx hx hn⟨S,h1,h2,h3⟩k ps hs p hp h hh=>⟨S,h1,h2,h1 x hx hn h3 k ps hs p hp h hh⟩;have lcx:∀a,a∈gx.ds->gx.nx a=none->uD gx l a->∀k ps,gx.str a=some (k,ps)->∀p,p∈ps->∀h,Hd gx.nx p h->gx.lv h<=gx.lv a:=λa ha hn hN k ps hs p hp h hh=>by
  have hN':=hP a ha hn hN k ps hs p hp h hh;obtain⟨S,_,q2,q3⟩:=hN;obtain⟨S',_,q2',q3'⟩:=hN';obtain z|z:=q2 a q3
  .rw[e3]at z⊢;exact lc1 a (e0▸ha) ((e.Bt a).1<|e2▸hn) z k ps (e1▸hs) p hp h<|bk hh
  .grind
 have JS2:=JS.cut hG (by rw[e1,e2];exact e.mA _ js.mA) (by rw[X8];exact js.inj) (λm h k=>by rw[e1,e4,e5];exact js.can m h<|bk k) (by rw[X8];exact js.val) (by rw[X8];exact js.use) js.ok hP lcx;have kl:∀m,m∈g1.ds->(∀h,Hd g1.nx m h->g1.lv h<=l)->gx.K (uD gx l) m:=λm hm q=>by
  refine⟨e0▸hm,λh hh=>⟨λy=>y∈g1.ds/\cy y<=l,λa ha hn z k ps hs p hp h hh=>?_,λy z=>jc (by rw[e3];exact z.2),js.gl.bD hm<|bk hh,by rw[low h<|q h<|bk hh];exact q h<|bk hh⟩⟩;rw[e0]at ha;rw[e1]at hs;exact⟨js.gl.bD (js.jg.XO a k ps ha hs p hp)<|bk hh,jt (lc1 a ha ((e.Bt a).1<|e2▸hn) z.2 k ps hs p hp h<|bk hh) z.2⟩
 have ko:∀m,m∈g.ds->gx.K (uD gx l) m:=λm hm=>by
  have hm1:=(t1.st.gB m hm).1;have key:∀m,m∈g.ds->∀h,Hd g1.nx m h->(h∈g1.ds/\cy h<=l)\/(h∈g.ds/\g.nx h=none/\g.lv h=aL):=λm hm h hh=>by
   have⟨h0,k0⟩:=aj.js.gl.hd m hm;obtain z|z:=aj.hd hm k0
   .have:=t1.lo m hm h0 h k0 hh l (jv l) z;exact jc ⟨js.gl.bD (t1.st.gB m hm).1 hh,by rw[low h this];exact this⟩
   .rw[hh.one (t1.an m hm h0 k0 z).1];exact ja ⟨aj.js.gl.bD hm k0,k0.head,z⟩
  refine⟨e0▸hm1,λh hh=>⟨λy=>(y∈g1.ds/\cy y<=l)\/(y∈g.ds/\g.nx y=none/\g.lv y=aL),λa ha hn z k ps hs p hp h hh=>?_,λy z=>?_,key m hm h<|bk hh⟩⟩
  .rw[e0]at ha;rw[e1]at hs;obtain z|⟨z1,z2,z3⟩:=z
   .exact jc ⟨js.gl.bD (js.jg.XO a k ps ha hs p hp)<|bk hh,jt (lc1 a ha ((e.Bt a).1<|e2▸hn) z.2 k ps hs p hp h<|bk hh) z.2⟩
   .rw[(t1.st.gB a z1).2.1]at hs;exact key p (aj.js.jg.XO a k ps z1 hs p hp) h<|bk hh
  .rw[e3];exact z.imp (λq=>q.2) λq=>any y (t1.an y q.1 y (.here q.2.1) q.2.2).2
 have Sn:ScD g1.str g1.ds g1.nx (λy=>D y\/(y∈g1.ds/\g1.lv y<=l)):=λa ha hn z k ps hs p hp h hh=>by
  have hd:=js.gl.bD (js.jg.XO a k ps ha hs p hp) hh;obtain z|z:=z
  .exact(d.cl a z k ps hs p hp h hh).imp id λq=>⟨hd,q⟩
  .exact ja ⟨hd,jt (js.lc a ha hn k ps hs p hp h hh) z.2⟩
 have Snl:∀y,D y\/(y∈g1.ds/\g1.lv y<=l)->cy y<=l\/cy y=aL:=λy z=>by
  obtain z|z:=z
  .grind
  .grind
 have QM:∀h,Hd g1.nx n h->D h\/(h∈g1.ds/\g1.lv h<=l):=λh hh=>(d.hd h hh).imp id λq=>⟨js.gl.bD r1.mem hh,q⟩;have Sx:∀y,y∈g1.ds->g1.nx y=none->D y\/(y∈g1.ds/\g1.lv y<=l)->gx.K (uD gx l) y:=λy hy ny z=>by
  refine⟨e0▸hy,λh hh=>?_⟩;rw[(bk hh).one<|.here ny];exact⟨_,λa ha hn z k ps hs p hp h hh=>Sn a (e0▸ha) ((e.Bt a).1<|e2▸hn) z k ps (e1▸hs) p hp h<|bk hh,λy z=>by rw[e3];exact Snl y z,z⟩
 have kn:gx.K (uD gx l) n:=by
  refine⟨e0▸r1.mem,λh hh=>?_⟩;exact(Sx h (js.gl.bD r1.mem<|bk hh) (bk hh).head<|QM h<|bk hh).2 h (.here hh.head)
 have V2:∀{m},gx.K (uD gx l) m->(gx.cut<|uD gx l).V m=g1.V m:=λq=>by rw[(bB q).2.2,e5]
 have rt:∀{v y},(gx.cut<|uD gx l).R v y↔g1.R v y/\gx.K (uD gx l) y:=λ{v y}=>by
  constructor
  .rintro⟨q1,q2,q3,q4⟩;have k:=cQ.1 q1;rw[(bB k).2.1,e2]at q2;rw[(bB k).1,e1]at q3;exact⟨⟨e0▸k.1,(e.Bt y).1 q2,q3,by have:gx.vr y=v:=q4;rw[e4]at this;exact this⟩,k⟩
  .rintro⟨⟨q1,q2,q3,q4⟩,k⟩;exact⟨cQ.2 k,by rw[(bB k).2.1,e2];exact(e.Bt y).2 q2,by rw[(bB k).1,e1];exact q3,by show gx.vr y=v;rw[e4];exact q4⟩
 have lvx:(gx.cut<|uD gx l).lv=cy:=e3;refine⟨gx.cut<|uD gx l,⟨je,JS2,a1.us,λm hm hn=>?_,λm hm=>a1.lo m<|e0▸(cQ.1 hm).1⟩,⟨⟨λm hm=>?_,λm hm=>?_,λi hi v=>?_⟩,λm hm h k q=>?_,λm hm h h' k k' i hi z=>?_,λm hm=>t1.nw m<|e0▸(cQ.1 hm).1,?_,t1.ky,t1.um⟩,⟨cQ.2 kn,?_,λv=>?_,λv o=>?_,λv q=>(In.aet q).1⟩⟩
 .have k:=cQ.1 hm;rw[(bB k).2.1]at hn;have⟨S,_,q2,q3⟩:=k.2 m<|.here hn;rw[lvx,<-e3];exact q2 m q3
 .have⟨o1,o2,o3⟩:=t1.st.gB m hm;have k:=ko m hm;exact⟨cQ.2 k,by rw[(bB k).1,e1,o2],by show gx.vr m=_;rw[e4,o3]⟩
 .rw[V2<|ko m hm];exact t1.st.val m hm
 .rw[<-t1.st.U8 i ae v];constructor
  .rintro⟨y,r,z⟩;rw[lvx]at z;refine⟨y,(rt.1 r).1,?_⟩;rw[<-d.no y λq=>by obtain h|h:=tl2 y q<;>omega];exact z
  .rintro⟨y,r,z⟩;exact⟨y,rt.2 ⟨r,kl y r.1 λh hh=>by rw[hh.one<|.here r.2.1];omega⟩,by rw[lvx,low y ae];exact z⟩
 .have⟨k1,q1⟩:=t1.an m hm h k q;exact⟨(adM hG (fw k1)<|ko m hm).1,by rw[lvx];exact any h q1⟩
 .have:=t1.lo m hm h h' k (bk<|ag5 hG (ko m hm) k') i ae z;rw[lvx,low h' ae];exact this
 .exact t1.fr.trans' F λb q=>by
   obtain q|q|q:=q
   .omega
   .omega
   .exact(t1.nw b q).imp (λz=>ja<|ja z) id
 .rw[V2 kn,r1.val];exact(js.ok.yR T).symm
 .rw[V2 kn,r1.val];have aaK:aG v (sub s1.k T)->∃y,g1.R v y/\(D y\/(y∈g1.ds/\g1.lv y<=l)):=λo=>js.ah8 Sn r1.mem QM (by rw[r1.val];exact o);have ah9:∀{y},g1.R v y->(D y\/(y∈g1.ds/\g1.lv y<=l))->(dP (gx.cut<|uD gx l) v↔cy y=aL):=λ{y}r q=>by
   constructor
   .rintro⟨y',r',z⟩;rw[<-(rt.1 r').1.one js.jg r,<-lvx];exact z
   .exact λz=>⟨y,rt.2 ⟨r,Sx y r.1 r.2.1 q⟩,by rw[lvx];exact z⟩
  cases hv:In.MQ x with
  |false=>
   simp only[In.v_];constructor
   .intro q;cases q
   .rintro⟨o,a⟩;exfalso;have⟨y,r,q⟩:=aaK o;have z:=(ah9 r q).1 a;obtain q|q:=q
    .have:=(d.up y q).2.2.2.2;rw[hv]at this;simp only[Bool.false_eq_true,if_false]at this;omega
    .grind
  |true=>
   simp only[In.v_,if_true,In.SG,jo,decide_eq_true_eq];constructor
   .rintro⟨o,nf⟩;have o:=In.bM.1 o;have⟨y,r,q⟩:=aaK o;refine⟨o,(ah9 r q).2 ?_⟩;have nl:=λz=>nf<|(JY aj hl nm t1 js hp o r).2 z;have dy:=q.resolve_right λz=>nl z.2;have:=(d.up y dy).2.2.2.2;rw[hv]at this;exact this
   .rintro⟨o,a⟩;refine⟨In.bM.2 o,λf=>?_⟩;have⟨y,r,q⟩:=aaK o;have z:=(ah9 r q).1 a;have:=(JY aj hl nm t1 js hp o r).1 f;rw[low y this]at z;omega
 .have o:aG v (sub s1.k T):=o;rw[<-r1.val]at o;have⟨y,r⟩:=js.IK r1.mem o;exact(js.root r).1
end
structure BdJ rc st x c w nb l cnt g s Γ(dom:BA->Prop)v:Prop where
 aj:AJ w c nb l cnt g s
 en:cq w nb Γ g s
 pe:PE w (λb=>b<c.lo) x v
 sc:ScV c.mks c.nl rc (λy=>dom y\/(rc=true/\y=st)) x
 hd:∀y,dom y->Γ y≠none
 fa:cnt+1000*(1+nn x)<=850000
 fb:l+nn x<=805
 mf:MkFine c.mks
section
variable {cnt:Nat}
def One.af(o:One b W w')(k:Bq w W)(hb:w.heap.size<=b):Bq w w':=⟨o.os.trans k.os,o.tape.trans k.tape,o.output.trans k.output,by rw[o.size];exact k.size,λi hi=>(o.block i ae).trans<|k.block i hi⟩
def rE.nm(r:rE l g s n T)(js:JS w g s)(hl:l<aL)(hu:∀k,aG k T->s.u k):C5 g s (In.mono T) n where
 mem:=r.mem
 val:=r.val
 any v:=⟨λq=> eh,λ⟨o,x,rx,e⟩=>by
  have⟨y,hy⟩:=js.gl.hd n r.mem;have⟨z,rz,q⟩:=e_ (lv:=g.lv) js.jg js.can _ n y r.mem hy (br _) o;have q:=q js.lc;have:=r.lv y hy;rw[rz.one js.jg rx,e]at q
  omega⟩
 use:=hu
 sub v q:=eh
def cq.lit{y}(h:MG j6 w b (bn y (nA m) []))(n:C5 g s d m):cq w b (In.dN (λ_=>none) y d) g s:=by
 refine⟨_,h,λz=>?_⟩;rw[aN];unfold In.dN;by_cases e:y=z
 .grind
 .rw[if_neg e,if_neg<|qi e];exact jc ⟨rfl,rfl⟩
def BdJ.up(h:BdJ rc st x c w nb l cnt g s Γ dom v)(k:Bq w w1):BdJ rc st x c w1 nb l cnt g s Γ dom v:=⟨h.aj.af k,h.en.af k,h.pe.af k,h.sc,h.hd,h.fa,h.fb,h.mf⟩
def ZP(Hx:EU x)(h:BdJ false st x c w nb l cnt g s Γ dom v):Cq 341 #[nA c.eb,.agg #[.bool false,Nv a,Nv y,.string st,v]] w (fY c nb l (1000*(1+nn x)) (In.boundM false st x (In.inf c.mks x) Γ) g s cnt w):=by
 have k0:Bq w (w.alloc<|Cv #[.bool false,Nv a,Nv y,Sv st,v] 75):=bw _;have h0:=h.up k0;have fa:=h.fa;have fb:=h.fb;have H1:=Hx c _ nb l cnt g s Γ _ v ⟨h0.aj,h0.en,h0.pe,h0.sc.e,λz q=>h.hd z (q.resolve_right λq=>by cases q.1),ae,ae,h.mf⟩;obtain⟨tx,ax,rfl⟩:=h.pe.iface;have N0:=pM.start h0.aj<|In.inf c.mks x Γ;have K0:=ai k0;go_enter func341,ntmps341;go_wp2_with fail;refine H1.mono ?_;intro e w1 hq;have HX:=(N0.last (cnt0:=cnt) (D:=1000*(1+nn x)) hq ae).up K0;obtain⟨n1,g1,s1,aw,T1,rfl,-⟩|⟨z,vl,vr,rfl,-⟩:=hq
 .clear H1
  go_wp2
  go_ret;exact HX
 .clear H1
  go_wp2
  exact⟨rfl,HX⟩
def ZQ(Hx:EU x)(h:BdJ rc st x c w nb l cnt g s Γ dom v):Cq 341 #[nA c.eb,.agg #[.bool rc,Nv a,Nv y,.string st,v]] w (fY c nb l (1000*(1+nn x)) (In.boundM rc st x (In.inf c.mks x) Γ) g s cnt w):=by
 obtain rfl:=h.sc.r;exact ZP Hx h
end
abbrev jG c g gb b:=jS c g b\/b=gb
def ZR{α:Type}c gb(p:In.MM α)g(s:In.St)w e w':=∃z vl vr,e=pnJ z.f vl vr/\p s (.error z)/\vM w' (λ_=>True) z vl vr/\Fr (jG c g gb) w w'
def rU c nb l gb D(p:In.MM (Ty×In.Env))g(s:In.St)cnt w e w':=
 (∃n g' s' aC T G,e=.returned (nA n)/\p s (.ok ((T,G),s'))/\AJ w' c nb l aC g' s'/\ib l c w g s w g' s'/\Fr (jG c g gb) w w'/\cq w' gb G g' s'/\aC<=cnt+D/\rE l g' s' n T)\/ZR c gb p g s w e w'
structure EW nd c w nb l cnt g(s:In.St)gb(G:In.Env)v:Prop where
 aj:AJ w c nb l cnt g s
 en:cq w gb G g s
 pp:PP w (λb=>b<c.lo) nd v
 sc:oX c.mks c.nl nd
 fg:c.gL<=gb/\gb≠c.rb/\gb≠c.mb/\c.lo<=gb
 fa:cnt+1000*nn nd<=850000
 fl:l<aL
 mf:MkFine c.mks
def NW nd:=∀(c:JC)(w:World)(nb l cnt:Nat)(g:fU)(s:In.St)(gb:Nat)(G:In.Env)(v:Value),EW nd c w nb l cnt g s gb G v->
 Cq 369 #[nA c.eb,Mv gb,v] w (rU c nb l gb (1000*nn nd) (In.b_ c.mks nd G) g s cnt w)
structure mw{β:Type}c nb l gb w0 g0(s0:In.St)(p:In.MM β)w g(s:In.St)cnt(q:In.MM β):Prop where
 a:AJ w c nb l cnt g s
 t:ib l c w0 g0 s0 w0 g s
 f:Fr (jG c g0 gb) w0 w
 z:∃k,AJ w0 c nb l k g0 s0
 p:∀o,q s o->p s0 o
section
variable {W1:World} {cnt:Nat} {p' q':In.MM β} {m:In.MM α} {k:α->In.MM β} {a:α}
def ib.fg(t:ib l c w g s w1 g1 s1):Fr (jG c g gb) w w1:=t.fr.gL λ_ q=>jc q
def mw.start(a:AJ w c nb l cnt g s)(p':In.MM β):mw c nb l gb w g s p' w g s cnt p':=⟨a,.refl a.js c l,.refl _ _,⟨_,a⟩,λ_ h=>h⟩
def mw.fr(n:mw c nb l gb w0 g0 s0 p' w g s cnt q')(f:Fr (jG c g gb) w w1):Fr (jG c g0 gb) w0 w1:=n.f.trans' f λx q=>by
 obtain  (q|q|q)|q:=q
 .omega
 .omega
 .exact(n.t.nw x q).imp (λz=>jc<|ja<|ja z) id
 .omega
def mw.gr(n:mw c nb l gb w0 g0 s0 p' w g s cnt q')(a1:AJ w1 c nb l aw g1 s1)(t1:ib l c w g s W g1 s1):ib l c w0 g0 s0 w0 g1 s1:=by
 have⟨k,z⟩:=n.z;exact n.t.trans z.js n.a.js a1.js {t1 with nw:=λm hm=>(t1.nw m hm).imp id<|jt n.f.size,fr:=.refl _ _}
def mw.and(n:mw c nb l gb w0 g0 s0 p' w g s cnt (In.andM m k))(hm:m s (.ok (a,s1)))(a1:AJ w1 c nb l aw g1 s1)(t1:ib l c w g s W g1 s1)(f:Fr (jG c g gb) w w1):mw c nb l gb w0 g0 s0 p' w1 g1 s1 aw (k a):=⟨a1,n.gr a1 t1,n.fr f,n.z,λo ho=>n.p o<|ja ⟨a,s1,hm,ho⟩⟩
def mw.step{W}(n:mw c nb l gb w0 g0 s0 p' w g s cnt q')(a1:AJ w1 c nb l aw g1 s)(t1:ib l c w g s W g1 s)(f:Fr (jG c g gb) w w1):mw c nb l gb w0 g0 s0 p' w1 g1 s aw q':=⟨a1,n.gr a1 t1,n.fr f,n.z,n.p⟩
def mw.af(n:mw c nb l gb w0 g0 s0 p' w g s cnt q')(k:Bq w w1):mw c nb l gb w0 g0 s0 p' w1 g s cnt q':=n.step (n.a.af k) (.refl n.a.js c l)<|qg k
def xJ.bp{p:In.MM α}(b:xJ c p g s w e w'):ZR c gb p g s w e w':=by
 obtain⟨z,vl,vr,h1,h2,h3,h4⟩:=b;exact⟨z,vl,vr,h1,h2,h3,h4.gL λ_ q=>jc q⟩
def mw.bad(n:mw c nb l gb w0 g0 s0 p' w g s cnt (In.andM m k))(b:ZR c gb m g s w e w'):ZR c gb p' g0 s0 w0 e w':=by
 obtain⟨z,vl,vr,h1,h2,h3,h4⟩:=b;exact⟨z,vl,vr,h1,n.p _<|jc ⟨z,h2,rfl⟩,h3,n.fr h4⟩
def mw.bx(n:mw c nb l gb w0 g0 s0 p' w g s cnt q')(h:Bx w0 b C)(hb:¬jG c g0 gb b):Bx w b C:=h.fr n.f hb
def mw.ret{p:In.MM (Ty×In.Env)}{x}(n:mw c nb l gb w0 g0 s0 p w g s cnt (In.eQ (T,G)))(en:cq w gb G g s)(r:rE l g s x T)(hc:cnt<=cnt0+D):rU c nb l gb D p g0 s0 cnt0 w0 (.returned<|nA x) w:=jc ⟨x,g,s,cnt,T,G,rfl,n.p _ rfl,n.a,n.t,n.f,en,hc,r⟩
def rU.up{p:In.MM (Ty×In.Env)}(h:rU c nb l gb D p g s cnt w1 e w')(k:Bq w w1):rU c nb l gb D p g s cnt w e w':=by
 obtain⟨n,g',s',aC,T,G,h1,h2,h3,h4,h5,h6⟩|⟨z,vl,vr,h1,h2,h3,h4⟩:=h
 .exact jc ⟨n,g',s',aC,T,G,h1,h2,h3,{h4 with nw:=λm hm=>(h4.nw m hm).imp id<|jt k.size,fr:=.refl _ _},(qg k).trans h5,h6⟩
 .exact ja ⟨z,vl,vr,h1,h2,h3,(qg k).trans h4⟩
def AJ.gno(aj:AJ w c nb l cnt g s)(en:cq w gb G g s)(hb:w.heap.size<=b):¬jG c g gb b:=λq=>q.elim (aj.qJ hb) λq=>by have:=en.lt;omega
def EW.up(h:EW nd c w nb l cnt g s gb G v)(k:Bq w w1):EW nd c w1 nb l cnt g s gb G v:=⟨h.aj.af k,h.en.af k,h.pp.af k,h.sc,h.fg,h.fa,h.fl,h.mf⟩
def EW.part{G1}(h:EW nd c w0 nb l cnt0 g0 s0 gb G v)(n:mw c nb l gb w0 g0 s0 p' w g s cnt q')(en:cq w gb G1 g s)(hp:PP w0 (λb=>b<c.lo) x u)(hs:oX c.mks c.nl x)(hz:cnt+1000*nn x<=cnt0+1000*nn nd):EW x c w nb l cnt g s gb G1 u:=
 ⟨n.a,en,hp.move n.f.size (λb p q=>n.f.block b q λz=>z.elim (h.aj.jlo p) λz=>by have:=h.fg;omega)<|λ_ p _=>p,hs,h.fg,by have:=h.fa;omega,h.fl,h.mf⟩
end
section
variable {cnt:Nat}
def cq.put{x:BA}{L}(q:∀y,(G y=none/\bd y L=none)\/∃d m,G y=some d/\bd y L=some (nA m)/\C5 g s d m)(h:MG j6 w1 gb (bn x (nA m) L))(n:C5 g s d m):cq w1 gb (In.dN G x d) g s:=by
 refine⟨_,h,λz=>?_⟩;rw[aN];rw[In.dN];by_cases e:x=z
 .grind
 .grind
def Me{T}{cn}{xs}(hq:T=206/\cn=lA/\(∃n:Nat,xs=#[Nv f,Nv t,Nv n])\/T=201/\cn=kC/\(∃n:Bool,xs=#[Nv f,Nv t,.bool n])\/T=204/\cn=pS/\xs=#[Nv f,Nv t])(aj:AJ w c nb l cnt g s)(en:cq w gb G g s)(hl:l<aL)(hc:cnt+1<=900000):Cq 369 #[nA c.eb,Mv gb,.iface T<|.agg xs] w (rU c nb l gb 1000 (In.eQ (.aM cn [],G)) g s cnt w):=by
 have hu:m0 cn:=by obtain⟨-,rfl,-⟩|⟨-,rfl,-⟩|⟨-,rfl,-⟩:=hq;exact EY;exact To;exact Tp
 have k0:Bq w (w.alloc<|Cv xs T):=bw _;have H1:=akz (aj.af k0) hu hc;have N0:=mw.start (gb:=gb) (aj.af k0)<|In.eQ (Ty.aM cn [],G);have EN:=en.af k0;have K0:=ai k0;obtain⟨rfl,rfl,n,rfl⟩|⟨rfl,rfl,n,rfl⟩|⟨rfl,rfl,rfl⟩:=hq;all_goals
  go_enter func369,ntmps369;go_wp2_with fail;first|refine RK.mono ?_|refine abP.mono ?_|refine abQ.mono ?_
  rintro e w1⟨rfl,rfl⟩;go_wp2_with fail;refine H1.mono ?_;rintro e w2⟨n2,g2,dI,rfl,a2,t2,c2,r2⟩;have HX:=((N0.step a2 t2 t2.fg).ret (D:=1000) (cnt0:=cnt) (EN.kY hl N0.a a2.js t2) r2 ae).up K0
  go_wp2
  go_ret;exact HX
def afB(aj:AJ w c nb l cnt g s)(en:cq w gb G g s)(hl:l<aL)(hc:cnt<=1000000):Cq 369 #[nA c.eb,Mv gb,.iface 217<|.agg #[Nv f,Nv t]] w (rU c nb l gb 1000 (In.andM In.qK λv=>In.eQ (.var v,G)) g s cnt w):=by
 have k0:Bq w (w.alloc<|Cv #[Nv f,Nv t] 217):=bw _;have H1:=NV (aj.af k0) hc;have N0:=mw.start (gb:=gb) (aj.af k0)<|In.andM In.qK λv=>In.eQ (Ty.var v,G);have EN:=en.af k0;have K0:=ai k0;go_enter func369,ntmps369;go_wp2_with fail;refine H1.mono ?_;rintro e w2⟨n2,g2,rfl,p2,a2,t2,r2,-⟩;have HX:=((N0.and p2 a2 t2 t2.fg).ret (D:=1000) (cnt0:=cnt) (EN.kY hl N0.a a2.js t2) r2 ae).up K0
 go_wp2
 go_ret;exact HX
def Rh{p:Prop}(h:p:=by
 obtain⟨z,vl,vr,rfl,-⟩:=hb
 go_wp2
 exact⟨rfl,rU.up (ja HX) K0⟩):p:=h
def ac8{y}{vy}(Hx:NW x)(Hy:NW y)(h:EW (.mk 6 st n [x,y] f t a) c w nb l cnt g s gb G v)(hx:PP w (λb=>b<c.lo) x vx)(hy:PP w (λb=>b<c.lo) y vy):
 Cq 369 #[nA c.eb,Mv gb,.iface 208<|.agg #[Nv f,Nv t,vx,vy]] w (rU c nb l gb (1000*nn (.mk 6 st n [x,y] f t a)) (In.b_ c.mks (.mk 6 st n [x,y] f t a) G) g s cnt w):=by
 have en:nn (.mk 6 st n [x,y] f t a)=1+nn x+nn y:=qAd;have ep:In.b_ c.mks (.mk 6 st n [x,y] f t a) G=In.andM (In.b_ c.mks x G) λa=>In.andM (In.b_ c.mks y a.2) λb=>In.eQ (In.tPr a.1 b.1,b.2):=by simp[In.b_,In.xP,In.l_,In.rf]
 obtain⟨sx,sy⟩:oX c.mks c.nl x/\oX c.mks c.nl y:=by
  cases h.sc with
  |pr _ _ _ _ _ _ _ hx hy=>exact⟨hx,hy⟩
 have fa:=h.fa;have hl:=h.fl;rw[en]at fa;have⟨k0,B0⟩:=Hu w #[Nv f,Nv t,vx,vy] 208;have HA:=h.up k0;have nb0:=h.aj.gno h.en<|br _;have N0:=mw.start (gb:=gb) HA.aj<|In.b_ c.mks (.mk 6 st n [x,y] f t a) G;rw[ep]at N0;have H1:=Hx c _ nb l cnt g s gb G vx<|HA.part N0 HA.en (hx.af k0) sx qeo;rw[en,ep];have HY:=hy.af k0;obtain⟨tx,ax,rfl⟩:=hx.iface;obtain⟨ty,ay,rfl⟩:=hy.iface;have K0:=ai k0;go_enter func369,ntmps369;go_wp2_with fail;refine H1.mono ?_;rintro e w1(⟨n1,g1,s1,aw,T1,G1,rfl,p1,a1,t1,f1,e1,c1,R1⟩|hb)
 .have N1:=N0.and p1 a1 t1 f1;have H2:=Hy c w1 nb l aw g1 s1 gb G1 _<|HA.part N1 e1 HY sy qeo;have⟨b1,b2,b3⟩:=N1.bx B0 nb0;go_wp2_with fail;refine H2.mono ?_;rintro e w2(⟨n2,g2,s2,dI,T2,G2,rfl,p2,a2,t2,f2,E2,c2,r2⟩|hb)
  .have N2:=N1.and p2 a2 t2 f2;have H3:=akv a2 (R1.kY N1.a.js t2) r2;go_wp2_with fail;refine H3.mono ?_;rintro e w3⟨n3,g3,rfl,a3,t3,r3⟩;have HX:=((N2.step a3 t3 t3.fg).ret (D:=1000*(1+nn x+nn y)) (cnt0:=cnt) (E2.kY hl N2.a a3.js t3) r3 ae).up K0
   go_wp2
   go_ret;exact HX
  .have HX:=N1.bad hb;exact Rh
 .have HX:=N0.bad hb;exact Rh
end
section
variable {cnt kb jb:Nat} {p' q':In.MM β} {m:In.MM α} {k:α->In.MM β} {a:α}
def tM.kY(h:tM c l kb jb mb w g s cnt ρ)(js:JS W g s)(t:ib l c w' g s V g1 s1)(f:Fr S w w1)(hS:¬S kb/\¬S jb/\¬S mb):tM c l kb jb mb w1 g1 s1 aw ρ:=by
 have⟨L,hm,hq⟩:=h.mp;refine⟨h.bk.fr f hS.1,h.bj.fr f hS.2.1,⟨L,hm.same<|f.block _ hm.lt hS.2.2,λv=>(hq v).imp id λ⟨n,m,q1,q2,q3,q4,q5,q6⟩=>?_⟩,h.ZL⟩;have⟨o1,o2,o3⟩:=t.st.gB m q3;have⟨x,hx⟩:=js.gl.hd m q3;exact⟨n,m,q1,q2,o1,o2.trans q4,o3.trans q5,λy hy=>t.lo m q3 x y hx hy l (br _)<|q6 x hx⟩
def mw.and'(n:mw c nb l gb w0 g0 s0 p' w g s cnt (In.andM m k))(hm:m s (.ok (a,s1)))(a1:AJ w1 c nb l aw g1 s1)(t1:ib l c w g s V g1 s1)(f:Fr (jG c g0 gb) w0 w1):mw c nb l gb w0 g0 s0 p' w1 g1 s1 aw (k a):=⟨a1,n.gr a1 t1,f,n.z,λo ho=>n.p o<|ja ⟨a,s1,hm,ho⟩⟩
def Ji(a:AJ w c nb l cnt g s)(a':AJ w' c nb l aw g1 s1)(e:w'.heap[c.mb]? =w.heap[c.mb]?){x}{tk}{mt}(hx:c.mks x=some (tk,mt))(hv:∀w':World,w'.heap[c.mb]? =w.heap[c.mb]? ->(Instr.lookup 150 (Mv c.mb) (.string x) false).run Tryz.prog w'=.ok v w'):Zx w' (λi=>i≠c.cb/\i<c.gL) tk mt v:=by
 have⟨v',h1,h2⟩:=a'.je.ms.look hx;have e1:=hv w' e;rw[h2 w' rfl]at e1;injection e1 with e1;rw[<-e1];exact h1
def MdJ c nb l gb w0 g s cnt(p:In.MM (Ty×In.Env))tk m L kb jb mb gk v wr:=
 ∃j cj gj sj ρ G,Hid (gk=L.length-j)/\j<=L.length/\v=Nv j/\mw c nb l gb w0 g s p wr gj sj cj (gM c.mks tk m L j G ρ)/\cq wr gb G gj sj/\tM c l kb jb mb wr gj sj cj ρ/\Hid (cj+1000*cV (L.drop j)<=cnt+1000*cV L+ak (tk.take j))
def mw.imp(n:mw c nb l gb w0 g0 s0 p' w g s cnt q'){r}(h:∀o,r s o->q' s o):mw c nb l gb w0 g0 s0 p' w g s cnt r:={n with p:=λo ho=>n.p o<|h o ho}
def cq.stg{V'}(e:cq w gb G g s)(hl:l<aL)(aj:AJ V c nb l cnt g s)(h1:JS w1 g1 s1)(t:ib l c V g s V' g1 s1)(f:Fr S w w1)(hS:¬S gb):cq w1 gb G g1 s1:=by
 obtain⟨L,h,q⟩:=e;exact⟨L,h.fr f hS,λx=>(q x).imp id λ⟨d,m,q1,q2,q3⟩=>⟨d,m,q1,q2,q3.kY hl aj h1 t⟩⟩
def tM.no(an:tM c l kb jb mb w g s cnt ρ)(aj:AJ w c nb l cnt g s)(en:cq w gb G g s)(hm:mb≠gb):¬jG c g gb kb/\¬jG c g gb jb/\¬jG c g gb mb:=by
 obtain⟨L,hM,_⟩:=en;have⟨L',CC,_⟩:=an.mp;have⟨f1,f2,f3,_⟩:=an.ZL;have e0:=aj.je.bx.c 0;have e1:=aj.je.bx.c 1;have c0:=aj.je.ct.c 0;have k0:=an.bk.c 0;have j0:=an.bj.c 0;have j1:=an.bj.c 1;refine⟨?_,?_,?_⟩
 .rintro((q|q|q)|q)
  .grind
  .grind
  .have⟨p,hp⟩:=aj.js.gl.pY q;rw[hp]at k0;simp at k0
  .rw[q,hM.bF 0]at k0;simp at k0
 .rintro((q|q|q)|q)
  .grind
  .grind
  .have:=(aj.js.gl.nd jb q).lvl.1;rw[j1]at this;simp at this
  .rw[q,hM.bF 0]at j0;simp at j0
 .rintro((q|q|q)|q)
  .omega
  .omega
  .exact(aj.js.mI CC).1 q
  .exact hm q
def VM tk m:ak tk+size m<=size (In.arr tk m):=by
 induction tk with
 |nil=>simp[In.arr,ak]|cons t tk ih=>
  have:In.arr (t::tk) m=In.tFn t (In.arr tk m):=rfl;rw[this];simp only[ak,size];omega
def Rk{p:Prop}(h:p:=by
 obtain⟨_,_,_,q4,q5⟩:=h.aj.je.ne;rintro((q|q|q)|q)
 .exact q4 q
 .exact q5 q
 .exact(h.aj.je.mI h.aj.js).2 q
 .exact h.fg.2.2.1 q.symm):p:=h
def ad7{a}{L}{sa}{vs:Nat->Value}(H:∀i(h:i<L.length),NW L[i])(h:EW (.mk 2 st n L f t a) c w nb l cnt g s gb G v)(aE:L=[]\/∃g,sa=some ⟨g,0,none⟩/\g<c.lo/\g<w.heap.size/\∀i,i<L.length->w.cell? ⟨g,i,none⟩=some (vs i))(hr:∀i(h:i<L.length),PP w (λb=>b<c.lo) L[i]<|vs i):
 Cq 371 #[nA c.eb,Mv gb,.agg #[Nv f,Nv t,Nv a,Nv y,.string st,.slice sa L.length sc]] w (rU c nb l gb (1000*nn (.mk 2 st n L f t a)) (In.b_ c.mks (.mk 2 st n L f t a) G) g s cnt w):=by
 have en:nn (.mk 2 st n L f t a)=1+cV L:=by simp[nn]
 obtain⟨tk,m,hx,hl,HS⟩:∃tk m,c.mks st=some (tk,m)/\L.length=tk.length/\∀i(h:i<L.length),oX c.mks c.nl L[i]:=by
  cases h.sc with
  |up _ _ _ _ _ _ tk m hx hl hr=>exact⟨tk,m,hx,hl,hr⟩|leaf _ _ _ _ _ _ hk=>omega
 have fa:=h.fa;rw[en]at fa;have kX:=h.mf.sz st tk m hx;have hsl:=VM tk m;have k0:Bq w (w.alloc<|.cells #[Nv f,Nv t,Nv a,Nv y,.string st,.slice sa L.length sc] 185):=bw _;obtain⟨v,hv,vC⟩:=h.aj.je.ms.look hx;obtain⟨ma,mc,ta,xa,rfl,-⟩:=hv;have zmb:=h.aj.je.ms.lt;have ahi:=vC (w.alloc<|.cells #[Nv f,Nv t,Nv a,Nv y,.string st,.slice sa L.length sc] 185).drew<|k0.drew.block c.mb zmb;have k00:Bq w ((w.alloc<|.cells #[Nv f,Nv t,Nv a,Nv y,.string st,.slice sa L.length sc] 185).alloc<|.cells #[.slice none 0 0,.nilIface] 421):=k0.alloc k0.size _;have Vq:=vC _<|k00.drew.block c.mb zmb;obtain⟨e1,e2,e3⟩:=h.aj.je.bx;have hln:L.length<=1000:=by have:=IY tk m;omega
 rw[yZ hx,en];have HA:=ai h;have HL:=ai hl;have HLK:=ai vC;have HX:=ai hx;clear h vC k0 k00 hl hx;go_enter func371,ntmps371;go_wp2_with fail;go_cut[7]from 12 (λv1 wc=>Zj w #[Nv f,Nv t,Nv a,Nv y,.string st,.slice sa L.length sc] #[.slice ma tk.length mc,.iface ta xa] v1 wc)
 case first=>
  go_region
  all_goals(
   go_wp2_with fail
   go_meet
   case rel=>exact Zj.a w _ _ _ _)
 case rest=>
  obtain⟨pb,rfl,zp,X1,T2,KC⟩:=hcut;clear ahi Vq e1 e2 e3;have h:=uh HA;have zgb:=h.en.lt;have zkc:=KC.size;have nb1:=h.aj.gno h.en<|br _;have nb2:=h.aj.gno h.en<|Nat.le_of_lt zp;have N0:=mw.start (gb:=gb) (h.aj.af KC)<|gM c.mks tk m L 0 G In.My;have HN:=ad1 (l:=l) (h.aj.af KC).je g s;have T1:=ai X1;clear X1 h;go_wp2_with fail;refine HN.mono ?_;rintro e w2⟨kb,jb,mb,rfl,an,k2,z2,h1,h2,h3⟩;have N2:=N0.af k2;have X1:=N2.bx T1 nb1;have ST:MdJ c nb l gb wc g s cnt (gM c.mks tk m L 0 G In.My) tk m L kb jb mb L.length (Iv 0) w2:=⟨0,cnt,g,s,In.My,G,ai ah,jy _,rfl,N2,(HA.en.af KC).af k2,an,ai<|by simp[ak]⟩;obtain⟨y1,y2,y3⟩:=X1;clear HN an k2 N2 N0
  go_wp2
  go_loopg[25] L.length (λgk v wr=>MdJ c nb l gb wc g s cnt (gM c.mks tk m L 0 G In.My) tk m L kb jb mb gk v wr)
  case atStart=>exact ST
  case round=>
   clear ST y1 y2 y3;obtain⟨j,cj,gj,sj,ρ,Gj,bE,hj,rfl,at_,EJ,an,X6⟩:=hrel;have X6:=uh X6;by_cases aI:j<L.length
   .have aZ:(j:Int)<(L.length:Int):=ae;have Cz:(0:Int)<=(j:Int):=ae;have hjt:j<tk.length:=by have:=uh HL;omega
    have ahj:(j:Int)<(tk.length:Int):=ae;have h:=uh HA;have FF:=(qg (S:=jG c g gb) KC).trans at_.f;have nlo:∀b,b<c.lo->¬jG c g gb b:=λb p z=>z.elim (h.aj.jlo p) λz=>by have:=h.fg;omega
    obtain⟨gg,rfl,hQ,hz,bX⟩:=aE.resolve_left<|λe=>qBs;have y_:=hr j aI;have cg:=(j3 (a:=⟨gg,j,none⟩)<|FF.block gg hz<|nlo gg hQ).trans<|bX j aI;obtain⟨tx,ax,evs⟩:=y_.iface;rw[evs]at cg y_;have plx:=y_.place;dsimp only[PlF]at plx;have hdn:cV (L.drop j)=nn L[j]+cV (L.drop<|j+1):=by rw[jk aI];rfl
    have lF:=zL tk hjt;have H1:=H j aI c wr nb l cj gj sj gb Gj _ ⟨at_.a,EJ,y_.move FF.size (λb p z=>FF.block b z<|nlo b p)<|λ_ p _=>p,HS j aI,h.fg,ae,h.fl,h.mf⟩;have AT:=ai<|at_.imp λo ho=>uj HL aI ho;have AN:=ai an;have hfl:=h.fl;obtain⟨y1,y2,y3⟩:=at_.bx T1 nb1;clear at_ an h y_ bX FF nlo;go_wp2_with fail;refine H1.mono ?_;rintro e w3(⟨n3,g3,s3,c3,T3,G3,rfl,p3,a3,t3,f3,e3,hc3,r3⟩|hb)
    .have h:=uh HA;have zj:=AT.a.je.z.2.2;have emb:mb≠gb:=ae;have nG:=AN.no AT.a EJ emb;have an3:tM c l kb jb mb w3 g3 s3 c3 ρ:=AN.kY AT.a.js t3 f3 nG;have at3:=AT.and p3 a3 t3 f3;have nmb:¬jG c g gb c.mb:=by
      exact Rk
     have Hi:=Ji h.aj a3 (((qg (S:=jG c g gb) KC).trans at3.f).block _ zmb nmb) HX HLK;obtain⟨ma',mc',ta',xa',ee,hmr,g_⟩:=Hi;obtain⟨gt,vt,hgt,pgt,zgt,hct⟩:=hmr.resolve_left (λe=>by subst e;simp at hjt);obtain⟨ct,tt⟩:=hct j hjt;obtain⟨tb,xb,evt⟩:=tt.iface;rw[evt]at ct tt;have ema:ma=some ⟨gt,0,none⟩:=by
      injection ee with ee;have:=congrArg (λa:Array Value=>a[0]?) ee;simp at this;rw[this.1,hgt]
     subst ema;have zk:kb<w3.heap.size/\jb<w3.heap.size/\mb<w3.heap.size:=⟨an3.bk.z,an3.bj.z,by obtain⟨L',CC,_⟩:=an3.mp;exact CC.lt⟩;have Zm:∀W:World,Bq w3 W->Cq 345 #[.iface tb xb,Nv l,anV kb jb] W (Jd c nb l (λb=>b=mb) (tM c l kb jb mb) g3 s3 c3 ρ tk[j] W):=λW hk=>ZM zk.1 zk.2.1 zk.2.2 tk[j] W g3 s3 c3 ρ _ _ (a3.af hk).je (a3.af hk).js a3.us (tM.kY (W:=w3) (w':=w3) an3 a3.js (.refl a3.js c l) (qg (S:=λ_=>False) hk) ⟨id,id,id⟩) hk.size (tt.move hk.size (λb _ z=>hk.block b z)<|λ_ p _=>p) (λb p=>⟨p.1,by have:=an3.ZL.1;have:=p.2;omega⟩) ae (λ_ _=>trivial) ae;have HK:∀W e w4,Bq w3 W->Jd c nb l (λb=>b=mb) (tM c l kb jb mb) g3 s3 c3 ρ tk[j] W e w4->∃n4 g4 s4 c4 ρ4,e=.returned (nA n4)/\mw c nb l gb wc g s (gM c.mks tk m L 0 G In.My) w4 g4 s4 c4 (In.andM (In.UN T3 (sub (In.via ρ4) tk[j]) (In.pG L[j])<|In.Mk L[j]) λ_=>gM c.mks tk m L (j+1) G3 ρ4)/\rE l g4 s4 n3 T3/\rE l g4 s4 n4 (sub (In.via ρ4) tk[j])/\tM c l kb jb mb w4 g4 s4 c4 ρ4/\cq w4 gb G3 g4 s4/\c4<=c3+size tk[j]:=λW e w4 hk hp=>by
      obtain⟨n4,g4,s4,c4,ρ4,rfl,je,js,an4,o,hn,hV,IZ,hT,oY,F⟩:=hp;have o':=o.EK hk.size;have a4:=o'.aj a3 (br _) je js;have t4:ib l c w3 g3 s3 w3 g4 s4:=o'.stj a3.js (br _)<|.refl _ _;have F4:=(qg (S:=λb=>b=c.cb\/b=mb) hk).trans F;refine⟨n4,g4,s4,c4,ρ4,rfl,at3.and' (o'.drawn hT) a4 t4<|at3.f.trans' F4 λx q=>q.imp (λq=>jc<|jc q) λq=>ae,r3.kY a3.js t4,⟨hn,?_,IZ⟩,an4,e3.stg hfl a3 js t4 F4<|λq=>q.elim (λq=>?_)<|λq=>emb q.symm,oY⟩
      .rw[hV,o.kk]
      .obtain⟨L',hM,_⟩:=e3;have:=a3.je.ct.c 0;rw[<-q,hM.bF 0]at this;simp at this
     obtain⟨x1,x2,x3⟩:=at3.bx T2 nb2;have l3:=a3.je.bx.c 4;clear h g_ hct tt an3 at3 a3 t3 f3 e3 r3 p3 H1 nG nmb
     go_wp2
     go_region_with(first
      |(go_at_call 345;go_loud(refine(Zm _ (qe _ _).drew).mono ?_);intro e w4 hp;obtain⟨n4,g4,s4,c4,ρ4,rfl,at4,r4,r4',an4,e4,hc4⟩:=HK _ _ _ (qe _ _).drew hp;have AT4:=ai at4;have R4:=ai<|jd r4 r4';have AN4:=ai<|jd an4 e4;clear hp at4 r4 r4' an4 e4)
      |(go_at_call 263;refine(my _ _).mono ?_;rintro e w5⟨rfl,k5⟩;have AT5:=ai<|AT4.af k5;have AN5:Hid (tM c l kb jb mb w5 g4 s4 c4 ρ4/\cq w5 gb G3 g4 s4):=ai ⟨tM.kY AN4.1 AT4.a.js (.refl AT4.a.js c l) (qg (S:=λ_=>False) k5) ⟨id,id,id⟩,AN4.2.af k5⟩;clear k5)
      |(go_at_call 350;go_loud(refine(ZN AT5.a hfl R4.1 R4.2 _ _).mono ?_);intro e w6 hq;obtain hb|⟨he,g6,s6,p6,a6,t6⟩:=hq.symm;go_loud(have HP:=AT5.bad hb.bp;obtain⟨z,vl,vr,rfl,-⟩:=hb;exact⟨rfl,rU.up (ja HP) KC⟩);subst he;go_loud(have N6:Hid (MdJ c nb l gb wc g s cnt (gM c.mks tk m L 0 G In.My) tk m L kb jb mb (L.length-(j+1)) (.int .i64 ((j+1:Nat):Int)) w6):=ai ⟨j+1,c4,g6,s6,ρ4,G3,ai rfl,aI,rfl,AT5.and p6 a6 t6 t6.fg,AN5.2.kY hfl AT5.a a6.js t6,AN5.1.kY AT5.a.js t6 t6.fr (let q:=AN5.1.no AT5.a AN5.2 emb;⟨λz=>q.1<|jc z,λz=>q.2.1<|jc z,λz=>q.2.2<|jc z⟩),ai ae⟩);clear p6 a6 t6))
     all_goals
      go_wp2
      go_roundg(L.length-(j+1))
      case measure=>rw[uh bE];omega
      case rel=>exact N6
    .have HP:=AT.bad hb;obtain⟨z,vl,vr,rfl,-⟩:=hb;clear H1
     go_wp2
     exact⟨rfl,rU.up (ja HP) KC⟩
   .have aZ:¬(j:Int)<(L.length:Int):=ae;have ej':j=L.length:=ae;subst ej';have h:=uh HA;have hfl:=h.fl;have zj:=at_.a.je.z.2.2;have emb:mb≠gb:=ae;have lF:ak (tk.take L.length)<=ak tk:=by rw[uh HL,jm];exact br _
    have nmb:¬jG c g gb c.mb:=by
     exact Rk
    have Hi:=Ji h.aj at_.a (((qg (S:=jG c g gb) KC).trans at_.f).block _ zmb nmb) HX HLK;obtain⟨ma',mc',ta',xa',ee,hmr,g_⟩:=Hi;have ema:(Value.iface ta xa)=.iface ta' xa':=by
     injection ee with ee;have:=congrArg (λa:Array Value=>a[1]?) ee;simpa using this
    rw[<-ema]at g_;have at2:=at_.imp λo ho=>Jj HL ho;have zk:kb<wr.heap.size/\jb<wr.heap.size/\mb<wr.heap.size:=⟨an.bk.z,an.bj.z,by obtain⟨L',CC,_⟩:=an.mp;exact CC.lt⟩;have Zm:∀W:World,Bq wr W->Cq 345 #[.iface ta xa,Nv l,anV kb jb] W (Jd c nb l (λb=>b=mb) (tM c l kb jb mb) gj sj cj ρ m W):=λW hk=>ZM zk.1 zk.2.1 zk.2.2 m W gj sj cj ρ _ _ (at_.a.af hk).je (at_.a.af hk).js at_.a.us (tM.kY (W:=wr) (w':=wr) an at_.a.js (.refl at_.a.js c l) (qg (S:=λ_=>False) hk) ⟨id,id,id⟩) hk.size (g_.move hk.size (λb _ z=>hk.block b z)<|λ_ p _=>p) (λb p=>⟨p.1,by have:=an.ZL.1;have:=p.2;omega⟩) ae (λ_ _=>trivial) ae;have HK:∀W e w4,Bq wr W->Jd c nb l (λb=>b=mb) (tM c l kb jb mb) gj sj cj ρ m W e w4->∃n4,e=.returned (nA n4)/\rU c nb l gb (1000*(1+cV L)) (gM c.mks tk m L 0 G In.My) g s cnt w (.returned<|nA n4) w4:=λW e w4 hk hp=>by
     obtain⟨n4,g4,s4,c4,ρ4,rfl,je,js,an4,o,hn,hV,IZ,hT,oY,F⟩:=hp;have o':=o.EK hk.size;have a4:=o'.aj at_.a (br _) je js;have t4:ib l c wr gj sj wr g4 s4:=o'.stj at_.a.js (br _)<|.refl _ _;have F4:=(qg (S:=λb=>b=c.cb\/b=mb) hk).trans F
     have e4:=EJ.stg hfl at_.a js t4 F4 (λq=>q.elim (λq=>by
      obtain⟨L',hM,_⟩:=EJ;have:=at_.a.je.ct.c 0;rw[<-q,hM.bF 0]at this
      simp at this) (λq=>emb q.symm))
     exact⟨n4,rfl,((at2.and' (o'.drawn hT) a4 t4<|at_.f.trans' F4 λx q=>q.imp (λq=>jc<|jc q) λq=>ae).ret e4 ⟨hn,by rw[hV,o.kk],IZ⟩ (by simp at X6;omega)).up KC⟩
    obtain⟨x1,x2,x3⟩:=at_.bx T2 nb2;have l3:=at_.a.je.bx.c 4;clear h at_ at2 an g_ hmr nmb
    go_wp2
    go_region_with(first
     |(go_at_call 345;go_loud(refine(Zm _ (qe _ _).drew).mono ?_);intro e w4 hp;obtain⟨n4,rfl,hP⟩:=HK _ _ _ (qe _ _).drew hp;have HP:=ai hP;clear hp hP))
    all_goals
     go_wp2
     go_ret;exact HP
end
def ac9 st n f t a{L}(H:∀i(h:i<L.length),NW L[i]):NW (.mk 2 st n L f t a):=by
 intro c w nb l cnt g s gb G v h;obtain⟨y,sa,sc,vs,rfl,aE,hr⟩:∃(y:Nat)(sa:Option Addr)(sc:Nat)(vs:Nat->Value),v=Fv 185 (Av #[Nv f,Nv t,Nv a,Nv y,Sv st,Lv sa L.length sc])/\(L=[]\/∃g,sa=some ⟨g,0,none⟩/\g<c.lo/\g<w.heap.size/\∀i,i<L.length->w.cell? ⟨g,i,none⟩=some (vs i))/\∀i(h:i<L.length),PP w (λb=>b<c.lo) L[i]<|vs i:=by
  cases h.pp with
  |up _ _ _ _ _ _ y sa sc vs hu hy aE hr=>exact⟨_,sa,sc,vs,rfl,aE,hr⟩
 have k0:Bq w (w.alloc<|Cv #[Nv f,Nv t,Nv a,Nv y,Sv st,Lv sa L.length sc] 185):=bw _
 have H1:=ad7 (y:=y) (sc:=sc) H (h.up k0) (aE.imp id λq=>by
  obtain⟨g,q1,q2,q3,q4⟩:=q
  exact⟨g,q1,q2,jx q3 k0.size,λi hi=>(j3 (a:=⟨g,i,none⟩)<|k0.block g q3).trans<|q4 i hi⟩)<|λi hi=>(hr i hi).af k0
 have K0:=ai k0;have q1:=Zn;have q2:=CM;have q3:=Rm;have q4:=Ro;go_enter func369,ntmps369;go_wp2_with fail;refine H1.mono ?_;intro e w1 hp;have HP:=hp.up K0;obtain⟨n1,-,-,-,-,-,rfl,-⟩|⟨z,vl,vr,rfl,-⟩:=hp
 .clear H1
  go_wp2
  go_ret;exact HP
 .clear H1
  go_wp2
  exact⟨rfl,HP⟩
def ac_:∀(k:Nat)(nd:Nd),nn nd<=k->NW nd:=by
 intro k
 induction k with
 |zero=>intro nd h;cases nd;simp only[nn]at h;omega|succ k ih=>
  intro nd hk c w nb l cnt g s gb G v h;have hp:=h.pp;have fa:=h.fa;have n1:∀k s n f t a,nn (.mk k s n [] f t a)=1:=λ_ _ _ _ _ _=>qBi
  cases hp with
  |any st n f t a=>
   rw[n1]at fa⊢;rw[show In.b_ c.mks (.mk 15 st n [] f t a) G=In.andM In.qK λv=>In.eQ (.var v,G) by simp[In.b_,In.xP]];exact afB h.aj h.en h.fl ae
  |low=>cases h.sc with|leaf _ _ _ _ _ _ hk=>omega
  |num st n f t a=>
   rw[n1]at fa⊢;rw[show In.b_ c.mks (.mk 3 st n [] f t a) G=In.eQ (In.n_,G) by simp[In.b_,In.xP]];exact Me (jc ⟨rfl,rfl,_,rfl⟩) h.aj h.en h.fl ae
  |word st n f t a b=>
   rw[n1]at fa⊢;rw[show In.b_ c.mks (.mk 4 st n [] f t a) G=In.eQ (In.kJ,G) by simp[In.b_,In.xP]];exact Me (ja<|jc ⟨rfl,rfl,_,rfl⟩) h.aj h.en h.fl ae
  |unit=>cases h.sc with|leaf _ _ _ _ _ _ hk=>omega
  |pr st n x y f t a vx vy hx hy=>exact ac8 (ih x qAa) (ih y qAa) h hx hy|up st n L f t a y sa sc vs hu hy aE hr=>exact ac9 st n f t a (λi hi=>ih _ (by have:=NK L i hi;simp only[nn]at hk;omega)) c w nb l cnt g s gb G _ h
def ai_ nd:NW nd:=ac_ _ nd<|br _
def MtJ c nb l w0 g s D p Γ n1 n2 T U A gk v wr:=
 ∃j cj gj sj,Hid (gk=A.length-j)/\j<=A.length/\v=Nv j/\pM c nb l w0 g s p wr gj sj cj (lJ c.mks Γ T U A j)/\rE l gj sj n1 T/\rE l gj sj n2 U/\Hid (cj+1000*cV (bh<|A.drop j)<=D)
section
variable {cnt:Nat}
def pM.imp(n:pM c nb l w0 g0 s0 p w g s cnt q)(h:∀o,r s o->q s o):pM c nb l w0 g0 s0 p w g s cnt r:={n with p:=λo ho=>n.p o<|h o ho}
def mw.out(n:yi c nb l w0 g0 s0 w g s cnt)(f:Fr (jG c g gb) w w1)(hg:w0.heap.size<=gb):Fr (jS c g0) w0 w1:=n.t.fr.trans' f λx q=>by
 obtain  (q|q|q)|q:=q
 .omega
 .omega
 .exact(n.t.nw x q).imp (λz=>ja<|ja z) id
 .omega
def pM.ofP(n:pM c nb l w0 g0 s0 p w g s cnt q)(m:mw c nb l gb w g s q w1 g1 s1 aw r)(hg:w0.heap.size<=gb):pM c nb l w0 g0 s0 p w1 g1 s1 aw r:=by
 have⟨k0,z⟩:=n.n.z;have t:=n.n.t.trans z.js n.n.a.js m.a.js m.t;exact⟨⟨m.a,{t with fr:=mw.out n.n m.f hg},n.n.z⟩,λo ho=>n.p o<|m.p o ho⟩
def pM.afC(n:pM c nb l w0 g0 s0 p w g s cnt q)(b:ZR c gb q g s w e w')(hg:w0.heap.size<=gb):xJ c p g0 s0 w0 e w':=by
 obtain⟨z,vl,vr,h1,h2,h3,h4⟩:=b;exact⟨z,vl,vr,h1,n.p _ h2,h3,mw.out n.n h4 hg⟩
def cq.nob(en:cq w nb Γ g s)(aj:AJ w c nb l cnt g s):¬jS c g nb:=by
 obtain⟨L,h,q⟩:=en;exact Q_
def aja{A:List (Nd×Nd)}{rb}{vp ve:Nat->Value}(Hx:EU x)(He:∀i(h:i<A.length),EU A[i].2)(h:ER (.mk 13 st n (x::bh A) f t a) c w nb l cnt g s Γ dom v)(hg:rb<c.lo)(mn:rb<w.heap.size)(hc:∀i,i<A.length->(∃u v,w.cell? ⟨rb,i*4,none⟩=some (Iv u)/\w.cell? ⟨rb,i*4+1,none⟩=some (Iv v))/\w.cell? ⟨rb,i*4+2,none⟩=some (vp i)/\w.cell? ⟨rb,i*4+3,none⟩=some (ve i))(hx:PE w (λb=>b<c.lo) x vx)(hp:∀i(h:i<A.length),PP w (λb=>b<c.lo) A[i].1<|vp i)(he:∀i(h:i<A.length),PE w (λb=>b<c.lo) A[i].2<|ve i):
 Cq 359 #[nA c.eb,.agg #[Nv f,Nv t,vx,.slice (some ⟨rb,0,none⟩) A.length sc]] w (fY c nb l (1000*nn (.mk 13 st n (x::bh A) f t a)) (In.inf c.mks (.mk 13 st n (x::bh A) f t a) Γ) g s cnt w):=by
 have en:nn (.mk 13 st n (x::bh A) f t a)=1+nn x+cV (bh A):=qAd;have⟨sx,SP,SE⟩:=afX h.sc;have SP:=λi h=>(SP i h).1;have fa:=h.fa;have fb:=h.fb;rw[en]at fa fb;have hl:l<aL:=qAx;have hAl:=nR A;have⟨k0,B0⟩:=Hu w #[Nv f,Nv t,vx,Lv (some ⟨rb,0,none⟩) A.length sc] 82;have HA:=h.up k0;have nb0:=h.aj.qJ<|br _;have n0:=pM.start HA.aj<|In.inf c.mks (.mk 13 st n (x::bh A) f t a) Γ;have H1:=Hx c _ nb l cnt g s Γ dom vx<|HA.part n0.n (hx.af k0) sx qeo qeo;rw[NO]at n0;rw[en,NO];obtain⟨p,y_⟩:∃p,p=(In.andM (In.inf c.mks x Γ) λa=>In.andM In.qK λv=>lJ c.mks Γ a (.var v) A 0):=⟨_,rfl⟩;have N0:pM c nb l (w.alloc<|Cv #[Nv f,Nv t,vx,Lv (some ⟨rb,0,none⟩) A.length sc] 82) g s p (w.alloc<|Cv #[Nv f,Nv t,vx,Lv (some ⟨rb,0,none⟩) A.length sc] 82) g s cnt (In.andM (In.inf c.mks x Γ) λa=>In.andM In.qK λv=>lJ c.mks Γ a (.var v) A 0):=(by rw[y_];exact n0);rw[<-y_];have g_:= @run_makeMap Tryz.prog;obtain⟨tx,ax,rfl⟩:=hx.iface;obtain⟨W0,HW⟩:∃W,W=w.alloc (Cv #[Nv f,Nv t,Fv tx<|Av ax,Lv (some ⟨rb,0,none⟩) A.length sc] 82):=⟨_,rfl⟩;rw[<-HW]at HA N0 B0 k0 H1;have CZ:∀o,W0.cell? ⟨rb,o,none⟩=w.cell? ⟨rb,o,none⟩:=λo=>j3 (a:=⟨rb,o,none⟩)<|k0.block rb mn;have HP:∀i(h:i<A.length),PP W0 (λb=>b<c.lo) A[i].1<|vp i:=λi hi=>(hp i hi).af k0
 have HE:∀i(h:i<A.length),PE W0 (λb=>b<c.lo) A[i].2<|ve i:=λi hi=>(he i hi).af k0;have air:=Nat.lt_of_lt_of_le mn k0.size;have nrb:=h.aj.jlo hg;have K0:=ai k0;clear h n0 k0 hp he hx Hx y_;go_enter func359,ntmps359;go_wp2_with fail;rw[<-HW];refine H1.mono ?_;rintro e w1(⟨n1,g1,s1,aw,T1,rfl,p1,a1,t1,hc1,r1⟩|hb)
 .have N1:=N0.and p1 a1 t1;have H2:=NV a1 ae;have R1:=ai r1;clear H1 p1 a1 t1 r1 N0;go_wp2_with fail;refine H2.mono ?_;rintro e w2⟨n2,g2,rfl,p2,a2,t2,r2,-⟩;have N2:=N1.and p2 a2 t2;have⟨b1,b2,b3⟩:=N2.n.bx B0 nb0;have ST:MtJ c nb l W0 g s (cnt+1000*(1+nn x+cV (bh A))) p Γ n1 n2 T1 (.var<|aw+1) A A.length (Iv 0) w2:=⟨0,aw+1,g2,_,ai ah,jy _,rfl,N2,R1.kY N1.n.a.js t2,r2,ai (by rw[List.drop_zero];omega)⟩;clear H2 p2 a2 t2 r2 N2 N1 R1
  go_wp2
  go_loopg[19] A.length (λgk v wr=>MtJ c nb l W0 g s (cnt+1000*(1+nn x+cV (bh A))) p Γ n1 n2 T1 (.var<|aw+1) A gk v wr)
  case atStart=>exact ST
  case round=>
   clear ST b1 b2 b3;obtain⟨j,cj,gj,sj,bE,hj,rfl,at_,r1,r2,X6⟩:=hrel;have X6:=uh X6;by_cases aI:j<A.length
   .have aZ:(j:Int)<(A.length:Int):=ae;have Cz:(0:Int)<=(j:Int):=ae;have jE:∀o,wr.cell? ⟨rb,o,none⟩=w.cell? ⟨rb,o,none⟩:=λo=>(j3 (a:=⟨rb,o,none⟩)<|at_.n.t.fr.block rb air nrb).trans<|CZ o;have⟨⟨u,v,d0,d1⟩,d2,d3⟩:=hc j aI;rw[<-jE]at d0 d1 d2 d3;clear jE;have pp:=HP j aI;have pe:=HE j aI;have⟨t1,x1,e1⟩:=pp.iface;have⟨t2,x2,e2⟩:=pe.iface;rw[e1]at d2 pp;rw[e2]at d3 pe;have pl1:=pp.place;have pl2:=pe.place;dsimp only[PlF]at pl1 pl2;have hdn:=CQ aI;have hnn:=rP A j aI;have k1:Bq wr ((wr.alloc<|Cv #[Iv u,Iv v,Fv t1<|Av x1,Fv t2<|Av x2] 117).alloc<|.map #[] 0):=(bw _).alloc ah _;obtain⟨W1,fV⟩:∃W,W=(wr.alloc<|Cv #[Iv u,Iv v,Fv t1<|Av x1,Fv t2<|Av x2] 117).alloc (.map #[] 0):=⟨_,rfl⟩;have B1:=(qn wr #[Iv u,Iv v,Fv t1<|Av x1,Fv t2<|Av x2] 117).alloc<|.map #[] 0;have E1:cq W1 (wr.heap.size+1) (λ_=>none) gj sj:=by
     have:=cq.new (wr.alloc<|Cv #[Iv u,Iv v,Fv t1<|Av x1,Fv t2<|Av x2] 117) gj sj;rw[fV];simpa using this
    rw[<-fV]at k1 B1;have Yc:=(at_.af k1).imp λo q=>CR aI q;have z0:=at_.n.t.fr.size;have zb:=at_.n.a.je.bx.z;have zz:=at_.n.a.je.z;have zr:=at_.n.a.je.rs.lt;have zm:=at_.n.a.je.ms.lt;have nbx:=at_.n.a.qJ<|br _;have h:=HA;have HPA:∀W:World,Bq W1 W->Cq 369 #[nA c.eb,Mv<|wr.heap.size+1,Fv t1<|Av x1] W (rU c nb l (wr.heap.size+1) (1000*nn A[j].1) (In.b_ c.mks A[j].1 λ_=>none) gj sj cj W):=λW k=>ai_ A[j].1 c W nb l cj gj sj _ (λ_=>none) _ ⟨Yc.n.a.af k,E1.af k,(pp.move (Q:=λb=>b<c.lo) Yc.n.t.fr.size (λb p q=>Yc.n.t.fr.block b q<|h.aj.jlo p)<|λ_ p _=>p).af k,SP j aI,⟨ae,ae,ae,ae⟩,ae,hl,h.mf⟩;have EN1:=h.en.kY hl h.aj Yc.n.a.js Yc.n.t;have nen:=EN1.nob Yc.n.a;have zen:=EN1.lt;have ngb:¬jG c gj (wr.heap.size+1) wr.heap.size:=λq=>q.elim nbx λq=>ae;have neg:¬jG c gj (wr.heap.size+1) nb:=λq=>q.elim nen λq=>by have:=(h.en.kY hl h.aj at_.n.a.js at_.n.t).lt;omega
    have LP:=mw.start (gb:=wr.heap.size+1) Yc.n.a<|abU c.mks Γ T1 (.var<|aw+1) A j aI;rw[abU]at LP;have AT1:=ai Yc;have RR:=jd r1 r2;have PE2:=pe.move (Q:=λb=>b<c.lo) Yc.n.t.fr.size (λb p q=>Yc.n.t.fr.block b q<|h.aj.jlo p)<|λ_ p _=>p;have nlo:∀b,b<c.lo->¬jG c gj (wr.heap.size+1) b:=λb p q=>q.elim (Yc.n.a.jlo p) λq=>ae;have eE:=ai B1;have Hw:=ai fV;have UG:=ai<|jd h.hd h.mf;obtain⟨c1,c2,c3⟩:=B1;clear at_ Yc r1 r2 pp pe h k1 E1 fV nen;go_wp2_with fail;rw[<-uh Hw];go_cut[]from 24 to 33 (λwc=>∃g3 s3 c3 T3 G3 s2,In.b_ c.mks A[j].1 (λ_=>none) sj (.ok ((T3,G3),s2))/\mw c nb l (wr.heap.size+1) W1 gj sj (abU c.mks Γ T1 (.var<|aw+1) A j aI) wc g3 s3 c3 (In.andM (In.inf c.mks A[j].2<|In.over G3 Γ) λu=>In.andM (In.UN (.var<|aw+1) u (In.pG A[j].2)<|In.Mk A[j].2) λ_=>lJ c.mks Γ T1 (.var<|aw+1) A<|j+1)/\cq wc (wr.heap.size+1) G3 g3 s3/\rE l g3 s3 n1 T1/\rE l g3 s3 n2 (.var<|aw+1)/\c3<=cj+1000*nn A[j].1)
    case first=>
     go_region_with(first
      |(go_at_call 369;go_loud(refine(HPA _ (qe _ _).drew).mono ?_);intro e w3 hq;obtain hb|⟨n3,g3,s3,c3',T3,G3,he,p3,a3,t3,f3,e3,hc3,r3⟩:=hq.symm;go_loud(have HX:=AT1.afC ((LP.af (qe _ _).drew).bad hb) ae;obtain⟨z,vl,vr,rfl,-⟩:=hb;exact⟨rfl,fY.up (ja HX) K0⟩);subst he;have L3:=ai<|(LP.af (qe _ _).drew).and p3 a3 t3 f3;have P3:=ai p3;have R3:=ai<|jd (RR.1.kY LP.a.js t3)<|jd (RR.2.kY LP.a.js t3) r3;have E3:=ai e3;have⟨f1,f2,f3⟩:=L3.bx eE ngb;clear p3 a3 t3 e3 r3)
      |(go_at_call 263;refine(my _ _).mono ?_;rintro e w4⟨rfl,k4⟩;have L4:=ai<|L3.af k4;have E4:=ai<|E3.af k4;clear k4)
      |(go_at_call 350;go_loud(refine(ZN L4.a hl R3.1 R3.2.2 _ _).mono ?_);intro e w5 hq;obtain hb|⟨he,g5,s5,p5,a5,t5⟩:=hq.symm;go_loud(have HX:=AT1.afC (L4.bad hb.bp) ae;obtain⟨z,vl,vr,rfl,-⟩:=hb;exact⟨rfl,fY.up (ja HX) K0⟩);subst he;have L5:=ai<|jd (L4.and p5 a5 t5 t5.fg)<|jd (E4.kY hl L4.a a5.js t5)<|jd (R3.1.kY L4.a.js t5)<|R3.2.1.kY L4.a.js t5;clear p5 a5 t5))
     all_goals
      go_wp2_with fail
      go_meet
      case rel=>
       refine⟨_,_,_,_,_,_,P3,L5.1,L5.2.1,L5.2.2.1,L5.2.2.2,?_⟩;omega
    case rest=>
     obtain⟨g3,s3,c3',T3,G3,s2,p3,L3,e3,r1,r2,hc3⟩:=hcut;have dm:=I0 (SP j aI) p3 UG.1;have en3:=EN1.stg hl LP.a L3.a.js L3.t L3.f neg;have pe3:=PE2.move (Q:=λb=>b<c.lo) L3.f.size (λb p q=>L3.f.block b q<|nlo b p)<|λ_ p _=>p;have HWI:∀W:World,Bq wc W->Cq 349 #[nA c.eb,Mv<|wr.heap.size+1,Fv t2<|Av x2] W (fY c nb l (1000*nn A[j].2) (In.inf c.mks A[j].2<|In.over G3 Γ) g3 s3 c3' W):=λW k=>C6 (He j aI) (L3.a.af k) (en3.af k) (e3.af k) (pe3.af k) (SE j aI) dm ae ae UG.2;have R3:=jd r1 r2;have⟨f1,f2,f3⟩:=L3.bx eE ngb;clear e3 r1 r2 en3 pe3 dm p3 HPA LP RR c1 c2 c3 PE2
     go_wp2
     go_region_with(first
      |(go_at_call 349;go_loud(refine(HWI _ (qe _ _).drew).mono ?_);intro e w3 hq;obtain hb|⟨n4,g4,s4,c4,T4,he,p4,a4,t4,hc4,r4⟩:=hq.symm;go_loud(have HX:=AT1.afC ((L3.af (qe _ _).drew).bad hb.bp) ae;obtain⟨z,vl,vr,rfl,-⟩:=hb;exact⟨rfl,fY.up (ja HX) K0⟩);subst he;have L4:=ai<|(L3.af (qe _ _).drew).and p4 a4 t4 t4.fg;have R4:=ai<|jd (R3.1.kY L3.a.js t4)<|jd (R3.2.kY L3.a.js t4) r4;have⟨m1,m2,m3⟩:=L4.bx eE ngb;clear p4 a4 t4 r4)
      |(go_at_call 263;refine(my _ _).mono ?_;rintro e w4⟨rfl,k4⟩;have L5:=ai<|L4.af k4;clear k4)
      |(go_at_call 350;go_loud(refine(ZN L5.a hl R4.2.1 R4.2.2 _ _).mono ?_);intro e w5 hq;obtain hb|⟨he,g6,s6,p6,a6,t6⟩:=hq.symm;go_loud(have HX:=AT1.afC (L5.bad hb.bp) ae;obtain⟨z,vl,vr,rfl,-⟩:=hb;exact⟨rfl,fY.up (ja HX) K0⟩);subst he;have N6:Hid (MtJ c nb l W0 g s (cnt+1000*(1+nn x+cV (bh A))) p Γ n1 n2 T1 (.var<|aw+1) A (A.length-(j+1)) (.int .i64 ((j+1:Nat):Int)) w5):=ai ⟨j+1,c4,g6,s6,ai rfl,aI,rfl,AT1.ofP (L5.and p6 a6 t6 t6.fg) ae,R4.1.kY L5.a.js t6,R4.2.1.kY L5.a.js t6,ai ae⟩;clear p6 a6 t6))
     all_goals
      go_wp2
      go_roundg(A.length-(j+1))
      case measure=>rw[uh bE];omega
      case rel=>exact N6
   .have aZ:¬(j:Int)<(A.length:Int):=ae;have ej:j=A.length:=ae;subst ej;have HX:=(((at_.imp λo q=>I1 _ _ _ _ _ _ _ q).ret r2 (D:=1000*(1+nn x+cV (bh A))) (cnt0:=cnt) ae)).up K0;clear at_ r1 r2
    go_wp2
    go_ret;exact HX
 .have HX:=N0.bad hb;obtain⟨z,vl,vr,rfl,-⟩:=hb;clear H1
  go_wp2
  exact⟨rfl,fY.up (ja HX) K0⟩
end
def akZ rc st x Γ c nb l D g s cnt w e w':=
 (∃n g' s' aC T,e=.returned (nA n)/\In.boundM rc st x (In.inf c.mks x) Γ s (.ok (T,s'))/\AJ w' c nb l aC g' s'/\ib l c w g s w' g' s'/\aC<=cnt+D/\C5 g' s' (In.v_ (MK rc st Γ) s'.k T<|In.MQ x) n)\/xJ c (In.boundM rc st x (In.inf c.mks x) Γ) g s w e w'
section
variable {cnt:Nat}
def AJ.U8(a:AJ w c nb l cnt g s)l'(hl:l<=l'):AJ (w.setCell ⟨c.eb,4,none⟩<|Nv l') c nb l' cnt g s:=a.eng (ic _ _ _ _) (a.je.bx.aP 4 _ _ rfl ah) hl
def aaL(Hx:EU x)(h:BdJ rc st x c w nb l cnt g s Γ dom v)(fb:l+1+nn x<=805):Cq 337 #[nA c.eb,.agg #[.bool rc,Nv a,Nv y,.string st,v]] w (akZ rc st x Γ c nb l (1000*(1+nn x)) g s cnt w):=by
 have fa:=h.fa;have o1:=ic w c.eb 4<|Iv<|(l:Int)+1;have k1:Bq (w.setCell ⟨c.eb,4,none⟩<|Iv<|(l:Int)+1) ((w.setCell ⟨c.eb,4,none⟩<|Iv<|(l:Int)+1).alloc<|Cv #[.bool rc,Nv a,Nv y,Sv st,v] 75):=bw _;have h1:=h.aj.qJ<|br _;have b1:=Bx.at (w.setCell ⟨c.eb,4,none⟩<|Iv<|(l:Int)+1) #[.bool rc,Nv a,Nv y,Sv st,v] 75 w.heap.size o1.size.symm;have ze:=h.aj.je.bx.z;have a1:=(h.aj.U8 (l+1)<|jv l).af k1;have pe1:=(h.pe.move (w':=w.setCell ⟨c.eb,4,none⟩<|Iv<|(l:Int)+1) (Q:=λb=>b<c.lo) (ju o1.size.symm) (λb p _=>o1.block b λe=>by have:=h.aj.je.z;omega)<|λ_ p _=>p).af k1;have en1:=(h.en.one o1<|h.en.af4 h.aj.je).af k1;obtain⟨W1,HW⟩:∃W,W=(w.setCell ⟨c.eb,4,none⟩<|Iv<|(l:Int)+1).alloc (Cv #[.bool rc,Nv a,Nv y,Sv st,v] 75):=⟨_,rfl⟩;have k1':Fr (jS c g) w W1:=by rw[HW];exact(o1.fr<|ja<|jc rfl).trans (qg k1)
 have a1:AJ W1 c nb (l+1) cnt g s:=by rw[HW];exact a1
 have en1:cq W1 nb Γ g s:=by rw[HW];exact en1
 have pe1:PE W1 (λb=>b<c.lo) x v:=by rw[HW];exact pe1
 have b1:Bx W1 w.heap.size #[.bool rc,Nv a,Nv y,Sv st,v]:=by rw[HW];exact b1
 have t1:ib (l+1) c w g s W1 g s:={ib.refl h.aj.js c (l+1)with fr:=k1'};have H1:=ZQ (a:=a) (y:=y) Hx ⟨a1,en1,pe1,h.sc,h.hd,h.fa,fb,h.mf⟩;have nm:∀y d,Γ y=some d->∃m,C5 g s d m:=λy d q=>by
  have⟨L,_,hq⟩:=h.en;obtain⟨q1,_⟩|⟨d',m,q1,_,q3⟩:=hq y
  .rw[q1]at q;cases q
  .rw[q1]at q;injection q with q;subst q;exact⟨m,q3⟩
 have l1:l+1<aL:=qAx;have HK:∀w2 w4 w5 n2 g2 s2 dI T2 a_ cy D,In.boundM rc st x (In.inf c.mks x) Γ s (.ok (T2,s2))->AJ w2 c nb (l+1) dI g2 s2->ib (l+1) c W1 g s w2 g2 s2->rE (l+1) g2 s2 n2 T2->dI<=cnt+1000*(1+nn x)->Below w2.heap.size (w2.setCell ⟨c.eb,4,none⟩<|Nv l) w4->GL w5 g2.ds g2.str a_ g2.vr g2.ly cy->Fr (λb=>b∈g2.ds) w4 w5->iF g2.str g2.nx a_->TpD (if In.MQ x then aL else l) g2 cy n2 l D->akZ rc st x Γ c nb l (1000*(1+nn x)) g s cnt w (Rv<|nA n2) w5:=λw2 w4 w5 n2 g2 s2 dI T2 a_ cy D p2 a2 t2 r2 hc k4 hg F e d=>by
  have o:=ic w2 c.eb 4<|Nv l;have F':Fr (jS c g2) w2 w5:=((o.fr<|ja<|jc rfl).trans<|qg<|k4.mono<|ju o.size).trans<|F.gL λb q=>ja<|ja q;have bx:=((a2.je.bx.aP 4 (Nv l) (VC c nb l) rfl ah).below (k4.mono<|ju o.size)).fr F (a2.je.CW a2.js);have ct:=(((a2.je.ct.one o<|qi a2.je.ne.1).below<|k4.mono<|ju o.size).fr F<|a2.je.CX a2.js);have⟨g5,a5,t5,n5⟩:=Wi h.aj l1 nm a2 (t1.trans h.aj.js a1.js a2.js t2) r2 p2 hg e d F'<|a2.je.fr a2.js F' bx ct;exact jc ⟨n2,g5,s2,dI,T2,rfl,p2,a5,t5,hc,n5⟩
 have HF:=And.intro t1.fr<|λb=>h.aj.jlo (b:=b);have f4:=h.aj.je.bx.c 4;have f5:=h.aj.je.bx.f 4;have HV:=And.intro pe1 b1;obtain⟨tx,ax,rfl⟩:=h.pe.iface;obtain⟨c1,c2,c3⟩:=b1;go_enter func337,ntmps337;go_wp2_with fail;rw[<-HW];refine H1.mono ?_;rintro e w2(⟨n2,g2,s2,dI,T2,rfl,P2,A2,T2',hc2,R2⟩|hb)
 .have o:=ic w2 c.eb 4<|Nv l;have f6:=A2.je.bx.c 4;have f7:=A2.je.bx.f 4;have zl:=c3;have bb:=HV.2.fr T2'.fr h1;have⟨d1,d2,d3⟩:=bb.one o ae;have pe3:=(HV.1.move (Q:=λb=>b<c.lo) T2'.fr.size (λb p q=>T2'.fr.block b q<|HF.2 b p)<|λ_ p _=>p).move (w':=w2.setCell ⟨c.eb,4,none⟩<|Nv l) (Q:=λb=>b<c.lo) (ju o.size.symm) (λb p _=>o.block b λe=>by have:=A2.je.z;omega)<|λ_ p _=>p;have HI:=tP x h.sc.k _ _ _ pe3;have hv9:=ai<|MU h.sc.k;have b3:=((A2.je.bx.aP 4 (Nv l) (VC c nb l) rfl ah).c 4);go_wp2_with fail;refine HI.mono ?_;rintro e w4⟨rfl,K4⟩;have g4:=((A2.js.eb A2.je<|ic w2 c.eb 4<|Nv l).af K4).gl;have l4:=((A2.je.bx.aP 4 (Nv l) (VC c nb l) rfl ah).below K4).c 4
  cases hv:In.MQ x with
  |true=>
   have HG:=aht (fp g2.ds g2.lv l) w4 g2.nx g2.lv n2 l g4 R2.mem<|br _;go_wp2_with fail;refine HG.mono ?_;rintro e w5⟨rfl,nx5,lv5,D,hg,F,E,z5,d⟩;have HX:=HK w2 w4 w5 n2 g2 s2 dI T2 nx5 lv5 D P2 A2 T2' R2 hc2 (K4.mono<|ju (ic w2 c.eb 4<|Nv l).size.symm) hg F E (by rw[hv,if_pos rfl];exact d.tp A2.js l1 R2)
   go_wp2
   go_ret;exact HX
  |false=>rw[uh hv9]at hv;cases hv
 .have HX:=show xJ c (In.boundM rc st x (In.inf c.mks x) Γ) g s w e w2 from by obtain⟨z,vl,vr,q1,q2,q3,q4⟩:=hb;exact⟨z,vl,vr,q1,q2,q3,HF.1.trans q4⟩
  obtain⟨z,vl,vr,rfl,-⟩:=hb
  go_wp2
  exact⟨rfl,ja HX⟩
end
section
variable {cnt:Nat}
def Dsj w c nb l cnt D p g s fn T xs:=
 (∀W:World,Bq w W->Cq fn #[nA c.eb,.agg xs] W (fY c nb l D p g s cnt W))->Cq 347 #[nA c.eb,.iface T<|.agg xs] w (fY c nb l D p g s cnt w)
def dj:
 (∀{st},Dsj w c nb l cnt D p g s 353 305 #[Nv f,Nv t,.string st])/\
 (∀{n sc sa tx ax},Dsj w c nb l cnt D p g s 359 82 #[Nv f,Nv t,.iface tx<|.agg ax,.slice sa n sc]):=by
 refine⟨?_,?_⟩;all_goals
  intros;intro H;go_enter func347,ntmps347;go_wp2_with fail;refine(H _<|bw _).mono ?_;intro e w1 hp;have HP:=ai<|hp.up<|bw _;obtain⟨n1,-,-,-,-,rfl,-⟩|⟨z,vl,vr,rfl,-⟩:=hp
  .go_wp2
   go_ret;exact HP
  .go_wp2
   exact⟨rfl,HP⟩
def ad8(aj:AJ w c nb l cnt g s)(hc:cnt+1<=900000):Cq 347 #[nA c.eb,.iface 206<|.agg #[Nv f,Nv t,Nv n]] w (fY c nb l 1000 (In.eQ<|.aM lA []) g s cnt w):=by
 have k0:Bq w (w.alloc<|Cv #[Nv f,Nv t,Nv n] 206):=bw _;have H1:=akz (aj.af k0) EY hc;have N0:=pM.start (aj.af k0)<|In.eQ<|Ty.aM lA [];have K0:=ai k0;go_enter func347,ntmps347;go_wp2_with fail;refine RK.mono ?_;rintro e w1⟨rfl,rfl⟩;go_wp2_with fail;refine H1.mono ?_;rintro e w2⟨n2,g2,dI,rfl,a2,t2,c2,r2⟩;have HX:=((N0.step a2 t2).ret (D:=1000) (cnt0:=cnt) r2 ae).up K0
 go_wp2
 go_ret;exact HX
end
section
variable {cnt:Nat}
def ajb(Hx:EU x)(h:ER (.mk 9 st n [x] f t a) c w nb l cnt g s Γ dom v)(hx:PE w (λb=>b<c.lo) x vx):
 Cq 347 #[nA c.eb,.iface 191<|.agg #[Nv f,Nv t,Nv a,Nv y,.string st,vx]] w (fY c nb l (1000*nn (.mk 9 st n [x] f t a)) (In.inf c.mks (.mk 9 st n [x] f t a) Γ) g s cnt w):=by
 have en:nn (.mk 9 st n [x] f t a)=1+nn x:=qBi;have sx:tQ c.mks c.nl (λv=>dom v\/v=st) x:=by
  cases h.sc with
  |fn _ _ _ _ _ _ _ hs hx=>exact hx
 have g_:= @run_makeMap Tryz.prog;have fa:=h.fa;have fb:=h.fb;rw[en]at fa fb;have hl:l<aL:=qAx;have⟨k0,B0⟩:=Hu w #[Nv f,Nv t,Nv a,Nv y,Sv st,vx] 191;have HA:=h.up k0;have nb0:=h.aj.qJ<|br _;have N0:=pM.start HA.aj<|In.inf c.mks (.mk 9 st n [x] f t a) Γ;rw[PB]at N0;have H1:=NV HA.aj ae;rw[en,PB];have HXE:=hx.af k0;obtain⟨tx,ax,rfl⟩:=hx.iface;have K0:=ai k0;go_enter func347,ntmps347;go_wp2_with fail;refine H1.mono ?_;rintro e w1⟨n1,g1,rfl,p1,a1,t1,R1,-⟩;have N1:=N0.and p1 a1 t1;have nm:=R1.nm a1.js hl (λk o=>by simp only[aG]at o;exact Or.inr o.symm);have HW:∀(w2:World)(mb:Nat),Bq w1 w2->MG Sv w2 mb (bn st (nA n1) [])->Cq 349 #[nA c.eb,Mv mb,Fv tx<|Av ax] w2 (fY c nb l (1000*nn x) (In.inf c.mks x<|In.dN Γ st<|In.mono<|.var<|cnt+1) g1 ⟨s.k,λm=>s.u m\/m=cnt+1⟩ (cnt+1) w2):=λw2 mb k hM=>by
  have h:=HA;have:=C6 Hx (a1.af k) ((h.en.kY hl h.aj a1.js t1).af k) (cq.lit hM nm) ((N1.n.pe HXE).af k) sx (by rw[Bd];exact abN h.hd) ae ae h.mf;rw[Bd]at this;exact this
 have⟨b1,b2,b3⟩:=N1.n.bx B0 nb0;go_wp2_with(refine cK KLS dV rfl _ _ _ (jc rfl) rfl (MG.new _ _) st (nA n1) rfl rfl ?_;intro w2 hM o;have k2:=o.af ((qe _ w1).alloc (br _)<|.map #[] 0)<|br _;have⟨d1,d2,d3⟩:=N1.af k2|>.n.bx B0 nb0;have HM:=ai hM;have K2:=ai k2;clear hM o k2);refine(HW _ _ K2 HM).mono ?_;rintro e w3(⟨n3,g3,s3,EV,T3,rfl,p3,a3,t3,c3,r3⟩|hb)
 .have N3:=(N1.af K2).and p3 a3 t3;have H4:=aku a3 (R1.kY N1.n.a.js t3) r3;go_wp2_with fail;refine H4.mono ?_;rintro e w4⟨n4,g4,rfl,a4,t4,r4⟩;have HX:=((N3.step a4 t4).ret (D:=1000*(1+nn x)) (cnt0:=cnt) r4 ae).up K0
  go_wp2
  go_ret;exact HX
 .have HX:=(N1.af K2).bad hb;obtain⟨z,vl,vr,rfl,-⟩:=hb
  go_wp2
  exact⟨rfl,fY.up (ja HX) K0⟩
end
def Xz:∀(k:Nat)(nd:Nd),nn nd<=k->EU nd:=by
 intro k
 induction k with
 |zero=>intro nd h;cases nd;simp only[nn]at h;omega|succ k ih=>
  intro nd hk c w nb l cnt g s Γ dom v h;have hp:=h.pe;have fa:=h.fa;have fb:=h.fb;have hl:l<aL:=qAx;have hs:=h.sc
  cases hs with
  |low _ st n f t a hx=>
   cases hp with
   |low=>
    rw[yf]at fa⊢;rw[show In.inf c.mks (.mk 1 st n [] f t a) Γ=In.Ca Γ st f t by simp[In.inf,In.zG]];exact dj.1 λW hb=>(ahB (h.aj.af hb) hl (h.en.af hb) (h.hd _ hx) f t ae).mono λe w' q=>pM.last (pM.start (h.aj.af hb) _) q ae
  |num _ st n f t a=>
   cases hp with
   |num=>
    rw[yf]at fa;rw[Rq c.mks st n f t a Γ,yf];exact ad8 h.aj ae
  |fn _ st n x f t a=>
   cases hp with
   |fn _ _ _ _ _ _ y vx hs hy hx=>exact ajb (ih x qAa) h hx
  |mt _ st n x A f t a=>
   obtain⟨vx,rb,sc,vp,ve,rfl,hg,hz,hc,hx,y_,he⟩:=Yl hp;have Zr:nn x<=k/\cV (bh A)<=k:=qAa;obtain⟨tx,ax,rfl⟩:=hx.iface
   exact dj.2 λW hb=>aja (ih x Zr.1) (λi hi=>ih _ (by have:=rP A i hi;omega)) (h.up hb) hg (jx hz hb.size) (λi hi=>by
    have jE:∀o,W.cell? ⟨rb,o,none⟩=w.cell? ⟨rb,o,none⟩:=λo=>j3 (a:=⟨rb,o,none⟩)<|hb.block rb hz;simp only[jE]
    exact hc i hi) (hx.af hb) (λi hi=>(y_ i hi).af hb) (λi hi=>(he i hi).af hb)
def afD nd:EU nd:=Xz _ nd<|br _
def agD c nb cnt g s Γ rc st x w(e:Ending)w':=Fr (jG c g nb) w w'/\∃o,In.boundM rc st x (In.inf c.mks x) Γ s o/\match o with
 |.error _=>False|.ok (t,s1)=>(size (sub s1.k t)<=48/\∃T ta xa aC g',T=(if In.MQ x then sub s1.k t else In.tY (sub s1.k t))/\e=.returned (.tuple #[.iface ta xa,.agg Mz])/\eN w' (λ_=>True) T (.iface ta xa)/\aC<=cnt+1000*(1+nn x)+48/\AJ w' c nb 0 aC g' s1/\cq w' nb (In.dN Γ st ⟨T,vars [] T⟩) g' s1/\In.Tm s1 (In.dN Γ st ⟨T,vars [] T⟩))
section
variable {cnt:Nat}
def ajc(tp:In.Tm s Γ)(ok:In.Ok s)(hp:In.boundM rc st x (In.inf c.mks x) Γ s (.ok (T1,s1)))(nm:C5 g1 s1 (In.v_ (MK rc st Γ) s1.k T1 true) n):C5 g1 s1 ⟨sub s1.k T1,vars []<|sub s1.k T1⟩ n:=by
 have⟨kp,ti⟩:=In.oj rc st x (In.ol c.mks x) Γ s _ ok (λ_ q=>q) tp.env T1 s1 hp;have nf:∀v,¬In.vZ (MK rc st Γ) s1.k v:=λv⟨y,d,q1,q2,q3⟩=>by
  have q1':Γ y=some d:=by
   cases rc with
   |false=>exact q1|true=>
    simp only[MK,if_true,In.aes]at q1;split at q1
    .cases q1
    .exact q1
  have⟨t1,t2⟩:=tp y d q1';have fx:=In.rJ λk hk=>by
   have:=t2 k (by rw[t1];exact In.bM.2 hk);exact kp.fix this.2<|λz=>z this.1
  rw[fx]at q2;exact q3 (by rw[t1];exact In.bM.2 q2)
 refine⟨nm.mem,nm.val,λv=>?_,nm.use,λv q=>In.bM.1 q⟩;rw[<-nm.any v];simp only[In.v_,if_true,In.SG,jo,decide_eq_true_eq];exact⟨λq=>⟨q,nf v⟩,λq=>q.1⟩
def afE(tp:In.Tm s Γ)(ok:In.Ok s)(hp:In.boundM rc st x (In.inf c.mks x) Γ s (.ok (T1,s1)))(hT:T=(if In.MQ x then sub s1.k T1 else In.tY (sub s1.k T1))):In.Tm s1 (In.dN Γ st ⟨T,vars [] T⟩):=λy d hd=>by
 have⟨kp,ti⟩:=In.oj rc st x (In.ol c.mks x) Γ s _ ok (λ_ q=>q) tp.env T1 s1 hp;unfold In.dN at hd;split at hd
 .injection hd with hd;subst hd;refine⟨rfl,λv hv=>?_⟩;have hv:=In.bM.1 hv;rw[hT]at hv;split at hv
  .exact kp.ok.IK ti.use hv
  .have⟨m,_,o⟩:=(In.bI _).1 hv;simp[aG,ck]at o
 .have⟨q1,q2⟩:=tp y d hd;exact⟨q1,λv hv=>⟨kp.run.mono v (q2 v hv).1,kp.fix (q2 v hv).2 λz=>z (q2 v hv).1⟩⟩
def AJ.off(a:AJ w c nb l cnt g s)(f:Fr S w w')(h:∀b,S b->b≠c.rb/\b≠c.mb/\b≠c.eb/\b≠c.cb/\(∀p,w.cell? ⟨b,0,none⟩≠some (.pointer p))/\∀t y,w.cell? ⟨b,0,none⟩≠some (.iface t y)):AJ w' c nb l cnt g s:=by
 obtain⟨⟨bx,ct,rs,ms,z⟩,js,q1,q2,q3⟩:=a;exact⟨⟨bx.fr f λz=>(h _ z).2.2.1 rfl,ct.fr f λz=>(h _ z).2.2.2.1 rfl,rs.same<|f.block _ rs.lt λz=>(h _ z).1 rfl,(ms.VD (S:=S) λb q=>(h b q).2.2.2.2.2).move f.size (f.block _ ms.lt λz=>(h _ z).2.1 rfl) (λb p y=>f.block b y p.2)<|λ_ p _=>p.1,⟨z.1,z.2.1,jt z.2.2 f.size⟩⟩,⟨js.gl.pL f.size λb p q=>f.block b (iQ q) λz=>(h b z).2.2.2.2.1 p q,js.mA,js.inj,js.can,js.lc,js.val,js.use,js.ok⟩,q1,q2,q3⟩
def AJ.glo(a:AJ w c nb l cnt g s)(q:jS c g b):c.lo<=b:=Nat.le_of_not_lt λp=>a.jlo p q
def ajd(h:BdJ rc st x c w nb 0 cnt g s Γ dom v)(fb:1+nn x<=805)(tp:In.Tm s Γ)(tJ:nb≠c.rb/\nb≠c.mb/\c.lo<=nb)(ok:∀o,In.boundM rc st x (In.inf c.mks x) Γ s o->LetOk o):
 Cq 334 #[nA c.eb,.agg #[.bool rc,Nv a,Nv y,.string st,v]] w (agD c nb cnt g s Γ rc st x w):=by
 obtain⟨tx,ax,rfl⟩:=h.pe.iface;have fa:=h.fa;have hl:0<aL:=qAx;obtain⟨w0,HW⟩:∃w0,w0=(w.alloc<|Cv #[.bool rc,Nv a,Nv y,Sv st,Fv tx<|Av ax] 75).alloc (Cv Mz 100):=⟨_,rfl⟩;have K0:Bq w w0:=by rw[HW];exact(bw _).alloc ah _
 have HB0:Bx w0 w.heap.size #[.bool rc,Nv a,Nv y,Sv st,Fv tx<|Av ax]:=by rw[HW];exact(qn w #[.bool rc,Nv a,Nv y,Sv st,Fv tx<|Av ax] 75).alloc _
 have HF0:Bx w0 (w.heap.size+1) Mz:=by
  rw[HW];have:=qn (w.alloc<|Cv #[.bool rc,Nv a,Nv y,Sv st,Fv tx<|Av ax] 75) Mz 100;simpa using this
 have HA:=h.up K0;have zrm:c.rb<w.heap.size/\c.mb<w.heap.size:=⟨h.aj.je.rs.lt,h.aj.je.ms.lt⟩;have UX:=h.aj.js.ok;have OK:=ai ok;clear ok;have n1:=h.aj.qJ<|br _;have n2:=h.aj.qJ<|jv _;have HB:=aaL (a:=a) (y:=y) (afD x) HA ae;have rA:∀w',Fr (jS c g) w0 w'->c.lo<=w.heap.size/\Fr (jG c g nb) w w':=λw' f=>⟨by have:=h.aj.je.z;have:=h.aj.je.bx.z;omega,(qg K0).trans<|f.gL λb q=>jc q⟩
 go_enter_defers Tryz.func334,Tryz.ntmps334
 go_wp2_with fail;rw[<-HW];refine HB.mono ?_;rintro e w1(⟨m1,g1,s1,aw,T1,rfl,P1,A1,WU,hc1,NM⟩|⟨z,vl,vr,rfl,hp,hF,BE⟩)
 .have fz1:=HF0.fr WU.fr n2;have HM:=af7 A1 NM.mem a y;have bb:=HB0.fr WU.fr n1;obtain⟨b1,b2,b3⟩:=bb;have HV1:g1.V m1=sub s1.k T1:=(by rw[NM.val];exact A1.js.ok.yR T1);go_wp2_with fail;refine HM.mono ?_;rintro e w2⟨⟨pR,a2,t2⟩,⟨hz,rfl⟩|⟨hz,rfl⟩⟩
  .obtain⟨g2,JM⟩:∃g2:fU,g2={g1 with nx:=pR}:=⟨_,rfl⟩;have HV2:g2.V m1=sub s1.k T1:=(by rw[JM];exact HV1);rw[<-JM]at a2 t2;have h:=HA;have NN2:=yi.next ⟨A1,WU,_,h.aj⟩ a2 t2;have HI:=tP x h.sc.k _ _ _<|NN2.pe h.pe;have hv9:=ai<|MU h.sc.k;have NM2:=NM.kY hl A1 a2.js t2;have ne0:nb≠w.heap.size+1:=by have⟨L,q,_⟩:=h.en;intro e;have z:=HF0.c 0;rw[<-e,q.bF 0]at z;simp at z
   have zl:=(rA w2 NN2.t.fr).1;have HK:∀(w3:World)(g3:fU)(EV m3:Nat)(T:Ty),yi c nb 0 w0 g s w3 g3 s1 EV->C5 g3 s1 ⟨T,vars [] T⟩ m3->g3.V m3=T->T=(if In.MQ x then sub s1.k T1 else In.tY (sub s1.k T1))->EV<=cnt+1000*(1+nn x)+48->∃o,(Instr.mapUpdate 156 (Mv nb) (Sv st)<|nA m3).run Tryz.prog w3.drew=.ok () (setBlock w3.drew nb o)/\Cq 340 #[nA m3] (setBlock w3.drew nb o) (λe w5=>∃tu xu,e=Rv (Fv tu xu)/\Bx w5 (w.heap.size+1) Mz/\∀w6,Fr (λb=>b=w.heap.size+1) w5 w6->agD c nb cnt g s Γ rc st x w (Rv<|.tuple #[Fv tu xu,Av Mz]) w6):=λw3 g3 EV m3 T n3 nm3 hV hT hc=>by
    have a3:=n3.a;have⟨L,hM,hq⟩:=h.en.kY hl h.aj a3.js n3.t;have kd:Bq w3 w3.drew:=(qe _ _).drew;have⟨o,lT,hM4⟩:=(hM.af kd).put KLS dV st<|nA m3;refine⟨o,lT,?_⟩;have o4:=One.set w3.drew nb o;have a4:AJ (setBlock w3.drew nb o) c nb 0 EV g3 s1:=(a3.af kd).pL (o4.fr (S:=λb=>b=nb) rfl) λb e=>⟨by rw[e];exact tJ.1,by rw[e];exact tJ.2.1,λi=>by rw[e];exact(hM.af kd).bF i⟩;have e4:=cq.put hq hM4 nm3;have fz4:=((n3.bx HF0 n2).below kd).one o4<|qi ne0;refine(Es a4.js nm3.mem).mono ?_;rintro e w5⟨tu,xu,nx5,rfl,ht,E5,js5,F5⟩;have or5:OR 0 (setBlock w3.drew nb o).heap.size g3 s1 EV In.My {g3 with nx:=nx5} s1 EV In.My:=OR.eqv a4.js E5 js5.gl _;have F5':Fr (jS c g3) (setBlock w3.drew nb o) w5:=F5.gL λb q=>ja<|ja q;have a5:=or5.aj a4 (br _) (a4.je.fr a4.js F5' (a4.je.bx.fr F5<|a4.je.CW a4.js)<|a4.je.ct.fr F5<|a4.je.CX a4.js) js5;have e5:=e4.kY hl a4 a5.js<|or5.stj a4.js (br _) F5';have fz5:=fz4.fr F5 λq=>by
     have⟨p,hp⟩:=a4.js.gl.pY q;rw[fz4.c 0]at hp;simp at hp
    have zw5:=fz4.z;refine⟨tu,xu,rfl,fz5,λw6 F6=>⟨?_,.ok (T1,s1),P1,⟨by rw[<-HV1];exact hz,T,tu,xu,EV,_,hT,rfl,?_,hc,a5.off F6 ?_,?_,afE tp UX P1 hT⟩⟩⟩
    .refine((((rA w3 n3.t.fr).2.trans<|qg kd).trans<|o4.fr<|ja rfl).iH F5 λb q=>?_).iH F6 λb e=>ja ae;exact(n3.t.nw b q).imp (λz=>jc<|ja<|ja z) λz=>jt K0.size z
    .rw[<-hV];exact ht.move F6.size (λb p z=>F6.block b z λe=>by have:(setBlock w3.drew nb o).heap.size<=b:=p;omega)<|λ_ _ _=>trivial
    .rintro b rfl;have q:=fz5.c 0;exact⟨ae,ae,λe=>n2<|ja<|jc e,λe=>n2<|jc e,λp e=>by rw[q]at e;simp at e,λp y e=>by rw[q]at e;simp at e⟩
    .obtain⟨L5,hM5,hq5⟩:=e5;exact⟨L5,hM5.fr F6 ne0,hq5⟩
   have⟨b1',b2',b3'⟩:=NN2.bx HB0 n1;go_wp2_with fail;refine HI.mono ?_;rintro e w3⟨rfl,k3⟩;have n3:=NN2.af k3;have nm3:=NM2;have⟨y1,y2,y3⟩:=n3.bx HB0 n1
   cases hv:In.MQ x with
   |true=>
    have⟨o,lT,HTT⟩:=HK w3 g2 aw m1 (sub s1.k T1) n3 (ajc tp UX P1 (by rw[hv]at nm3;exact nm3)) HV2 (by rw[hv];rfl) ae;have⟨z1,z2,z3⟩:=n3.a.je.bx;go_wp2_with fail;refine wp_region_noPanic ?_;go_region;all_goals
     refine NoPanic.normal ?_;go_wp2_with fail;refine HTT.mono ?_;rintro e w5⟨tu,xu,rfl,fz5,HPO⟩;have FZ5:=ai fz5;obtain⟨f1,f2,f3⟩:=fz5;go_wp2_with fail;have F8:=FZ5.Sz rfl (Iv 0) (Iv 0) (Iv 0) Zv .nilIface;have G8:=(((((qh (λi=>i=w.heap.size+1) w5).set (b:=w.heap.size+1) (jc rfl) 0<|Iv 0).set (b:=w.heap.size+1) (jc rfl) 1<|Iv 0).set (b:=w.heap.size+1) (jc rfl) 2<|Iv 0).set (b:=w.heap.size+1) (jc rfl) 3 Zv).set (b:=w.heap.size+1) (jc rfl) 4 .nilIface;refine leaves_cons (f:=336) (args:=#[Pv<|w.heap.size+1]) ah qBb ?_;refine(ae_<|w.heap.size+1).mono ?_;rintro e u' w9⟨rfl,rfl,rfl⟩;obtain⟨c9,_,_⟩:=F8;simp[Leaves,settle,results,Tryz.results334,go_sem,c9];exact HPO _ G8
   |false=>rw[uh hv9]at hv;cases hv
  .exact absurd (uh OK _ P1) (by show ¬size (sub s1.k T1)<=48;rw[<-HV1];omega)
 .exact(uh OK _ hp).elim
end
section
variable {cnt:Nat}
abbrev FD(c:JC)(t:qm)(vs:List qm)ms gL:={c with mks:=In.lq t vs ms c.mks,gL:=gL}
def Wj(h:AJ w c nb l cnt g s)(hrm:c.rb≠c.mb){t}{f x}{vv vm}(hv:RowV QName 3 w P vs vv)(hm:RowV QMaker 6 w P ms vm)(hd:TdF t vs ms):
 Cq 335 #[nA c.eb,.agg #[Iv f,Iv x,Nv t.aD,Nv t.t9,.string t.text,vv,vm]] w (λe w'=>e=.returned (.tuple #[])/\Fr (λi=>i=c.mb) w w'/\AJ w' (FD c t vs ms w'.heap.size) nb l cnt g s):=by
 obtain⟨w0,I9⟩:∃w0,w0=w.alloc (Cv #[Iv f,Iv x,Nv t.aD,Nv t.t9,Sv t.text,vv,vm] 95):=⟨_,rfl⟩;have k0:Bq w w0:=by rw[I9];exact bw _
 have B0:Bx w0 w.heap.size #[Iv f,Iv x,Nv t.aD,Nv t.t9,Sv t.text,vv,vm]:=by rw[I9];exact qn w #[Iv f,Iv x,Nv t.aD,Nv t.t9,Sv t.text,vv,vm] 95
 have a0:=h.af k0;have zm:=a0.je.ms.lt;have zc:=a0.je.ct.z;have HMK:∀W:World,Bq w0 W->Cq 278 #[Av #[Iv f,Iv x,Nv t.aD,Nv t.t9,Sv t.text,vv,vm]] W (λe w'=>∃b,e=Rv (Mv b)/\Bq W w'/\W.heap.size<=b/\mH w' (λi=>W.heap.size<=i) b (In.lq t vs ms λ_=>none)):=λW hb=>by
  have kW:=k0.trans<|hb.mono k0.size;exact I6 (hv.move c_ kW.size (λb _ z=>kW.block b z)<|λ_ p _=>p) (hm.move bP kW.size (λb _ z=>kW.block b z)<|λ_ p _=>p) hd
 have HCP:Hid (∀(W:World)(b:Nat),Bq w0 W->w0.heap.size<=b->mH W (λi=>w0.heap.size<=i) b (In.lq t vs ms λ_=>none)->Cq 277 #[Mv c.mb,Mv b] W (λe w'=>e=Rv (.tuple #[])/\Fr (λi=>i=c.mb) w w'/\AJ w' (FD c t vs ms w'.heap.size) nb l cnt g s)):=ai λW b hb hz hM=>by
  have aW:=a0.af hb;have⟨L,hMG,_⟩:=id aW.je.ms;have zb:=hM.lt;have zs:=hb.size;have h1:mH W (λi=>i≠c.cb/\i≠c.mb/\i<W.heap.size) c.mb c.mks:=(aW.je.ms.rS<|hMG.bF 0).move (br _) rfl (λ_ _ _=>rfl) (λi p z=>⟨p.1.1,p.2,z⟩);have h2:mH W (λi=>i≠c.cb/\i≠c.mb/\i<W.heap.size) b (In.lq t vs ms λ_=>none):=hM.move (br _) rfl (λ_ _ _=>rfl) (λi p z=>⟨qBv,qBv,z⟩);refine(Rx h1 h2 (λq=>q.2.1 rfl) (λi p=>p.2.2) ae).mono ?_;rintro e w'⟨rfl,hM3,F3⟩;rw[<-zJ]at hM3;have⟨n1,n2,n3,n4,n5⟩:=aW.je.ne;have z3:=F3.size;refine⟨rfl,(qg<|k0.trans<|hb.mono k0.size).trans F3,⟨aW.je.bx.fr F3<|qi n5,aW.je.ct.fr F3<|qi n4,aW.je.rs.same<|F3.block _ aW.je.rs.lt hrm,hM3.move (br _) rfl (λ_ _ _=>rfl) (λi p _=>⟨p.1,by show i<w'.heap.size;omega⟩),⟨aW.je.z.1,aW.je.z.2.1,br _⟩⟩,⟨aW.js.gl.pL F3.size λb p q=>F3.block b (iQ q) λe=>(by rw[e,hMG.bF 0]at q;cases q),aW.js.mA,aW.js.inj,aW.js.can,aW.js.lc,aW.js.val,aW.js.use,aW.js.ok⟩,aW.us,aW.lv,aW.lo⟩
 have HL:Hid (∀W:World,Bq w0 W->W.cell? ⟨c.eb,2,none⟩=some (Mv c.mb)):=ai λW k=>(a0.af k).je.bx.c 2;obtain⟨b1,b2,b3⟩:=B0;have⟨e1,e2,e3⟩:=a0.je.bx;obtain⟨pa,pc,cs,rfl,-⟩:=hv;obtain⟨ma,mc,ds,rfl,-⟩:=hm;have HW:=ai I9;clear h k0 a0 I9;go_enter func335,ntmps335;go_wp2_with fail;rw[<-uh HW]
 go_region_with(first
  |(go_at_call 278;go_loud(refine(HMK _ (qe _ _).drew).mono ?_);rintro e w2⟨b,rfl,k2,z2,hM⟩;have nM:Bq w0 w2:=(qe _ _).drew.trans k2;have s0:=uh HL _ nM;have HC:=ai<|HCP w2 b nM z2 hM;clear k2 nM z2 hM)
  |(go_at_call 277;go_loud(refine HC.mono ?_);rintro e w3⟨rfl,hp⟩;have HP:=ai hp;clear hp))
 all_goals
  go_wp2
  go_end0;exact⟨rfl,HP⟩
def ah_ nl:Cq 28 #[] w λe w'=>∃(c:JC)(nb:Nat)(g:fU),e=.returned (nA c.eb)/\Bq w w'/\AJ w' c nb 0 0 g ⟨ql,λ_=>False⟩/\cq w' nb (λ_=>none) g ⟨ql,λ_=>False⟩/\c.mks=(λ_=>none)/\c.nl=nl/\c.lo=w.heap.size/\c.rb≠c.mb/\nb≠c.rb/\nb≠c.mb/\c.lo<=nb/\c.lo<=c.mb:=by
 have g_:= @run_makeMap Tryz.prog;go_enter func28,ntmps28;go_wp2_with fail;refine(EH).mono ?_;rintro e w1⟨rfl,ud⟩;have k1:Bq w w1:=by rw[ud];exact bw _
 have C1':Bx w1 w.heap.size #[Iv 0]:=by rw[ud];exact qn w #[Iv 0] 3
 have z1:w1.heap.size=w.heap.size+1:=by rw[ud];simp
 have K1:=ai k1;clear ud k1;go_wp2_with fail;refine(Du).mono ?_;rintro e w2⟨rfl,R2,k2,z2⟩;have K2:=ai k2;clear k2
 go_wp2
 go_ret;obtain⟨w3,rC⟩:∃w3,w3=w2.alloc (.map #[] 0):=⟨_,rfl⟩;obtain⟨w4,hw4⟩:∃w4,w4=w3.alloc (.map #[] 0):=⟨_,rfl⟩;have k3:Bq w2 w3:=by rw[rC];exact bw _
 have k4:Bq w3 w4:=by rw[hw4];exact bw _
 have z3:w3.heap.size=w2.heap.size+1:=by rw[rC];simp
 have z4:w4.heap.size=w3.heap.size+1:=by rw[hw4];simp
 have k2:=uh K2;have k1:=uh K1;have m3:MG Sv w3 (w.heap.size+2) []:=by rw[rC,show w.heap.size+2=w2.heap.size by omega];exact MG.new _ w2
 have m4:MG Sv w4 (w.heap.size+3) []:=by rw[hw4,show w.heap.size+3=w3.heap.size by omega];exact MG.new _ w3
 rw[<-rC,<-hw4];obtain⟨w5,hw5⟩:∃w5,w5=w4.alloc (Cv #[.func (.func 86) #[] #[Pv w.heap.size],Mv<|w.heap.size+1,Mv<|w.heap.size+2,Mv<|w.heap.size+3,Iv 0] 158):=⟨_,rfl⟩;have k5:Bq w4 w5:=by rw[hw5];exact bw _
 have z5:w5.heap.size=w.heap.size+5:=by rw[hw5];simp;omega
 have b5:Bx w5 (w.heap.size+4) #[.func (.func 86) #[] #[Pv w.heap.size],Mv<|w.heap.size+1,Mv<|w.heap.size+2,Mv<|w.heap.size+3,Iv 0]:=by
  have:=qn w4 #[.func (.func 86) #[] #[Pv w.heap.size],Mv<|w.heap.size+1,Mv<|w.heap.size+2,Mv<|w.heap.size+3,Iv 0] 158;rw[<-hw5,show w4.heap.size=w.heap.size+4 by omega]at this;exact this
 have k45:=k4.trans<|k5.mono k4.size;have k35:=k3.trans<|k45.mono k3.size;have k25:=k2.trans<|k35.mono k2.size;have kk:=k1.trans<|k25.mono k1.size;have js:JS w5 ⟨[],λ_=>none,λ_=>none,λ_=>0,λ_=>(none,0),λ_=>0,λ_=>.var 0⟩ ⟨ql,λ_=>False⟩:=by
  refine⟨⟨λn h=>xA,λn _=>⟨rfl,rfl⟩,λn h=>xA⟩,.start _ _,λa b h=>xA,λn x k=>?_,λa h=>xA,λn h=>xA,λn h=>xA,In.Ai _⟩;rfl
 have res:∃(c:JC)(nb:Nat)(g:fU),Rv (Pv<|w.heap.size+4)=Rv (nA c.eb)/\Bq w w5/\AJ w5 c nb 0 0 g ⟨ql,λ_=>False⟩/\cq w5 nb (λ_=>none) g ⟨ql,λ_=>False⟩/\c.mks=(λ_=>none)/\c.nl=nl/\c.lo=w.heap.size/\c.rb≠c.mb/\nb≠c.rb/\nb≠c.mb/\c.lo<=nb/\c.lo<=c.mb:=by
  refine⟨⟨w.heap.size+4,w.heap.size,w.heap.size+1,w.heap.size+2,w.heap.size,w.heap.size+5,λ_=>none,nl⟩,w.heap.size+3,_,rfl,kk,⟨⟨b5,C1'.below k25,?_,⟨[],m3.same<|k45.block _ ae,λ_ _=>rfl,λx v h=>qBg⟩,?_⟩,js,λn q=>q.elim,λn h=>xA,λn h=>xA⟩,⟨[],m4.same<|k5.block _ ae,λx=>jc ⟨rfl,rfl⟩⟩,rfl,rfl,rfl,?_,?_,?_,?_,?_⟩
  .have:=R2.same (w':=w5)<|k35.block _ ae
   rwa[z1]at this
  all_goals(dsimp only;omega)
 rw[hw5]at res;exact res
end
def alX eb lo base nl w cnt mks s Γ:=∃(c:JC)(nb:Nat)(g:fU),c.eb=eb/\(c.lo=lo/\lo<=c.mb)/\(c.cb<base/\c.eb<base)/\c.mks=mks/\c.nl=nl/\c.rb≠c.mb/\(nb≠c.rb/\nb≠c.mb/\c.lo<=nb)/\In.Tm s Γ/\AJ w c nb 0 cnt g s/\cq w nb Γ g s
def aje{cnt}{x}(a:AJ w c nb l cnt g s)(hx:w.cell? ⟨b,0,none⟩=some x)(ho:∀q,x≠.pointer q):¬b∈g.ds:=λq=>by
 have⟨p,hp⟩:=a.js.gl.pY q;rw[hx]at hp;injection hp with hp;exact ho p hp
def ajf{eb lo}(hl:nl.length<=1000000):ZG 90 eb lo base false nl (alX eb lo base nl):=by
 refine⟨?_,?_,⟨_,λw=>metJ_Makers _ w,λ_ _=>qkr,?_⟩,⟨_,λw=>metJ_Let _ w,λ_ _=>qkr,?_⟩⟩
 .rintro w w' cnt mks s Γ⟨c,nb,g,h1,h2,h3,h4,h5,h6,h7,h8,ha,he⟩hb;exact⟨c,nb,g,h1,h2,h3,h4,h5,h6,h7,h8,ha.af hb,he.af hb⟩
 .rintro w w' cnt mks s Γ b x⟨c,nb,g,h1,h2,h3,h4,h5,h6,h7,h8,ha,he⟩hb hx ho f;have⟨Lr,hr,_⟩:=id ha.je.rs;have⟨Lm,hm,_⟩:=id ha.je.ms;have⟨Ln,hn,hq⟩:=id he;have nr:=gU hr hx;have nm:=gU hm hx;have nn:=gU hn hx;refine⟨c,nb,g,h1,h2,h3,h4,h5,h6,h7,h8,ha.off f ?_,Ln,hn.fr f nn,hq⟩;rintro d rfl;exact⟨qi nr,qi nm,ae,ae,λp e=>by rw[hx]at e;injection e with e;exact ho.p p e,λt y e=>by rw[hx]at e;injection e with e;exact ho.i t y e⟩
 .rintro w cnt mks s Γ t vs ms f x vv vm⟨c,nb,g,rfl,⟨rfl,h2⟩,h3,rfl,rfl,h6,h7,h8,ha,he⟩hv hm hd;have⟨Lm,hMG,_⟩:=id ha.je.ms;have⟨Ln,hn,hq⟩:=id he;refine(Wj ha h6 hv hm hd).mono ?_;rintro e w'⟨rfl,hf,hw⟩;refine⟨rfl,.of hf (λb q=>by subst q;exact h2) (λb y q _ e _=>by subst q;rw[hMG.bF 0]at e;cases e),?_⟩;exact⟨FD c t vs ms w'.heap.size,nb,g,rfl,⟨rfl,h2⟩,h3,rfl,rfl,h6,h7,h8,hw,Ln,hn.fr hf h7.2.1,hq⟩
 .rintro w cnt mks s Γ rc st x v a y dom⟨c,nb,g,rfl,⟨rfl,h2⟩,h3,rfl,rfl,h6,h7,h8,ha,he⟩hp hs hd lF hA hB hm UX;refine(ajd (a:=a) (y:=y) (dom:=dom) ⟨ha,he,hp,hs,hd,hA,ae,hm⟩ hB h8 h7 UX).mono ?_;rintro e w'⟨hf,o,ho,hq⟩;refine⟨.of hf (λb q=>?_)<|λb z q hz hx ho=>?_,o,ho,?_⟩
  .obtain q|q:=q
   .exact ha.glo q
   .subst q;exact h7.2.2
  .obtain  (q|q|q)|q:=q
   .omega
   .omega
   .exact aje ha hx ho q
   .subst q;have⟨Ln,hn,_⟩:=id he;exact gU hn hx rfl
  .cases o with
   |error z=>exact hq|ok p=>
    obtain⟨t,s1⟩:=p;obtain⟨z,T,ta,xa,aC,g',e1,e2,e3,e5,e6,e7,e8⟩:=hq;exact⟨z,T,ta,xa,aC,e1,e2,e3,e5,c,nb,g',rfl,⟨rfl,h2⟩,h3,rfl,rfl,h6,h7,e8,e6,e7⟩
def ajg nl:Cq 26 #[] w λe w'=>∃eb,e=.returned (Pv eb)/\Bq w w'/\StW eb w.heap.size w'.heap.size nl w' 0 (λ_=>none) ⟨ql,λ_=>False⟩ (λ_=>none):=by
 refine(ah6 nl).mono ?_;rintro e w'⟨c,rfl,k,h,h1,h2,h3,h4,h5,h6⟩;have⟨l1,l2,l3,l4,l5⟩:=h.we.l;exact⟨c.eb,rfl,k,c,_,rfl,⟨h4,h5,h6⟩,⟨ae,ae⟩,h2,h3,rfl,h1,h⟩
def ajh nl:Cq 28 #[] w λe w'=>∃eb,e=.returned (Pv eb)/\Bq w w'/\alX eb w.heap.size w'.heap.size nl w' 0 (λ_=>none) ⟨ql,λ_=>False⟩ (λ_=>none):=by
 refine(ah_ nl).mono ?_;rintro e w'⟨c,nb,g,rfl,k,a,en,h1,h2,h3,h4,h5,h6,h7,h8⟩;exact⟨c.eb,rfl,k,c,nb,g,rfl,⟨h3,ae⟩,⟨a.je.ct.z,a.je.bx.z⟩,h1,h2,h4,⟨h5,h6,h7⟩,λy c q=> eh,a,en⟩
def QBd:EQ (BA×Ty):=λ_ _ p c=>c 0=.string p.1/\c 1=.string (bs<|wr dec (vars [] p.2) p.2 0)
def oV:cu QBd:=λ_ _ _ _ _ _ h _ _ _=>h
def Qf(w:World)(P:Nat->Prop)(B:List (BA×Ty))(va:Option Addr)(vc:Nat):Prop:=RowV QBd 2 w P B (.slice va B.length vc)/\B.length<=vc
theorem Qf.move{w w':World}{P P':Nat->Prop}{B:List (BA×Ty)}{va:Option Addr}{vc:Nat}(h:Qf w P B va vc)(hs:w.heap.size<=w'.heap.size)(hb:∀b,P b->b<w.heap.size->w'.heap[b]? =w.heap[b]?)(hq:∀b,P b->b<w.heap.size->P' b):Qf w' P' B va vc:=⟨h.1.move oV hs hb hq,h.2⟩
def db.cap{w:World}{b6:Nat}{B:List (BA×Ty)}{va:Option Addr}{vc:Nat}(h:db QBd 107 2 w b6 va vc B):B.length<=vc:=by
 obtain⟨cs,⟨_,h⟩,_⟩:=h;obtain⟨_,h⟩|⟨g,cap,jL,e,_,_,h,_⟩:=h
 .omega
 .simp only[Value.slice.injEq]at e;omega
def fF:Option In.Ft->Fl
 |none=>Vo|some z=>z.f
def fL:Option In.Ft->BA
 |none=>bs []|some z=>ftL z
def fR:Option In.Ft->BA
 |none=>bs []|some z=>ftR z
structure SN where
 ty:BA->Option Nat
 km:BA->Option Nat
 nm:List BA
def sn0:SN:=⟨Yo,λ_=>none,[]⟩
structure PI nl rs(Q:List (BA×Ty)->Option In.Ft->Prop)r cnt mks s(Γ:In.Env)(e:SN)B:Prop where
 pg:yA nl r e.ty e.km mks e.nm
 fi:MkFine mks
 mf:In.MF mks
 nm:∀x,x∈e.nm->Γ x≠none
 ef:In.EF Γ
 kf:In.KF s
 qq:∀B' F,In.Xu rs r mks Γ s B' F->Q (B++B') F
 cn:cnt+1048*XK r<=850000
 sz:XK r<=802
section
variable {Q:List (BA×Ty)->Option In.Ft->Prop} {r:List Dc} {cnt:Nat} {e:SN} {B:List (BA×Ty)}
def PI.end(h:PI nl rs Q [] cnt mks s Γ e B):Q B none:=by
 have:=h.qq [] none ⟨rfl,rfl⟩
 rwa[jj]at this
def PI.ty{t}(h:PI nl rs Q (.ty t vs ms::r) cnt mks s Γ e B):TdF t vs ms/\PI nl rs Q r cnt (In.lq t vs ms mks) s Γ ⟨wX e.ty t.text vs.length,mkF e.km ms,e.nm⟩ B:=by
 have⟨⟨_,g1,g2,g3⟩,g4⟩:=h.pg;have hc:=h.cn;have hs:=h.sz;rw[oU]at hc hs;exact⟨g1,g4,g2,g3,h.nm,h.ef,h.kf,h.qq,ae,ae⟩
def LtI(nl:List BA)(rs:Bool)(Q:List (BA×Ty)->Option In.Ft->Prop)(r:List Dc)(cnt:Nat)(mks:In.Mks)(s:In.St)(Γ:In.Env)(e:SN)(B:List (BA×Ty))(rc:Bool)(t:qm)(b:Nd):=∀o,In.boundM rc t.text b (In.inf mks b) Γ s o->match o with
 |.error z=>Q B (some z)|.ok (a,s1)=>(48<size (sub s1.k a)->Q B (some<|In.tK t.aD t.t9))/\∀T aC,size (sub s1.k a)<=48->T=(if In.MQ b then sub s1.k a else In.tY (sub s1.k a))->aC<=cnt+1000*(1+nn b)+48->Wf T/\size T<=48/\PI nl rs Q r aC mks (In.nxt rs s1) (In.dN Γ t.text ⟨T,vars [] T⟩) ⟨e.ty,e.km,e.nm++[t.text]⟩ (B++[(t.text,T)])
def PI.lt{t:qm}{b:Nd}(h:PI nl rs Q (.lt rc t b::r) cnt mks s Γ e B):t.text∈nl/\cnt+1000*(1+nn b)<=850000/\1+nn b<=805/\MkFine mks/\ScV mks nl rc (λv=>v∈e.nm\/(rc=true/\v=t.text)) b/\LtI nl rs Q r cnt mks s Γ e B rc t b:=by
 have⟨⟨g0,g3,_,g1⟩,g4⟩:=h.pg;have hc:=h.cn;have hs:=h.sz;rw[oU]at hc hs;simp only[nd3]at hc hs;refine⟨g1,ae,ae,h.fi,g3,λo ho=>?_⟩;have g:=In.acs rc t.text b (In.agw h.mf b) Γ s h.kf h.ef o ho
 cases o with
 |error z=>
  have:=h.qq [] (some z) ⟨_,ho,rfl,rfl⟩
  rwa[jj]at this
 |ok p=>
  obtain⟨a,s1⟩:=p;obtain⟨k1,k2⟩:=g;refine⟨λhz=>?_,λT aC hz hT CB=>?_⟩
  .have:=h.qq [] (some<|In.tK t.aD t.t9) ⟨_,ho,jc ⟨hz,rfl,rfl⟩⟩
   rwa[jj]at this
  .have hw:=In.qI k1 k2;have hTw:Wf T/\size T<=48:=by
    rw[hT];split
    .exact⟨hw,hz⟩
    .exact⟨Zt hw,by rw[I4];exact hz⟩
   refine⟨hTw.1,hTw.2,g4,h.fi,h.mf,λx hx=>?_,h.ef.set _ hTw.1,λn=>?_,λB' F q=>?_,ae,ae⟩
   .unfold In.dN;split
    .simp
    .rename_i cJ;obtain q|q:=List.mem_append.1<|show x∈e.nm++[t.text]from hx
     .exact h.nm x q
     .grind
   .show Wf ((if rs then ql else s1.k) n)
    cases rs
    .exact k2 n
    .exact In.oQ n
   .rw[List.append_assoc];exact h.qq _ F ⟨_,ho,ja ⟨hz,T,B',hT,rfl,q⟩⟩
end
def PI.init{l}(h:yA nl l Yo (λ_=>none) (λ_=>none) [])(hz:XK l<=802)rs u{cnt}(hc:cnt<=1000):PI nl rs (In.Xu rs l (λ_=>none) (λ_=>none) ⟨ql,u⟩) l cnt (λ_=>none) ⟨ql,u⟩ (λ_=>none) sn0 []:=
 ⟨h,⟨λ_ _ _ q=> eh,λ_ _ _ q=> eh,λ_ _ _ q=> eh⟩,λx tk m q=> eh,λx hx=>by simp[sn0]at hx,λy c q=> eh,In.oQ,λB' F q=>q,ae,hz⟩
def rq va n vc:=#[Iv 0,Iv 0,Iv 0,.string ⟨#[]⟩,.string ⟨#[]⟩,.slice va n vc,.slice none 0 0]
structure ru w b4 b5 b6(B:List (BA×Ty))va vc:Prop where
 r4:Bx w b4 (rq none 0 0)
 r5:Bx w b5 (rq va B.length vc)
 row:db QBd 107 2 w b6 va vc B
 fst:∀b,(j7 va B.length vc).ownBlock=some b->∃x,w.cell? ⟨b,0,none⟩=some (.string x)
def UH x:Oth (.string x):=⟨λ_ _ q=> eh,λ_ _ q=> eh,λ_ q=> eh⟩
def ada:Oth (Iv 0):=⟨λ_ _ q=> eh,λn h q=>(by injection q with _ q;omega),λ_ q=> eh⟩
section
variable {b4 b5 b6 lo:Nat} {B:List (BA×Ty)}
def ru.same(h:ru w b4 b5 b6 B va vc)(hs:w.heap.size<=w'.heap.size)(h4:w'.heap[b4]? =w.heap[b4]?)(h5:w'.heap[b5]? =w.heap[b5]?)(h6:∀b,(j7 va B.length vc).ownBlock=some b->w'.heap[b]? =w.heap[b]?):ru w' b4 b5 b6 B va vc:=by
 refine⟨h.r4.same hs h4,h.r5.same hs h5,?_,λb q=>?_⟩
 .have⟨cs,ho,hr⟩:=h.row;exact⟨cs,lK ho h6,hr⟩
 .have⟨x,hx⟩:=h.fst b q;exact⟨x,by rw[j3 (a:=⟨b,0,none⟩)<|h6 b q];exact hx⟩
def ru.af(h:ru w b4 b5 b6 B va vc)(k:Bq w w'):ru w' b4 b5 b6 B va vc:=
 h.same k.size (k.block _ h.r4.z) (k.block _ h.r5.z) λb q=>k.block b (h.row.block b q).2
def ru.kp(h:ru w b4 b5 b6 B va vc)(k:KpI lo base w w')(h4:base<=b4)(h5:base<=b5)(h6:base<=b6):ru w' b4 b5 b6 B va vc:=
 h.same k.size (k.box _ _ h.r4.z h4 (by rw[h.r4.c 0];rfl) ada.p) (k.box _ _ h.r5.z h5 (by rw[h.r5.c 0];rfl) ada.p) λb q=>by
  have⟨x,hx⟩:=h.fst b q;have:=h.row.block b q;exact k.box _ _ this.2 ae hx (UH x).p
def db.fst(h:db QBd 107 2 w b6 va vc B)(hB:B≠[]):∀b,(j7 va B.length vc).ownBlock=some b->∃x,w.cell? ⟨b,0,none⟩=some (.string x):=λb q=>by
 have⟨nk,np,cs,e,aE,hq⟩:=h.v oV;injection e with e1 _ e2;subst e1 e2;have hl:=List.length_pos_iff.2 hB;obtain e|⟨g,rfl,h1,h2,h3⟩:=aE
 .exact absurd e hB
 .have hg:g=b:=by simpa[j8]using q
  subst hg;have:=h3 0 hl 0 aA;rw[(hq 0 hl).1]at this;exact⟨_,by simpa using this⟩
def ru.grow{S}{ty}{eb}(E:ZG ty eb lo base rs nl S){cnt}{w5 w6}{n}{q3 c3}{cs}(h:ru w b4 b5 b6 B va vc)(hS:S w cnt mks s Γ)(h45:b4<b5/\b5<b6)(hb6:b6<=w.heap.size)(hb:base<=b4)(gJ:lo<=base)(k:Bq w w5)(MJ:∀i(h:i<B.length),QBd w (λb=>b6<=b/\b<w.heap.size/\(j7 va B.length vc).ownBlock≠some b) B[i]<|cs i)(h6:w6.ownsRow b6 107 2 (.slice (some ⟨q3,0,none⟩) (B.length+1) c3) (B.length+1) (bL cs 2 B.length++[.string n,.string<|bs<|wr dec (vars [] T) T 0]))(hg:(w5.alloc<|.cells #[.string n,.string<|bs<|wr dec (vars [] T) T 0] 107).grownBy w6 (j7 va B.length vc).ownBlock)(Ws:(j7 (some ⟨q3,0,none⟩) (B.length+1) c3).ownBlock=(j7 va B.length vc).ownBlock\/(j7 (some ⟨q3,0,none⟩) (B.length+1) c3).ownBlock=some (w5.alloc<|.cells #[.string n,.string<|bs<|wr dec (vars [] T) T 0] 107).heap.size):
 S (w6.setCell ⟨b5,5,none⟩<|.slice (some ⟨q3,0,none⟩) (B.length+1) c3) cnt mks s Γ/\ru (w6.setCell ⟨b5,5,none⟩<|.slice (some ⟨q3,0,none⟩) (B.length+1) c3) b4 b5 b6 (B++[(n,T)]) (some ⟨q3,0,none⟩) c3/\Below lo w (w6.setCell ⟨b5,5,none⟩<|.slice (some ⟨q3,0,none⟩) (B.length+1) c3):=by
 obtain⟨W,hW⟩:∃W,W=w5.alloc (Cv #[Sv n,Sv<|bs<|wr dec (vars [] T) T 0] 107):=⟨_,rfl⟩;rw[<-hW]at hg Ws;have k5:Bq w5 W:=by rw[hW];exact bw _
 have kW:=k.trans<|k5.mono k.size;have RW:=h.af kW;have BG:=h.row.block;have z5:=h.r5.z;have zW:=kW.size;have F6:Fr (λi=>(Lv va B.length vc).ownBlock=some i) W w6:=⟨hg.os,hg.tape,hg.output,hg.size,λb hb hn=>hg.block b hb<|λe=>hn e.symm⟩;have S6:S w6 cnt mks s Γ:=by
  cases ho:(Lv va B.length vc).ownBlock with
  |none=>exact E.af (E.af hS kW) (F6.none λb q=>by rw[ho]at q;cases q)|some b=>
   have⟨x,hx⟩:=RW.fst b ho;have:=BG b ho;exact E.oth (E.af hS kW) ae hx (UH x) (F6.gL λi q=>by rw[ho]at q;injection q with q;exact q.symm)
 have R4:=RW.r4.fr F6 (λq=>by have:=BG _ q;omega);have R5:=RW.r5.fr F6 (λq=>by have:=BG _ q;omega);have F7:Fr (λi=>i=b5) w6 (w6.setCell ⟨b5,5,none⟩<|Lv (some ⟨q3,0,none⟩) (B.length+1) c3):=(qh (λi=>i=b5) w6).set (jc rfl) 5 _;have aE:db QBd 107 2 w6 b6 (some ⟨q3,0,none⟩) c3 (B++[(n,T)]):=
  db.push (w1:=w5) (W:=W) (lo:=w5.heap.size) (a:=(n,T)) (c:=λj=>if j=0 then Sv n else Sv (bs<|wr dec (vars [] T) T 0)) (cs:=cs) oV (λi hi=>MJ i hi) ⟨rfl,rfl⟩ (by have:=k.size;omega) (λb e=>by have:=BG b e;have:=k.size;omega) k5 h6 hg Ws
 have kX:1<=(B++[(n,T)]).length:=ah;have hlen:(B++[(n,T)]).length=B.length+1:=ah;have agC:=aE.pL (w':=w6.setCell ⟨b5,5,none⟩<|Lv (some ⟨q3,0,none⟩) (B.length+1) c3) oV F7.size (λb q z=>F7.block b z (by show b≠b5;omega));refine⟨E.oth S6 ae (by rw[R5.c 0];rfl) ada F7,⟨R4.fr F7 (by show ¬b4=b5;omega),?_,agC,agC.fst ah⟩,?_⟩
 .rw[hlen];exact R5.mE 5 _ _ (by simp[rq]) (by simp[rq])
 .have hz:=h.r4.z;refine⟨F7.os.trans<|F6.os.trans kW.os,F7.tape.trans<|F6.tape.trans kW.tape,F7.output.trans<|F6.output.trans kW.output,jt zW<|jt F6.size F7.size,λb hb=>?_⟩;have h6z:=F6.size;exact(F7.block b ae (by show ¬b=b5;omega)).trans ((F6.block b ae (λq=>by have:=BG b q;omega)).trans<|kW.block b ae)
end
def ahq.cases{S}{lo base}{rs}{nl}{Q}{r}{cnt}{mks}{s}{Γ}{se}{B}{rc}{t}{b}{w w'}{e}(h:ahq S lo base rs cnt mks s Γ rc t.text b w e w')(hP:LtI nl rs Q r cnt mks s Γ se B rc t b):KpI lo base w w'/\∃T ta xa aC s1,e=.returned (.tuple #[.iface ta xa,.agg Mz])/\eN w' (λ_=>True) T (.iface ta xa)/\Wf T/\size T<=48/\S w' aC mks s1 (In.dN Γ t.text ⟨T,vars [] T⟩)/\PI nl rs Q r aC mks s1 (In.dN Γ t.text ⟨T,vars [] T⟩) ⟨se.ty,se.km,se.nm++[t.text]⟩ (B++[(t.text,T)]):=by
 obtain⟨hk,o,ho,hq⟩:=h;have hp:=hP o ho;refine⟨hk,?_⟩
 cases o with
 |error z=>exact hq.elim|ok p=>grind
def LtI.ok{rs:Bool}{nl:List BA}{Q:List (BA×Ty)->Option In.Ft->Prop}{r:List Dc}{cnt:Nat}{mks:In.Mks}{s:In.St}{Γ:In.Env}{se:SN}{B:List (BA×Ty)}{rc:Bool}{t:qm}{b:Nd}(hP:LtI nl rs Q r cnt mks s Γ se B rc t b)(hF:∀B F,Q B F->F=none):∀o,In.boundM rc t.text b (In.inf mks b) Γ s o->LetOk o:=λo ho=>by
 have hp:=hP o ho
 cases o with
 |error z=>cases hF _ _ hp|ok p=>exact Nat.le_of_not_lt λq=>by cases hF _ _ (hp.1 q)
def XD:Tryz.prog.underlying 39=some (.slice 107):=qkr
def ade:(Tryz.prog.info? 107).map (λi=>(i.zero,i.size,i.bytes))=some (some<|.agg #[.string ⟨#[]⟩,.string ⟨#[]⟩],2,32):=qkr
def alY(S:World->Nat->In.Mks->In.St->In.Env->Prop)nl rs Q w lo(l:List Dc)gk c wr:=
 ∃(j cnt:Nat)(mks:In.Mks)(s:In.St)(Γ:In.Env)(e:SN)(B:List (BA×Ty))(va:Option Addr)(vc:Nat),Hid (gk=l.length-j)/\j<=l.length/\c=Nv j/\S wr cnt mks s Γ/\PI nl rs Q (l.drop j) cnt mks s Γ e B/\B.length<=j/\ru wr (w.heap.size+1) (w.heap.size+1+1) (w.heap.size+3) B va vc/\Below lo w wr/\w.heap.size+3<=wr.heap.size
def anx(Q:List (BA×Ty)->Option In.Ft->Prop)lo w(e:Ending)w':=∃B F va vc,Q B F/\e=.returned (Vu (fF F) (fL F) (fR F) va B.length vc)/\Qf w' (λb=>w.heap.size<=b) B va vc/\Below lo w w'
def KpI.Nj{lo:Nat}(k:KpI lo base w w')(h:lo<=w.heap.size):Below lo w w':=⟨k.os,k.tape,k.output,k.size,λb hb=>k.low b ae hb⟩
def adf{a}(h:Fr S a w)(hb:S b\/a.heap.size<=b)v0 v1 v2 v3 v4 v5 v6:Fr S a (((((((w.setCell ⟨b,0,none⟩ v0).setCell ⟨b,1,none⟩ v1).setCell ⟨b,2,none⟩ v2).setCell ⟨b,3,none⟩ v3).setCell ⟨b,4,none⟩ v4).setCell ⟨b,5,none⟩ v5).setCell ⟨b,6,none⟩ v6):=((((((h.set hb 0 v0).set hb 1 v1).set hb 2 v2).set hb 3 v3).set hb 4 v4).set hb 5 v5).set hb 6 v6
def aji{wr}{lo:Nat}{B}(h:ru wr (w.heap.size+1) (w.heap.size+1+1) (w.heap.size+3) B va vc)(k:Below lo w wr)(hl:lo<=w.heap.size)(hz:w.heap.size+3<=wr.heap.size)(Hm:lo<=wr.heap.size){v0 v1 v2 v3 v4 v5 v6}:
 Qf (((((((wr.setCell ⟨w.heap.size+1,0,none⟩ v0).setCell ⟨w.heap.size+1,1,none⟩ v1).setCell ⟨w.heap.size+1,2,none⟩ v2).setCell ⟨w.heap.size+1,3,none⟩ v3).setCell ⟨w.heap.size+1,4,none⟩ v4).setCell ⟨w.heap.size+1,5,none⟩ v5).setCell ⟨w.heap.size+1,6,none⟩ v6) (λb=>w.heap.size<=b) B va vc/\Below lo w (((((((wr.setCell ⟨w.heap.size+1,0,none⟩ v0).setCell ⟨w.heap.size+1,1,none⟩ v1).setCell ⟨w.heap.size+1,2,none⟩ v2).setCell ⟨w.heap.size+1,3,none⟩ v3).setCell ⟨w.heap.size+1,4,none⟩ v4).setCell ⟨w.heap.size+1,5,none⟩ v5).setCell ⟨w.heap.size+1,6,none⟩ v6):=by
 have kk:=adf (qh (λb=>b=w.heap.size+1) wr) (b:=w.heap.size+1) (jc rfl) v0 v1 v2 v3 v4 v5 v6;refine⟨Qf.move ⟨h.row.v oV,h.row.cap⟩ kk.size (λb p z=>kk.block b z (by show ¬b=w.heap.size+1;omega)) (λb p _=>ae),Fr.Nj k Hm kk (λx q=>by subst q;omega)⟩
def afF(HAt:∀nd,WN nd->AtC nd){S}{ty}{eb lo:Nat}(E:ZG ty eb lo base rs nl S){Q}{l}{cnt}{se}(hr:RowV QD 1 w (·<lo) l u)(hl:l.length<=802)(gJ:lo<=base)(hbs:base<=w.heap.size)(hS:S w cnt mks s Γ)(hP:PI nl rs Q l cnt mks s Γ se [])(hF:∀B F,Q B F->F=none):
 Cq 16 #[.agg #[u],.iface ty<|Pv eb] w (anx Q lo w):=by
 obtain⟨va,vc,cs,rfl,HW,HQ⟩:=hr;have⟨fM,hfM,hcM,HM'⟩:=E.mks;have⟨fT,hfT,hcT,HL'⟩:=E.lts;have HM:=λw cnt mks s Γ t vs ms f x vv vm=> @HM' w cnt mks s Γ t vs ms f x vv vm;have HL:=λw cnt mks s Γ rc st x v a y dom=> @HL' w cnt mks s Γ rc st x v a y dom;have⟨i0,m6,ku,gS,gC⟩:=info_parts ade;obtain⟨W1,Hw⟩:∃W1,W1=((w.alloc<|Cv #[Lv va l.length vc] 48).alloc<|Cv #[Iv 0,Iv 0,Iv 0,Sv ⟨#[]⟩,Sv ⟨#[]⟩,Lv none 0 0,Lv none 0 0] 42).alloc (Cv #[Iv 0,Iv 0,Iv 0,Sv ⟨#[]⟩,Sv ⟨#[]⟩,Lv none 0 0,Lv none 0 0] 42):=⟨_,rfl⟩;have k1:Bq w W1:=by rw[Hw];exact((bw _).alloc ah _).alloc bi _
 have z1:W1.heap.size=w.heap.size+3:=by rw[Hw];simp
 have R1:ru W1 (w.heap.size+1) (w.heap.size+1+1) (w.heap.size+3) [] none 0:=(by
  refine⟨?_,?_,db.nil _ _ _ _ _,λb q=>by simp[j8]at q⟩
  .rw[Hw];have:=(qn (w.alloc<|Cv #[Lv va l.length vc] 48) (rq none 0 0) 42).alloc<|Cv (rq none 0 0) 42;simpa[rq]using this
  .rw[Hw];have:=qn ((w.alloc<|Cv #[Lv va l.length vc] 48).alloc<|Cv (rq none 0 0) 42) (rq none 0 0) 42;simpa[rq]using this)
 have S1:=E.af hS k1;have K1:=k1.mono<|Nat.le_trans gJ hbs;have HP:=ai hP;have HF:=ai hF;clear hS hP k1 HM' HL' hF;go_enter func16,ntmps16;go_wp2_with fail;rw[<-Hw];clear Hw;go_loopg[15] l.length (λgk c wr=>alY S nl rs Q w lo l gk c wr)
 case atStart=>exact⟨0,cnt,mks,s,Γ,se,[],none,0,ai rfl,jy _,rfl,S1,HP,br _,R1,K1,ae⟩
 case round=>
  clear S1 HP R1 K1 z1;obtain⟨j,aC,adC,s',Γ',se',B,nk,np,bE,hj,rfl,hS,hP,hB,hR,HB,hzr⟩:=hrel;have hlw:lo<=wr.heap.size:=ae;by_cases aZ:j<l.length
  .have hd:(j:Int)<(l.length:Int):=ae;obtain⟨g,rfl,hg,-,oY⟩:∃g,va=some ⟨g,0,none⟩/\g<lo/\g<w.heap.size/\∀i,i<l.length->∀j,j<1->w.cell? ⟨g,i*1+j,none⟩=some (cs i j):=by
    obtain e|e:=HW
    .exact absurd aZ qBq
    .exact e
   have d0:=(j3 (a:=⟨g,j*1+0,none⟩)<|HB.block g hg).trans<|oY j aZ 0 ae;simp only[jz,Nat.add_zero]at d0;have Mw:=(show PD w (·<lo) l[j] (cs j 0)from HQ j aZ).move HB.size (λb p _=>HB.block b p)<|λ_ p _=>p;rw[jk aZ]at hP;generalize l[j]=dj at hP Mw;clear oY
   cases dj with
   |ty t vs ms=>
    obtain⟨f0,u0,vv,vm,ev,-,-,hv,-,hm⟩:=Mw;rw[ev]at d0;clear ev;obtain⟨pa,pc,cs1,e1,-⟩:=id hv;obtain⟨ma,mc,cs2,e2,-⟩:=id hm;subst e1 e2;have⟨II,hP'⟩:=hP.ty;have kA:Bq wr (wr.alloc<|Cv #[Iv f0,Iv u0,Nv t.aD,Nv t.t9,Sv t.text,Lv pa vs.length pc,Lv ma ms.length mc] 95):=bw _;have HC:=HM _ _ _ _ _ _ _ _ f0 u0 _ _ (E.af hS kA) (hv.move c_ kA.size (λb _ z=>kA.block b z)<|λ_ p _=>p) (hm.move bP kA.size (λb _ z=>kA.block b z)<|λ_ p _=>p) II;have HR:=hR.af kA;have HPP:=ai hP';have KA:=HB.trans<|kA.mono hlw;clear hS hP hP' hR hv hm II kA;go_wp2_with fail;refine HC.mono ?_;rintro e w3⟨rfl,k3,S3⟩;have R3:=HR.kp k3 ae ae ae;have K3:=KA.trans<|k3.Nj bi;have z3:=k3.size;simp at z3;clear HC HR KA k3
    go_wp2
    go_roundg(l.length-(j+1))
    case measure=>rw[uh bE];omega
    case rel=>exact⟨j+1,aC,_,s',Γ',_,B,nk,np,ai rfl,ae,d_,S3,HPP,ae,R3,K3,ae⟩
   |lt rc t b=>
    obtain⟨f0,u0,vb,ev,-,-,hpe⟩:=Mw;rw[ev]at d0;clear ev;obtain⟨tb,xb,e1⟩:∃a x,vb=Fv a x:=by cases hpe<;>exact⟨_,_,rfl⟩
    subst e1;have⟨g1,g2,g3,g4,g5,HG⟩:=hP.lt;have kA:Bq wr (wr.alloc<|Cv #[Iv f0,Iv u0,.bool rc,Nv t.aD,Nv t.t9,Sv t.text,Fv tb xb] 77):=bw _;have B9:Bx (wr.alloc<|Cv #[Iv f0,Iv u0,.bool rc,Nv t.aD,Nv t.t9,Sv t.text,Fv tb xb] 77) wr.heap.size #[Iv f0,Iv u0,.bool rc,Nv t.aD,Nv t.t9,Sv t.text,Fv tb xb]:=qn _ _ _;have HC:=HL _ _ _ _ _ _ _ _ _ t.aD t.t9 _ (E.af hS kA) (hpe.move kA.size (λb _ z=>kA.block b z)<|λ_ p _=>p) g5 hP.nm g1 g2 g3 g4<|HG.ok<|uh HF;have HR:=hR.af kA;have HB9:=ai B9;have KA:=HB.trans<|kA.mono hlw;clear hS hP hR hpe g1 g2 g3 g4 g5 kA B9;go_wp2_with fail;refine HC.mono ?_;intro e w2 alZ;have⟨k2,hc⟩:=alZ.cases HG;have R2:=ai<|HR.kp k2 ae ae ae;have K2:=ai<|KA.trans<|k2.Nj bi;have B92:=ai (k2.bx HB9 ae rfl (by intro q;simp));have z2:=k2.size;simp at z2;clear HC HR KA k2 alZ HG HB9;obtain⟨T,ta,xa,dI,s2,rfl,hT,hw,hs,S2,P2⟩:=hc
    .obtain⟨wD,hwD⟩:∃wD,wD=w2.alloc (Cv #[Iv 0,Iv 0,Iv 0,Zv,Zv] 100):=⟨_,rfl⟩;have kD:Bq w2 wD:=by rw[hwD];exact bw _
     have zD:=kD.size;have RD:=ai<|R2.af kD;have KD:=K2.trans<|kD.mono ae;have SD:=E.af S2 kD;have BD:=ai<|B92.below kD;have HT4:∀W,Bq wD W->eN W (λb=>b<wD.heap.size) T (Fv ta xa):=λW k=>(hT.move kD.size (λb _ z=>kD.block b z)<|λb _ z=>(jx z kD.size:b<wD.heap.size)).move k.size (λb _ z=>k.block b z)<|λb p _=>p;have HPP:=ai P2;have M5:=Md T [];simp only[eF]at M5;have⟨cs',OW,HPE⟩:=RD.row;have ME:=cN OW
     have FIN:∀(w5 w6:World)(q3 c3:Nat)(c:Value),Bq wD w5->w6.ownsRow (w.heap.size+3) 107 2 (Lv (some ⟨q3,0,none⟩) (B.length+1) c3) (B.length+1) (bL cs' 2 B.length++[Sv t.text,Sv<|bs<|qd dec (vars [] T) T 0])->(w5.alloc<|Cv #[Sv t.text,Sv<|bs<|qd dec (vars [] T) T 0] 107).grownBy w6 (Lv nk B.length np).ownBlock->((Lv (some ⟨q3,0,none⟩) (B.length+1) c3).ownBlock=(Lv nk B.length np).ownBlock\/(Lv (some ⟨q3,0,none⟩) (B.length+1) c3).ownBlock=some (w5.alloc<|Cv #[Sv t.text,Sv<|bs<|qd dec (vars [] T) T 0] 107).heap.size)->c=Iv ((j:Int)+1)->alY S nl rs Q w lo l (l.length-(j+1)) c (w6.setCell ⟨w.heap.size+1+1,5,none⟩<|Lv (some ⟨q3,0,none⟩) (B.length+1) c3):=(by
      intro w5 w6 q3 c3 c k5 h6 hg Ws hc;have⟨s7,r7,k7⟩:=RD.grow E SD ae ae ae gJ k5 HPE h6 hg Ws;have z5:=k5.size;have z6:=hg.size;simp at z6
      exact⟨j+1,dI,_,s2,_,_,_,_,_,ai rfl,ae,by rw[hc];go_num,s7,HPP,bi,r7,KD.trans k7,by simp[World.setCell];omega⟩)
     have A1:wD.cell? ⟨w.heap.size+1+1,5,none⟩=some (Lv nk B.length np):=RD.r5.c 5;have A2:wD.cell? ⟨wr.heap.size,5,none⟩=some (Sv t.text):=BD.c 5;have al0:=ai hwD;have z5b:w.heap.size+3<=w2.heap.size:=ae;clear hT S2 P2 kD R2 K2 B92 hwD;go_wp2_with fail;rw[<-uh al0];clear al0
     go_region_law(first
      |(go_simp;go_at_call 30;go_loud(refine adz.mono ?_);rintro e w4⟨cb,nb,mb,rfl,C4,N4,hm4,al1,hb4⟩;have k4:Bq wD w4:=(qe wD.heap.size wD).drew.trans hb4;have A41:w4.cell? ⟨w.heap.size+1+1,5,none⟩=some (Lv nk B.length np):=(RD.r5.below k4).c 5;have A42:w4.cell? ⟨wr.heap.size,5,none⟩=some (Sv t.text):=(BD.below k4).c 5;have anz:wD.heap.size<=mb:=hm4;have HWr:=ai (adA HAt (HT4 w4 k4) (λb p=>by have:b<wD.heap.size:=p;omega) N4 C4 al1 hw hs ae);have K4:=ai k4;clear C4 N4 hm4 al1 hb4 k4;dsimp only)
      |(go_simp;go_at_call 50;go_loud(refine HWr.mono ?_);rintro e w5⟨rfl,-,F5⟩;have k5:Bq wD w5:=Fr.Nj K4 K4.size F5 (λx q=>by subst q;exact anz);have A51:w5.cell? ⟨w.heap.size+1+1,5,none⟩=some (Lv nk B.length np):=(RD.r5.below k5).c 5;have A52:w5.cell? ⟨wr.heap.size,5,none⟩=some (Sv t.text):=(BD.below k5).c 5;have O5:=ai<|gT OW k5;have z5:=k5.size;have z25:w.heap.size+1+1<w5.heap.size:= ae;have z26:wr.heap.size<w5.heap.size:= ae;have K5:=ai k5;clear F5 k5 HWr;dsimp only)
      |(refine fk rfl (.tmp 44) (.tmp 53) 39 rfl (w.heap.size+3) 107 i0 _ 2 32 XD m6 ku gS gC rfl aA (Lv nk B.length np) B.length _ rfl (gT O5<|bw _) ⟨w5.heap.size,0,none⟩ 1 1 [Sv t.text,Sv<|bs<|qd dec (vars [] T) T 0] rfl rfl (nS _ _ _ _ ah) (by intro u hu;simp at hu;obtain rfl|rfl:=hu<;>rfl) NR ae bi ?_;intro v6 w6 nT I8 vU;obtain⟨q3,c3,rfl⟩:=rR nT ae;have ZB:=(RD.r5.below K5).below<|bw<|Cv #[Sv t.text,Sv<|bs<|qd dec (vars [] T) T 0] 107;have B6:=ZB.same I8.size (I8.block _ ZB.z (λe=>by have:=(ME _ e.symm).1;omega));have A6:w6.cell? ⟨w.heap.size+1+1,5,none⟩=some (Lv nk B.length np):=B6.c 5;have A7:w6.frozen? ⟨w.heap.size+1+1,5,none⟩=false:=B6.f 5;have OW6:=ai nT;have HG6:=ai I8;have HL6:=ai vU;clear nT I8 vU ZB B6))
     all_goals(
      go_wp2
      go_roundg(l.length-(j+1))
      case measure=>rw[uh bE];omega
      case rel=>exact FIN _ _ _ _ _ K5 OW6 HG6 HL6 d_)
  .have hd:decide ((j:Int)<(l.length:Int))=false:=bi;rw[List.drop_of_length_le ae]at hP;have hQ:=ai hP.end;have HR:=ai hR;have⟨c5,f5,y5⟩:=hR.r5;have⟨c4,f4,y4⟩:=hR.r4;simp only[rq]at c5 c4;clear hP hR;go_wp2_with fail;have⟨p1,p2,p3⟩:=HR.r4.aiJ rfl (Iv 0) (Iv 0) (Iv 0) (Sv ⟨#[]⟩) (Sv ⟨#[]⟩) (Lv nk B.length np) (Lv none 0 0);refine bodyPost_ret (v:=Av #[Iv 0,Iv 0,Iv 0,Sv ⟨#[]⟩,Sv ⟨#[]⟩,Lv nk B.length np,Lv none 0 0]) (by simp[results,Tryz.results16,go_sem,p1]) rfl ⟨B,none,nk,np,hQ,rfl,?_⟩;exact aji HR HB ae ae ae
end
def pQ(ls:List (List UInt8)):List Value:=ls.map λl=>.string<|bs l
abbrev TxW(w:World)(g:Nat)(ls:List (List UInt8)):Prop:=Ms.UC w g ls.length λo=>.string<|bs<|ls.getD o []
def XC(ls:List (List UInt8))(l:List UInt8):pQ ls++[.string<|bs l]=pQ (ls++[l]):=by simp[pQ]
def adb(ls:List (List UInt8)):∀u∈pQ ls,u.oneCell'=true:=by
 intro u hu;obtain⟨c,_,rfl⟩:=List.mem_map.1 hu;rfl
def UI(h:pP w base v (pQ ls))(hn:0<ls.length):∃g cp,v=.slice (some ⟨g,0,none⟩) ls.length cp/\base<=g/\ls.length<=cp/\TxW w g ls:=by
 have hl:(pQ ls).length=ls.length:=by simp[pQ]
 have h':=h;obtain⟨h1,h2⟩:=h;rw[hl]at h2;obtain⟨_,q⟩|⟨g,cp,jL,rfl,hg,hh,r,_,_,ht⟩:=h2
 .omega
 .refine⟨g,cp,rfl,hg,r,(Array.getElem?_eq_some_iff.1 hh).1,λo=>by simp[World.frozen?,hh],λo ho=>?_⟩;have e:(pQ ls)[o]? =some (Sv<|bs<|ls.getD o []):=by simp[pQ,List.getElem?_eq_getElem ho,ji]
  rw[<-ht,jz,List.getElem?_take_of_lt ho]at e;simp only[j5,hh];simpa using e
def TxW.put{g:Nat}(h:TxW w g ls){o:Nat}(ho:o<ls.length)(x:List UInt8):TxW (w.setCell ⟨g,o,none⟩<|.string<|bs x) g (ls.set o x):=by
 have q:=h.set ho<|Sv<|bs x;refine⟨q.z,q.f,λp hp=>?_⟩;rw[List.length_set]at hp;rw[q.c p hp];by_cases e:p=o
 .subst e;simp[ji,List.getElem?_set,ho]
 .rw[if_neg e];simp[ji,List.getElem?_set,qi e]
structure Bn(w0 w:World)(g g2:Nat)(ls ms:List (List UInt8)):Prop where
 a:TxW w g ls
 m:TxW w g2 ms
 n:g≠g2
 k:Bq w0 w
 z:w0.heap.size<=g2
section
variable {g g2:Nat} {ms:List (List UInt8)}
def Bn.low(h:Bn w0 w g g2 ls ms)(k:Bq w w'):Bn w0 w' g g2 ls ms:=⟨h.a.low k,h.m.low k,h.n,h.k.trans<|k.mono h.k.size,h.z⟩
def Bn.put(h:Bn w0 w g g2 ls ms){o:Nat}(ho:o<ms.length)(x:List UInt8):Bn w0 (w.setCell ⟨g2,o,none⟩<|.string<|bs x) g g2 ls (ms.set o x):=
 ⟨h.a.same yG<|qf _ _ _ _ h.n,h.m.put ho x,h.n,h.k.setCell (p:=⟨g2,o,none⟩) h.z _,h.z⟩
end
def Ms.Mf(N:Nat):∀(A B:List Ms.Sk),Ms.bZ N B A<=A.length
 |[],_=>jy _|p::r,B=>by
  have:=Ms.Mf N r<|B++[p];simp only[Ms.bZ,de];split<;>omega
end Go.Proofs.YtopmodaakdnliaaGreatDoor

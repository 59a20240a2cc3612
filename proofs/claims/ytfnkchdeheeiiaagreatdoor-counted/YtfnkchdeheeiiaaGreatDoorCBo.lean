import Derived.Test.YtfnkchdeheeiiaaGreatDoorCVd
import Derived.Test.YtfnkchdeheeiiaaGreatDoorCXo
set_option linter.all false
set_option maxRecDepth 100000
set_option maxHeartbeats 8000000
namespace Go.Proofs.YtfnkchdeheeiiaaGreatDoor
open In renaming andM->ja,Env->jc,St->jd,inf->jf,MM->jh,gR->ji,gC->jj,cS->jk,eh->jl,Mks->jm,via->jo,p_->jp,jV->jq,zZ->jt,Rn->ju,arr->jv,mI->jx,over->jy,kS->jz,ij->j3,Tw->j5,fy->j6,df->j7,uQ->j8,cH->j9,pA->qc,qH->qd,v9->qe,Me->qf,qI->qg,Kp->qh,Ft->qi,DW->qk,mono->ql,z_->qm,DX->qn,S_->qp,mT->qr,dN->qs,lP->qt,Jw->qu,qA->qv
open Or renaming inr->qw,inl->qx
open _root_.List renaming drop_eq_getElem_cons->qy,take_succ_eq_append_getElem->qz,take_length->q9,nodup_nil->xc,getElem_mem->xd,drop_length->xf,eq_nil_of_length_eq_zero->xg,mem_cons_of_mem->xh,getElem_of_mem->xi,mem_singleton->xj,mem_append->xk
open Go.Proofs.Tryz renaming prog->xm,results352->xn,func366->xo
open _root_.Nat renaming le_trans->xq,lt_of_lt_of_le->xt,zero_le->xw,pos_of_ne_zero->xy
open Go.World renaming cell?_of_block->zd
open Go.Value renaming string->zh
open Go.RowKit.Below renaming refl->zo,heap_setCell->zu
open _root_.Array renaming getElem?_setIfInBounds_ne->zv,getElem?_eq_getElem->zx
open Go.Instr renaming lookup->zy
open Ne renaming symm->z9
open Go Go.RowKit Go.ChangeMaps Go.MapKept Un Proofs.Tryz
variable {ops:Array Oper} {cs:Array Value} {k st:BA} {dom Tx:BA->Prop} {rc:Bool} {e:Ending} {g g1 Γ Jb uR:jc} {z:qi} {q:jh Un.Ty} {mk:jm} {R ρ:ju} {c d:j5} {s s0 s1:jd} {l:List Nat} {L:List Nd} {rest:List Oper} {D D1 DD S S1 S2 a b b1 b2 base cb aB ak f gb gv j kb iz n r sc t:Nat} {F P Q Λ:Nat->Prop} {κ:Nat->Un.Ty} {nd x:Nd} {o:Oper} {sa:Option Addr} {α:Type} {ta:TypeId} {T U X m y:Un.Ty} {u v vl vr vx xa:Value} {W w w' w0 w1:World}
abbrev Mf:KL xm 9 zh (λ_ _=>True):=KL.str Tryz.underlying9
def str_inj:∀x y,zh x=zh y->x=y:=yV
def pB(w:World)(P:Nat->Prop)(sa:Option Addr)l:=l=[]\/∃g,sa=some ⟨g,0,none⟩/\P g/\g<w.heap.size/\∀i(h:i<l.length),w.cell? ⟨g,i,none⟩=some (Nv<|l[i])
def mJ w P(c:j5)(v:Value):=∃ta xa sa sc,v=.agg #[.iface ta xa,.slice sa c.any.length sc]/\TW w P 900000 c.of (.iface ta xa)/\pB w P sa c.any
def bM w P b(Γ:jc):=∃L,MG zh w b L/\(∀x,aY x L=none->Γ x=none)/\∀x v,aY x L=some v->∃c,Γ x=some c/\mJ w P c v
theorem pB.move(h:pB w P sa l)(hs:w.heap.size<=w'.heap.size)(hb:∀b,P b->b<w.heap.size->w'.heap[b]? =w.heap[b]?)(hq:∀b,P b->b<w.heap.size->Q b):pB w' Q sa l:=by
 obtain h|⟨g,h1,h2,h3,h4⟩:=h
 .exact qx h
 .exact qw ⟨g,h1,hq g h2 h3,xt h3 hs,λi hi=>(zd (a:=⟨g,i,none⟩)<|hb g h2 h3).trans<|h4 i hi⟩
theorem mJ.move{c}{v}(h:mJ w P c v)(hs:w.heap.size<=w'.heap.size)(hb:∀b,P b->b<w.heap.size->w'.heap[b]? =w.heap[b]?)(hq:∀b,P b->b<w.heap.size->Q b):mJ w' Q c v:=by
 obtain⟨ta,xa,sa,sc,h1,h2,h3⟩:=h;exact⟨ta,xa,sa,sc,h1,h2.move hs hb hq,h3.move hs hb hq⟩
def mJ.af(h:mJ w P c v)(hb:Bq w w'):mJ w' P c v:=h.move hb.size (λb _ hz=>hb.block b hz)<|λ_ p _=>p
def bM.lt(h:bM w P b Γ):b<w.heap.size:=qAr
theorem bM.move(h:bM w P b Γ)(hs:w.heap.size<=w'.heap.size)(bR:w'.heap[b]? =w.heap[b]?)(hb:∀b,P b->b<w.heap.size->w'.heap[b]? =w.heap[b]?)(hq:∀b,P b->b<w.heap.size->Q b):bM w' Q b Γ:=by
 obtain⟨L,h1,h2,h3⟩:=h;exact⟨L,h1.same bR,h2,λx v hx=>by have⟨c,e,hc⟩:=h3 x v hx;exact⟨c,e,hc.move hs hb hq⟩⟩
def bM.af(h:bM w P b Γ)(hb:Bq w w'):bM w' P b Γ:=h.move hb.size (hb.block b h.lt) (λb _ hz=>hb.block b hz)<|λ_ p _=>p
def bM.wide(h:bM w P b Γ)(hq:∀x,P x->Q x):bM w Q b Γ:=h.move (br _) rfl (λ_ _ _=>rfl) (λb p _=>hq b p)
def bM.fr{S}(h:bM w P b Γ)(hf:Fr S w w')(hb:¬S b)(hS:∀x,P x->x<w.heap.size->¬S x):bM w' P b Γ:=h.move hf.size (hf.block b h.lt hb) (λx p z=>hf.block x z<|hS x p z)<|λ_ p _=>p
def bM.new(w:World)P:bM (w.alloc<|.map #[] 0) P w.heap.size (λ_=>none):=⟨[],MG.new _ w,λ_ _=>rfl,λx v h=>ZC⟩
def mU{a}{F}(hg:o.guard=none)m x v(qB:o.op=Op.insert 216 m x v\/o.op=Op.mapUpdate 216 m x v)(hm:a.eval m=Mv b)(h:bM w P b Γ)(hP:¬P b)(hc:mJ w P c u)n(hx:a.eval x=.string n)(hv:a.eval v=u)(hK:∀w',bM w' P b (ji Γ n c)->One b w w'->wpList xm ops F rest (a.put o.dst undef) w'):
 wpList xm ops F (o::rest) a w:=by
 obtain⟨L,h1,h2,h3⟩:=h;refine b8 Mf dO hg m x v qB hm h1 n u hx hv λw' hM o=>hK w' ⟨_,hM,λy hy=>?_,λy z hy=>?_⟩ o
 .rw[aJ]at hy;by_cases e:n=y
  .grind
  .rw[if_neg e]at hy;simp only[ji,if_neg<|z9 e];exact h2 y hy
 .have mv:∀{c v},mJ w P c v->mJ w' P c v:=λh=>h.move Jc (λx p _=>o.block x<|λe=>hP<|e▸p)<|λ_ p _=>p;rw[aJ]at hy;by_cases e:n=y
  .rw[if_pos e]at hy;injection hy with hy;subst hy e;exact⟨c,by simp[ji],mv hc⟩
  .rw[if_neg e]at hy;have⟨c',q1,q2⟩:=h3 y z hy;exact⟨c',by simp only[ji,if_neg<|z9 e];exact q1,mv q2⟩
open Classical in
noncomputable def ZD (uR Jb:jc) (done:List BA) (x:BA):Option j5:=if x∈done then jy uR Jb x else Jb x
def af2 P b1 b2(Jb uR:jc)L w gk wr:=
 ∃done,IG zh wr w.heap.size b2 L done gk/\bM wr P b1 (ZD uR Jb done)/\Fr (λi=>i=b1) w wr
def ZE(h1:bM w P b1 Jb)(h2:bM w P b2 uR)(hP:¬P b1)(bA:∀x,P x->x<w.heap.size)(hn:b1≠b2):
 Cq 348 #[Mv b1,Mv b2] w λe w'=>e=.returned (.tuple #[])/\bM w' P b1 (jy uR Jb)/\Fr (λi=>i=b1) w w':=by
 have l1:=h1.lt;have l2:=h2.lt;obtain⟨L,m2,q1,q2⟩:=h2;obtain⟨o,cnt,Y_,kT⟩:=m2.range dO;have k1:Bq w (w.alloc o):=bw _;have HI:=ai kT;have H1:=h1.af k1;have K1:=ai k1;have Q:=And.intro q1 q2;go_enter func348,ntmps348
 go_wp2
 go_loopg[] cnt (λgk wr=>af2 P b1 b2 Jb uR L w gk wr)
 case atStart=>
  refine⟨[],HI,?_,Fr.of K1⟩;have e:ZD uR Jb []=Jb:=by funext x;simp[ZD]
  rw[e];exact H1
 case round=>
  obtain⟨done,HI,HE,hF⟩:=hrel;have HF:=ai hF;have hiz:=HI.lt;have zr:=hF.size;rcases HI.next (P:=xm) str_inj with⟨ha,Bz⟩|⟨x,u,w2,aB,hxd,Mg,Bz,DY,DZ,u_,eG,hen⟩
  .go_wp2
   go_end0;refine⟨rfl,?_,HF⟩;have e:ZD uR Jb done=jy uR Jb:=by
    funext y;unfold ZD;by_cases q:y∈done
    .rw[if_pos q]
    .rw[if_neg q];have:uR y=none:=by
      cases hg:aY y L with
      |none=>exact Q.1 y hg|some v=>exact absurd (ha _ v hg) q
     simp only[jy,this]
   rw[<-e];exact HE
  .obtain⟨c,EC,hc⟩:=Q.2 x u Mg;have yW:=u_;have nP:∀i,P i->¬i=w.heap.size:=λi hi e=>by have:=bA i hi;omega
   have E2:=HE.fr yW ae<|λi p _=>nP i p;have c2:=(hc.move (w':=wr) zr (λi p z=>HF.block i z<|λe=>hP<|e▸p)<|λ_ p _=>p).move (w':=w2) (Q:=P) ae (λi p z=>yW.block i z<|nP i p)<|λ_ p _=>p;obtain⟨ta,xa,sa,sc,rfl,t1,t2⟩:=c2;have Aa:Bq w2 (w2.alloc<|.cells #[.iface ta xa,.slice sa c.any.length sc] 467):=bw _;have E3:=E2.af Aa;have C3:=(mJ.af ⟨ta,xa,sa,sc,rfl,t1,t2⟩ Aa);have I3:=DY.same (Aa.block b2 ae)<|Aa.block w.heap.size ae;have K3:=ai Aa;go_wp2_with(refine mU rfl _ _ _ (qw rfl) rfl E3 hP C3 x rfl rfl ?_;intro w4 H' O';have S4:=ai H';have O4:=ai O';clear H' O');go_roundg aB
   case measure=>exact DZ
   case rel=>
    have o:=uh O4;have k3:=uh K3;have f1:=yW;refine⟨x::done,I3.same (o.block b2<|z9 hn)<|o.block _ ae,?_,?_⟩
    .have e:ZD uR Jb (x::done)=ji (ZD uR Jb done) x c:=by
      funext y;by_cases q:y=x
      .subst q;simp[ZD,ji,jy,EC]
      .simp only[ZD,ji,if_neg q];by_cases r:y∈done
       .rw[if_pos<|xh _ r,if_pos r]
       .rw[if_neg<|λh=>(List.mem_cons.1 h).elim q r,if_neg r]
     rw[e];exact S4
    .have hF:=uh HF;refine⟨o.os.trans<|k3.os.trans<|f1.os.trans hF.os,o.tape.trans<|k3.tape.trans<|f1.tape.trans hF.tape,o.output.trans<|k3.output.trans<|f1.output.trans hF.output,by rw[o.size];have:=k3.size;omega,λi hi hni=>?_⟩;rw[o.block i hni,k3.block i ae,f1.block i ae ae,hF.block i hi hni]
def D5(h:bM w P b Γ):Cq 347 #[Mv b] w λe w'=>e=.returned (Mv w.heap.size)/\bM w' P w.heap.size Γ/\Bq w w'/\w'.heap.size=w.heap.size+1:=by
 obtain⟨L,h1,h2,h3⟩:=h;refine(Tz h1).mono ?_;rintro e w'⟨rfl,m,k,z⟩;exact⟨rfl,⟨L,m,h2,λx v hx=>by have⟨c,q1,q2⟩:=h3 x v hx;exact⟨c,q1,q2.af k⟩⟩,k,z⟩
def ol P(Γ:jc)w(e:Ending)w':=∃b,e=.returned (Mv b)/\w.heap.size<=b/\bM w' P b Γ/\Bq w w'
def bM.low(h:bM w P b Γ):bM w (λx=>P x/\x<w.heap.size) b Γ:=h.move (br _) rfl (λ_ _ _=>rfl) (λb p z=>⟨p,z⟩)
def Ab(h1:bM w P b1 Jb)(h2:bM w P b2 uR):Cq 331 #[Mv b1,Mv b2] w (ol P (jy uR Jb) w):=by
 have HC:=D5 h1.low;have l2:=h2.lt;have H2:=ai h2.low;go_enter func331,ntmps331;go_wp2_with fail;refine HC.mono ?_;rintro e w1⟨rfl,h3,K1,Z1⟩;have HD:=ZE h3 (H2.af K1) ae (λx p=>ae) ae;go_wp2_with fail;refine HD.mono ?_;rintro e w2⟨rfl,H4,Qq⟩
 go_wp2
 go_ret;have k:=K1;have f:=Qq;refine⟨w.heap.size,rfl,br _,H4.wide λx p=>p.1,⟨f.os.trans k.os,f.tape.trans k.tape,f.output.trans k.output,xq k.size f.size,λi hi=>(f.block i (by have:=Z1;omega) ae).trans<|k.block i hi⟩⟩
def iX(Γ:jc)x(c:j5):jy (ji (λ_=>none) x c) Γ=ji Γ x c:=by
 funext y;unfold jy ji;by_cases e:y=x
 .simp[e]
 .simp[e]
def vd(h:bM w P b Γ)x(hc:mJ w P c v):Cq 319 #[Mv b,.string x,v] w (ol P (ji Γ x c) w):=by
 have iE:= @run_makeMap Tryz.prog;have hc0:=hc;obtain⟨ta,xa,sa,sc,rfl,t1,t2⟩:=hc;have k1:Bq w ((w.alloc<|Cv #[Fv ta xa,Lv sa c.any.length sc] 467).alloc<|.map #[] 0):=(bw _).alloc ag _;have E1:=bM.new (w.alloc<|Cv #[Fv ta xa,Lv sa c.any.length sc] 467)<|λi=>P i/\i<w.heap.size;have C1:=(hc0.move (Q:=λi=>P i/\i<w.heap.size) (br _) (λ_ _ _=>rfl)<|λi p z=>⟨p,z⟩).af k1;have K1:=ai k1;rw[aV]at E1;go_enter func319,ntmps319;go_wp2_with(refine mU rfl _ _ _ (Or.inl rfl) rfl E1 ae C1 x rfl rfl ?_;intro w4 H' O';have S4:=ai H';have O4:=ai O';clear H' O');have o:=uh O4;have k:=uh K1;have kk:Bq w w4:=⟨o.os.trans k.os,o.tape.trans k.tape,o.output.trans k.output,by rw[o.size];exact k.size,λi hi=>(o.block i ae).trans<|k.block i hi⟩;have HW:=Ab (h.af kk)<|S4.wide λi p=>p.1;rw[iX]at HW;refine HW.mono ?_;rintro e w5⟨b5,rfl,hb5,H5,K5⟩;have KK:=ai kk
 go_wp2
 go_ret;have kk:=uh KK;exact⟨b5,rfl,xq kk.size hb5,H5,kk.trans<|K5.mono kk.size⟩
def Qr(h:bM w P b Γ)x:Cq 358 #[Mv b,.string x] w (ol P (qd Γ x) w):=by
 have HC:=D5 h.low;go_enter func358,ntmps358;go_wp2_with fail;refine HC.mono ?_;rintro e w1⟨rfl,⟨L,M1,h2,h3⟩,K1,z1⟩;have Q:=And.intro h2 h3;go_wp2_with(refine D6 Mf dO rfl _ _ rfl rfl M1 x rfl ?_;intro w4 H' O';have S4:=ai H';have O4:=ai O';clear H' O');go_ret;have o:=uh O4;have k:=K1;obtain⟨h2,h3⟩:=Q;have hn:=M1.nodup;refine⟨w.heap.size,rfl,br _,⟨_,S4,λy hy=>?_,λy v hy=>?_⟩,⟨o.os.trans k.os,o.tape.trans k.tape,o.output.trans k.output,by rw[o.size];exact k.size,λi hi=>(o.block i ae).trans<|k.block i hi⟩⟩
 .rw[v_ x y hn]at hy;rw[qd];by_cases e:y=x
  .rw[if_pos e]
  .rw[if_neg e];rw[if_neg<|z9 e]at hy;exact h2 y hy
 .rw[v_ x y hn]at hy;by_cases e:x=y
  .rw[if_pos e]at hy;cases hy
  .rw[if_neg e]at hy;have⟨c,q1,q2⟩:=h3 y v hy;refine⟨c,?_,q2.move Jc (λi p _=>o.block i ae)<|λi p _=>p.1⟩;rw[qd];rw[if_neg<|z9 e];exact q1
def af3(l:List Nat)v w gk c(wr:World):=
 ∃j:Nat,Hid (gk=l.length-j)/\j<=l.length/\c=Nv j/\wr=w/\Hid (∀i(hi:i<l.length),i<j->l[i]≠v)
def TA(h:pB w P sa l)(hl:l.length<=1000000000000)v:Cq 373 #[.slice sa l.length sc,Nv v] w λe w'=>∃k,e=.returned (Iv k)/\decide (0<=k)=decide (v∈l)/\w'=w:=by
 go_enter func373,ntmps373
 go_wp2
 go_loopg[8] l.length (λgk c wr=>af3 l v w gk c wr)
 case atStart=>exact⟨0,ai ag,xw _,rfl,rfl,ai<|λi _ hi=>absurd hi ae⟩
 case round=>
  obtain⟨j,c_,hj,rfl,rfl,mS⟩:=hrel;by_cases bh:j<l.length
  .have hd:(j:Int)<(l.length:Int):=ae;obtain⟨g,rfl,_,kC,bU⟩:=h.resolve_left<|λe=>qBs;have cg:=bU j bh;by_cases HV:v=l[j]
   .generalize hx:l[j]=x at*;subst HV
    go_wp2
    go_ret;refine⟨j,rfl,?_,rfl⟩;have:v∈l:=by rw[<-hx];exact xd bh
    simp[this]
   .have dw:((v:Int)==(l[j]:Int))=false:=bQ;generalize hx:l[j]=x at*
    go_wp2
    go_roundg(l.length-(j+1))
    case measure=>rw[uh c_];omega
    case rel=>
     refine⟨j+1,ai rfl,ae,iF,rfl,ai<|λi hi Y'=>?_⟩;by_cases e:i=j
     .subst e;rw[hx];exact z9 HV
     .exact mS i hi ae
  .have hd:decide ((j:Int)<(l.length:Int))=false:=bQ;have ej:j=l.length:=ae;subst ej
   go_wp2
   go_ret;refine⟨-1,rfl,?_,rfl⟩;have:v∉l:=λq=>by
    have⟨i,hi,e⟩:=xi q;exact mS i hi hi e
   simp[this]
def D7(h:pB w P sa l)(hl:l.length<=1000000000000)v:Cq 369 #[.slice sa l.length sc,Nv v] w λe w'=>e=.returned (.bool<|decide (v∈l))/\w'=w:=by
 have HC:=TA (sc:=sc) h hl v;go_enter func369,ntmps369;go_wp2_with fail;refine HC.mono ?_;rintro e w1⟨k,rfl,HK,rfl⟩
 go_wp2
 go_ret;refine⟨?_,rfl⟩;rw[<-HK];rfl
def TB{l V:List BA}(h:l.Nodup)(hs:∀x,x∈l->x∈V):l.length<=V.length:=by
 have key:∀(l V:List (List UInt8)),l.Nodup->(∀x,x∈l->x∈V)->l.length<=V.length:=by
  intro l
  induction l with
  |nil=>intro V _ _;simp|cons a l ih=>
   intro V h hs;have ha:=hs a ag;have hn:=List.nodup_cons.1 h;have:=ih (V.erase a) hn.2 λx hx=>(List.mem_erase_of_ne<|λe=>hn.1 (by rw[<-e];exact hx)).2 (hs x<|by simp[hx]);rw[List.length_erase_of_mem ha]at this;have:0<V.length:=List.length_pos_of_mem ha;simp only[mV];omega
 have:=key (l.map ByteArray.toList) (V.map ByteArray.toList) (by
  rw[List.Nodup,List.pairwise_map];exact h.imp λmK q=>mK<|toList_inj q) (λx hx=>by
  obtain⟨y,hy,rfl⟩:=List.mem_map.1 hx
  exact List.mem_map_of_mem<|hs y hy)
 simpa using this
def CM w b(F:Nat->Prop)r:=∃L,MG oS w b L/\(∀n:Nat,aY (n:Int) L=none->¬F n)/\∀(n:Nat)u,aY (n:Int) L=some u->F n/\∃k:Nat,u=Nv k/\1<=k/\k<=r
def wa:Tryz.prog.underlying 171=some (.map 98 3):=qkr
def CM.same(h:CM w b F r)(hb:w'.heap[b]? =w.heap[b]?):CM w' b F r:=qAs
def CM.lt(h:CM w b F r):b<w.heap.size:=qAr
def CM.new(w:World):CM (w.alloc<|.map #[] 0) w.heap.size (λ_=>False) 0:=⟨[],MG.new _ w,λ_ _ q=>q,λn u h=>ZC⟩
def CM.look(h:CM w b F r)n:∃k:Nat,(zy 171 (Mv b) (Nv n) false).run xm w=.ok (Nv k) w/\k<=r/\(0<k↔F n):=by
 obtain⟨L,h1,h2,h3⟩:=h;have hl:=h1.ms.look KLV wa (wi w) (n:Int) trivial (λ_ _=>trivial) false
 cases hg:aY (n:Int) L with
 |none=>grind|some u=>
  rw[hg]at hl;obtain⟨q1,k,rfl,q2,q3⟩:=h3 n u hg;exact⟨k,by simpa using hl,q3,⟨λ_=>q1,λ_=>ae⟩⟩
def D8{a}{Q}(hg:o.guard=none)m x v(qB:o.op=Op.insert 171 m x v\/o.op=Op.mapUpdate 171 m x v)(hm:a.eval m=Mv b)(h:CM w b F r)n k(hk:k<=r)(hx:a.eval x=Nv n)(hv:a.eval v=Iv ((k:Int)+1))(hK:∀w',CM w' b (λi=>F i\/i=n) (r+1)->One b w w'->wpList xm ops Q rest (a.put o.dst undef) w'):
 wpList xm ops Q (o::rest) a w:=by
 obtain⟨L,h1,h2,h3⟩:=h;refine b8 KLV wa hg m x v qB hm h1 (n:Int) _ hx hv λw' hM o=>hK w' ⟨_,hM,λi hi=>?_,λi u hi=>?_⟩ o
 .rw[aJ]at hi;by_cases e:(n:Int)=(i:Int)
  .grind
  .grind
 .rw[aJ]at hi;by_cases e:(n:Int)=(i:Int)
  .rw[if_pos e]at hi;injection hi with hi;subst hi;exact⟨qw ae,k+1,ag,ae,ae⟩
  .grind
def FxD(Γ:jc)κ(done:List BA)v:=∃y c,y∈done/\Γ y=some c/\aD v (sub κ c.of)/\v∉c.any
def FxR b(Γ:jc)κ L w gk wr:=
 ∃done r,IG zh wr (w.heap.size+1) b L done gk/\CM wr w.heap.size (FxD Γ κ done) r/\done.Nodup/\(∀x,x∈done->Γ x≠none)/\r<=done.length*1000000000000/\Bq w wr
def FyR cm(F:Nat->Prop)r(l any:List Nat)w3 gk v wr:=
 ∃j:Nat,Hid (gk=l.length-j)/\j<=l.length/\v=Nv j/\CM wr cm (λi=>F i\/(i∈l.take j/\i∉any)) (r+j)/\Fr (λi=>i=cm) w3 wr
def CM.le{G}{r'}(h:CM w b F r)(hf:∀n,F n↔G n)(hr:r<=r'):CM w b G r':=by grind[CM]
def Qs(Γ:jc)κ w(e:Ending)w':=∃cm r,e=.returned (Mv cm)/\w.heap.size<=cm/\r<=1000000000000000000/\CM w' cm (qm Γ κ) r/\Bq w w'
def ZF(h:bM w P b Γ)(hk:KW w P kb κ)(hkb:P kb)(hf:tM κ){NL:List BA}(hNL:∀x,Γ x≠none->x∈NL)(hNl:NL.length<=1000000)(ac6:∀x c,Γ x=some c->c.any.length<=1000000000000):
 Cq 364 #[Mv b,Mv kb] w (Qs Γ κ w):=by
 have iE:= @run_makeMap Tryz.prog;have l1:=h.lt;have lk:=hk.lt;obtain⟨L,m1,q1,q2⟩:=h;have k1:Bq w (w.alloc<|.map #[] 0):=bw _;have⟨o,cnt,Y_,kT⟩:=(m1.af k1).range dO;rw[aV]at Y_ kT;have k2:Bq w ((w.alloc<|.map #[] 0).alloc o):=k1.alloc ag _;have HI:=ai kT;have K2:=ai k2;have C0:=(CM.new w).same (w':=(w.alloc<|.map #[] 0).alloc o)<|(MapKept.heap_alloc _ _).2 _ ag;have Q:=And.intro q1 q2;have HK:=ai hk;clear kT k1 k2 m1 q1 q2 hk;go_enter func364,ntmps364
 go_wp2
 go_loopg[] cnt (λgk wr=>FxR b Γ κ L w gk wr)
 case atStart=>exact⟨[],0,HI,C0.le (λn=>⟨λq=>q.elim,λ⟨y,c,q,_⟩=>by simp at q⟩) (br _),xc,(λx hx=>by simp at hx),ag,K2⟩
 case round=>
  clear C0 HI Y_;obtain⟨done,r,HI,hC,HN,HD,hr,HB⟩:=hrel;have HC:=ai hC;have hiz:=HI.lt;have zr:=HB.size;have hdl:=xq (TB HN λx hx=>hNL x<|HD x hx) hNl;have HR:=ai hr;have HDL:=ai hdl;clear hC hr hdl;rcases HI.next (P:=xm) str_inj with⟨ha,Bz⟩|⟨x,u,w2,aB,hxd,Mg,Bz,DY,bA,u_,eG,hen⟩
  .go_wp2
   go_ret;refine⟨w.heap.size,done.length*1000000000000,rfl,br _,by have:=uh HDL;omega,HC.le (λn=>⟨λ⟨y,c,_,p1,p2,p3⟩=>⟨y,c,p1,p2,p3⟩,λ⟨y,c,p1,p2,p3⟩=>⟨y,c,?_,p1,p2,p3⟩⟩) HR,HB⟩
   cases hg:aY y L with
   |none=>rw[Q.1 y hg]at p1;cases p1|some v=>exact ha y v hg
  .have⟨c,EC,hc⟩:=Q.2 x u Mg;have ajF:wr.heap.size<=w2.heap.size:=ae;have ajG:w2.heap.size<=wr.heap.size:=ae;clear eG;have F1:=u_;have kb2:∀i,i<w.heap.size->w2.heap[i]? =w.heap[i]? :=λi hi=>(F1.block i ae ae).trans<|HB.block i hi;have hB2:Bq w w2:=⟨F1.os.trans HB.os,F1.tape.trans HB.tape,F1.output.trans HB.output,ae,kb2⟩;obtain⟨ta,xa,sa,sc,rfl,t1,t2⟩:=hc;have⟨k3,B3⟩:=sf w2 #[Fv ta xa,Lv sa c.any.length sc] 467;have Mh:Bq w (w2.alloc<|Cv #[Fv ta xa,Lv sa c.any.length sc] 467):=hB2.alloc ae _;have T2:=t2.move (w':=w2.alloc<|Cv #[Fv ta xa,Lv sa c.any.length sc] 467) Mh.size (λi _ hi=>Mh.block i hi)<|λi p z=>(⟨p,z⟩:P i/\i<w.heap.size);have CC3:=(HC.same<|F1.block _ ae ae).same (w':=w2.alloc<|Cv #[Fv ta xa,Lv sa c.any.length sc] 467)<|k3.block _ ae;have I3:=DY.same (k3.block b ae)<|k3.block (w.heap.size+1) ae;have HO:=sq (HK.af Mh) hkb hf (br _)<|t1.af Mh;have hal:=ac6 x c EC;have hzz:=t1.TD hf<|br _;have DL:=bX _ t1.wh λn _=>hf.wh n;have K3:=ai Mh;have⟨c3,f3,z3⟩:=uh B3;clear DY k3 hB2 Mh kb2 F1 u_ t1 t2 HC HI HB;go_wp2_with fail;refine HO.mono ?_;rintro e w4⟨u4,rfl,hu4,K4⟩;have HV:=e_ hu4 hzz;obtain⟨tu,xu,rfl⟩:=hu4.iface;have z4:=K4.size;simp only[aV]at z4;clear hu4 HO c3 f3 z3;go_wp2_with fail;refine HV.mono ?_;rintro e w5⟨V,rfl,HO5,k5⟩;rw[gD]at HO5
   have wj:(vars []<|sub κ c.of).length<=1000000000000:=by
    have h1:=gD<|sub κ c.of;rw[<-h1,cr];have h2:=cU (occs<|bG<|sub κ c.of) [];have h3:=cV<|bG<|sub κ c.of;simp only[vf]at h2;omega
   generalize wo:vars [] (sub κ c.of)=l at*;obtain⟨va,vc,rfl⟩:=dD HO5 (n:=l.length)<|eS l;have Jx:=K4.trans<|k5.mono K4.size;have z45:=Jx.size;simp only[aV]at z45;have T5:=T2.move (Q:=λi=>P i/\i<w.heap.size) Jx.size (λi p z=>Jx.block i z)<|λ_ p _=>p;have B5:=ai<|B3.below Jx;have CC5:=CC3.same<|Jx.block _ bQ;have I5:=I3.same (Jx.block b bQ)<|Jx.block (w.heap.size+1) bQ;have K5:=K3.trans (Jx.mono (by have:=K3.size;omega));clear k5 Jx HV K4 T2 B3 CC3 I3 K3
   go_wp2
   go_loopg[23] l.length (λgk v wq=>FyR w.heap.size (FxD Γ κ done) r l c.any w5 gk v wq)
   case atStart=>exact⟨0,ai ag,xw _,rfl,CC5.le (λn=>ag) ae,Fr.refl _ _⟩
   case round=>
    obtain⟨j,c_,hj,rfl,HC6,HF6⟩:=hrel;have zq:=HF6.size;have B6:=B5.fr HF6 ae;by_cases bh:j<l.length
    .have hd:(j:Int)<(l.length:Int):=ae;have hjv:j<(mW l).length:=by rw[eS];exact bh
     have⟨gv,cpv,mv,hv,hgv,kC,_⟩:=gS HO5 ae;injection hv with Jy TE hv3;subst Jy;have cg0:=kU HO5 j hjv;rw[show(mW l)[j]=Nv (l[j]) by simp[mW]]at cg0;have cg:=(zd (a:=⟨gv,j,none⟩)<|HF6.block gv kC ae).trans cg0;have V6:=T5.move (w':=wr) (Q:=λi=>P i/\i<w.heap.size) zq (λi p z=>HF6.block i z ae)<|λ_ p _=>p;have HCo:=D7 (sc:=sc) V6 hal l[j];have HM6:∀i,i∈l.take (j+1)↔i∈l.take j\/i=l[j]:=λi=>by rw[qz bh,xk,xj]
     have⟨kk,sg,TF,_⟩:=HC6.look l[j];generalize hx:l[j]=xx at*;have HRR:Hid (r<=1000000000000000000):=ai (by have h1:=uh HR;have h2:=uh HDL;have h3:done.length*1000000000000<=1000000*1000000000000:=Nat.mul_le_mul_right _ h2;exact xq h1<|xq h3 aK);have hkb:(kk:Int)+1<=9000000000000000000:=by have:=uh HRR;omega
     obtain⟨c6,f6,z6⟩:=B6;clear V6 hx cg0 TE hv3 Bz hen Mg iE;by_cases qJ:xx∈c.any
     .rw[decide_eq_true qJ]at HCo;go_wp2_with fail;refine HCo.mono ?_;rintro e w7⟨rfl,rfl⟩;clear HCo
      go_wp2
      go_roundg(l.length-(j+1))
      case measure=>rw[uh c_];omega
      case rel=>
       refine⟨j+1,ai rfl,ae,iF,HC6.le (λn=>?_) ae,HF6⟩;rw[HM6 n];constructor
       .rintro(q|⟨q1,q2⟩)
        .exact qx q
        .exact qw ⟨qx q1,q2⟩
       .rintro(q|⟨q1|q1,q2⟩)
        .exact qx q
        .exact qw ⟨q1,q2⟩
        .exact absurd (q1▸qJ) q2
     .rw[decide_eq_false qJ]at HCo;go_wp2_with fail;refine HCo.mono ?_;rintro e w7⟨rfl,rfl⟩;clear HCo;go_wp2_with(refine D8 rfl _ _ _ (qw rfl) rfl HC6 xx kk TF rfl rfl ?_;intro w8 H' O';have S8:=ai H';have O8:=ai O';clear H' O');go_roundg(l.length-(j+1))
      case measure=>rw[uh c_];omega
      case rel=>
       have o:=uh O8;refine⟨j+1,ai rfl,ae,iF,S8.le (λn=>?_) ae,HF6.trans ⟨o.os,o.tape,o.output,Jc,λi _ hi=>o.block i hi⟩⟩;rw[HM6 n];constructor
       .rintro((q|⟨q1,q2⟩)|q)
        .exact qx q
        .exact qw ⟨qx q1,q2⟩
        .exact qw ⟨qw q,by rw[q];exact qJ⟩
       .rintro(q|⟨q1|q1,q2⟩)
        .exact qx (qx q)
        .exact qx (qw ⟨q1,q2⟩)
        .exact qw q1
    .have hd:decide ((j:Int)<(l.length:Int))=false:=bQ;have ej:j=l.length:=ae;subst ej;clear B6
     go_wp2
     go_roundg aB
     case measure=>exact bA
     case rel=>
      have f:=HF6;have k5:=K5;refine⟨x::done,r+l.length,I5.same (f.block b ae ae)<|f.block _ ae ae,HC6.le (λn=>?_)<|br _,List.nodup_cons.2 ⟨hxd,HN⟩,?_,by have:=uh HR;simp only[mV];omega,⟨f.os.trans k5.os,f.tape.trans k5.tape,f.output.trans k5.output,by have:=k5.size;omega,λi hi=>(f.block i (by have:=k5.size;omega) ae).trans<|k5.block i hi⟩⟩
      .rw[q9];have hm:n∈l↔aD n (sub κ c.of):=by rw[<-wo];simpa using bI (sub κ c.of) [] n
       constructor
       .rintro(⟨y,c',p1,p2,p3,p4⟩|⟨p1,p2⟩)
        .exact⟨y,c',xh _ p1,p2,p3,p4⟩
        .exact⟨x,c,ag,EC,hm.1 p1,p2⟩
       .rintro⟨y,c',p1,p2,p3,p4⟩;obtain q|q:=List.mem_cons.1 p1
        .subst q;rw[EC]at p2;injection p2 with p2;subst p2;exact qw ⟨hm.2 p3,p4⟩
        .exact qx ⟨y,c',q,p2,p3,p4⟩
      .intro y hy;obtain q|q:=List.mem_cons.1 hy
       .rw[q,EC];simp
       .exact HD y q
abbrev kept(p:Nat->Bool)(l:List Nat):List Nat:=l.filter λn=> !p n
def Ac p(l:List Nat)j(h:j<l.length):kept p (l.take<|j+1)=kept p (l.take j)++(if p l[j]then[]else[l[j]]):=by
 rw[kept];rw[qz h,List.filter_append];congr 1
 cases hp:p l[j]<;>simp[hp]
def ac7 g(l:List Nat)p w gk vi vj wr:=
 ∃(i j:Nat)(C:Array Value),Hid (gk=l.length-j)/\i<j/\j<=l.length/\vi=Nv i/\vj=Nv j/\Hid (i=(kept p<|l.take j).length)/\Bx wr g C/\Hid (l.length<=C.size)/\Hid (∀k(h:k<(kept p<|l.take j).length),C[k]? =some (Nv<|(kept p<|l.take j)[k]))/\Hid (∀k(h:k<l.length),j<=k->C[k]? =some (Nv<|l[k]))/\Fr (λb=>b=g) w wr
section
variable {p:Nat->Bool} {g:Nat}
def ac8 f cs(l:List Nat)(p:Nat->Bool)g w:=∀(W:World)(n:Nat),n∈l->Fr (λb=>b=g) w W->Cq f (#[Nv n]++cs) W λe w'=>e=.returned (.bool<|p n)/\w'=W
def ac9{w}{e}{base}{g c:Nat}{xs}(h:f_ w e base (.slice (some ⟨g,0,none⟩) n c) xs):∃C:Array Value,Bx w g C/\xs.length<=C.size/\(∀k(hk:k<xs.length),C[k]? =some xs[k])/\n=xs.length/\n<=c/\c<=maxLen:=by
 have h':=h;obtain⟨h1,h2⟩:=h;obtain⟨q,_⟩|⟨g',cap,mL,q,hg,hh,r1,r2,r3,r4⟩:=h2
 .cases q
 .injection q with q1 q2 q3;injection q1 with q1;injection q1 with q1;subst q1 q2 q3;have hz:=(Array.getElem?_eq_some_iff.1 hh).1;refine⟨mL,⟨λo=>by simp[World.cell?,hh],λo=>by simp[World.frozen?,hh],hz⟩,ae,λk hk=>?_,rfl,r1,r2⟩;have e1:(List.take (xs.length*1) mL.toList)[k]? =xs[k]? :=by rw[r4]
  rw[List.getElem?_take_of_lt ae]at e1;rw[<-Array.getElem?_toList,e1,List.getElem?_eq_getElem hk]
def tN(g:Nat):∀(vs:List Value)(o:Nat)(w:World),Fr (λb=>b=g) w<|w.setCells g o vs
 |[],o,w=>Fr.refl _ _|v::vs,o,w=>((Fr.refl (λb=>b=g) w).set (b:=g) (qx rfl) o v).trans<|tN g vs (o+1) _
def TH w:(zeroValue 98).run xm w=.ok (Iv 0) w:=qkr
def BE l p g w(e:Ending)w':=∃sa sc,e=.returned (.slice sa (kept p l).length sc)/\pB w' (λb=>b=g) sa (kept p l)/\Fr (λb=>b=g) w w'
def BG(eg:∀args w,(callFunc f args).run xm w=.ok (.enter f args) w){c:Nat}(ho:f_ w 98 base (.slice (some ⟨g,0,none⟩) n c) (mW l))(hl:l.length<=1000000000000)(hp:ac8 f cs l p g w):
 Cq 365 #[.slice (some ⟨g,0,none⟩) n c,.func (.func f) #[] cs] w (BE l p g w):=by
 have HI:=mX (p:=p) eg ho hl<|λW n hn hb=>(hp W n hn<|Fr.of hb).mono λe w'⟨h1,h2⟩=>⟨h1,h2▸zo _ _⟩;have⟨C,hx,yM,hcv,hn,hnc,Jd⟩:=ac9 ho;rw[eS]at yM hn;subst hn;have aib:∀k(h:k<l.length),C[k]? =some (Nv<|l[k]):=λk h=>by rw[hcv k (by rw[eS];exact h)];simp[mW]
 have HX:=ai hx;have HV:=ai aib;have ajH:c<=9223372036854775807:=by rw[maxLen]at Jd;omega
 go_enter func365,ntmps365;go_wp2_with fail;refine HI.mono ?_;rintro e w1⟨k,rfl,hk,K1⟩;have X1:=HX.below K1;obtain⟨rfl,ac_⟩|⟨k0,hk0,rfl,hpk,mS⟩:=hk
 .have HA:=ai ac_
  go_wp2
  go_ret;have e:kept p l=l:=List.filter_eq_self.2 λx hx=>by simp[uh HA x hx]
  rw[BE];rw[e];exact⟨_,_,rfl,qw ⟨g,rfl,rfl,X1.z,λi hi=>by rw[X1.c i];exact HV i hi⟩,Fr.of K1⟩
 .have dw:((k0:Int)== -1)=false:=beq_eq_false_iff_ne.2 ae;have ZG:kept p (l.take k0)=l.take k0:=List.filter_eq_self.2 λx hx=>by
   have⟨i,hi,e⟩:=xi hx;rw[List.getElem_take]at e;rw[<-e,mS i D9 D9];rfl
  have HK:kept p (l.take<|k0+1)=l.take k0:=by rw[Ac p l k0 hk0,ZG,hpk];simp
  go_wp2
  go_loopg[5,6] (l.length-(k0+1)) (λgk vi vj wr=>ac7 g l p w gk vi vj wr)
  case atStart=>
   refine⟨k0,k0+1,C,ai rfl,ae,ae,rfl,iF,ai (by rw[HK];simp;omega),X1,yM,ai<|λk h=>?_,ai<|λk h _=>HV k h,Fr.of K1⟩;simp only[HK]at h⊢;rw[List.length_take]at h;rw[uh HV k ae,List.getElem_take]
  case round=>
   obtain⟨i,j,C1,c_,Y',bh,rfl,rfl,hi,X2,hC1,pC,hhi,F2⟩:=hrel;by_cases bA:j<l.length
   .have hd:(j:Int)<(l.length:Int):=ae;have hdi:(i:Int)<(l.length:Int):=ae;have cj:wr.cell? ⟨g,j,none⟩=some (Nv<|l[j]):=by rw[X2.c j];exact hhi j bA<|br _
    have hiC:i<C1.size:=by have:=uh hC1;omega
    have ci:wr.cell? ⟨g,i,none⟩=some C1[i]:=by rw[X2.c i];exact zx hiC
    have fi:=X2.f i;have HC:=hp wr l[j] (xd bA) F2;have HKS:=Ac p l j bA
    cases hq:p l[j]with
    |true=>
     rw[hq]at HC;generalize hxx:l[j]=xx at*;go_wp2_with(go_at_fn f;refine HC.mono ?_;rintro e w2⟨rfl,rfl⟩);go_roundg(l.length-(j+1))
     case measure=>rw[uh c_];omega
     case rel=>
      have ek:kept p (l.take<|j+1)=kept p (l.take j):=by rw[HKS,hq];simp
      refine⟨i,j+1,C1,ai rfl,ae,ae,rfl,iF,ai (by rw[ek];exact hi),X2,hC1,ai<|λk h=>?_,ai<|λk h hk=>hhi k h ae,F2⟩;simp only[ek]at h⊢;exact pC k h
    |false=>
     rw[hq]at HC;have X3:=X2.aO i (Nv<|l[j]) (C1.setIfInBounds i<|Nv<|l[j]) rfl hiC;generalize hxx:l[j]=xx at*;go_wp2_with(go_at_fn f;refine HC.mono ?_;rintro e w2⟨rfl,rfl⟩);go_roundg(l.length-(j+1))
     case measure=>rw[uh c_];omega
     case rel=>
      have ek:kept p (l.take<|j+1)=kept p (l.take j)++[xx]:=by rw[HKS,hq];simp
      have ei:=uh hi;refine⟨i+1,j+1,C1.setIfInBounds i<|Nv xx,ai rfl,ae,ae,iF,iF,ai (by rw[ek];simp[ei]),X3,ai (by simp;exact hC1),ai<|λk h=>?_,ai<|λk h hk=>?_,F2.set (qx rfl) i _⟩
      .simp only[ek]at h⊢;rw[vg,List.length_singleton]at h;by_cases e:k=i
       .subst e;rw[List.getElem_append_right ae];simp[hiC]
       .rw[zv<|z9 e,List.getElem_append_left ae];exact pC k ae
      .rw[zv ae];exact hhi k h ae
   .have ej:j=l.length:=ae;subst ej;have hd:¬(l.length:Int)<(l.length:Int):=ae;have hic:¬c=i:=ae;have TK:∀ty,(Builtin.clear_ #[464] ty #[Lv (some ⟨g,i,none⟩) (l.length-i)<|c-i]).run xm wr=.ok (.tuple #[]) (wr.setCells g i<|List.replicate (l.length-i)<|Iv 0):=λty=>
     Lib.run_clear_slice wr _ _ ty _ Ad TH rfl rfl g i _ _ ae (λt ht=>by rw[X2.c<|i+t,zx (by have:=uh hC1;omega)];rfl) (λt _=>X2.f<|i+t)
    go_wp2
    go_ret;have ei:=uh hi;have F3:=tN g (List.replicate (l.length-i)<|Iv 0) i wr;rw[q9]at ei;have aic:∀k(h:k<(kept p l).length),C1[k]? =some (Nv<|(kept p l)[k]):=by
     have:=uh pC;simp only[q9]at this;exact this
    rw[BE];refine⟨some ⟨g,0,none⟩,c,by rw[<-ei];rfl,qw ⟨g,rfl,rfl,xt X2.z F3.size,λk hk=>?_⟩,F2.trans F3⟩;rw[World.cell?_setCells_out g _ i wr ⟨g,k,none⟩<|λ_ _=>qx (by show k<i;omega),X2.c k];exact aic k hk
end
def wu(eg:∀args w,(callFunc f args).run xm w=.ok (.enter f args) w)(ho:f_ w 98 base v (mW [])):
 Cq 365 #[v,.func (.func f) #[] cs] w λe w'=>∃sa sc,e=.returned (.slice sa 0 sc)/\Bq w w':=by
 have HI:=mX (p:=λ_=>false) (cs:=cs) eg ho ag (λW n hn _=>by simp at hn);obtain⟨va,vc,rfl⟩:=dD ho (n:=0) (by simp[mW]);go_enter func365,ntmps365;go_wp2_with fail;refine HI.mono ?_;rintro e w1⟨k,rfl,hk,K1⟩;have ek:k= -1:=by
  obtain⟨q,_⟩|⟨i,hi,_⟩:=hk
  .exact q
  .simp at hi
 subst ek
 go_wp2
 go_ret;exact⟨va,vc,rfl,K1⟩
open Classical in
noncomputable def fxB (Γ:jc) (κ:Nat->Ty) (v:Nat):Bool:=decide (qm Γ κ v)
def Jz{cm}(h1:Bx W cb #[Mv cm])(h2:CM W cm (qm Γ κ) r)n:Cq 366 #[Nv n,Pv cb] W λe w'=>e=.returned (.bool<|fxB Γ κ n)/\w'=W:=by
 obtain⟨c1,f1,z1⟩:=h1;have⟨k,hl,_,hk⟩:=h2.look n;have HK:=ai hk;clear hk h2;go_enter func366,ntmps366
 go_wp2
 go_ret;refine⟨?_,rfl⟩;have:decide (0<k)=fxB Γ κ n:=by
  rw[fxB];rw[decide_eq_decide];exact HK
 rw[<-this];rfl
def JA T:jt Γ κ T=kept (fxB Γ κ) (vars [] T):=by
 rw[jt,kept];congr 1;funext v;by_cases h:qm Γ κ v
 .simp[fxB,h]
 .simp[fxB,h]
def om P l w(e:Ending)w':=∃sa sc,e=.returned (.slice sa l.length sc)/\pB w' P sa l/\Bq w w'
def ZH(h:bM w P b Γ)(hk:KW w P kb κ)(hkb:P kb)(hf:tM κ){NL:List BA}(hNL:∀x,Γ x≠none->x∈NL)(hNl:NL.length<=1000000)(ac6:∀x c,Γ x=some c->c.any.length<=1000000000000)(ht:cR w Q (bG T) v)(hz:size (bG T)<=1000000000000):
 Cq 359 #[Mv b,Mv kb,v] w (om (λi=>w.heap.size<=i) (jt Γ κ T) w):=by
 have HF:=ZF h hk hkb hf hNL hNl ac6;obtain⟨ta,xa,rfl⟩:=ht.iface;go_enter func359,ntmps359;go_wp2_with fail;refine HF.mono ?_;rintro e w1⟨cm,r,rfl,Jd,hr,hC,k1⟩;have⟨k2,B2⟩:=mM w1 #[Mv cm] 171;have K2:=k1.trans<|k2.mono k1.size;have C2:=hC.same<|k2.block cm hC.lt;have zc:=hC.lt;have z1:=k1.size;have HV:=e_ (ht.af K2) hz;go_wp2_with fail;refine HV.mono ?_;rintro e w3⟨V,rfl,ho,k3⟩;rw[gD]at ho;have wj:(vars [] T).length<=1000000000000:=by
  have h1:=gD T;rw[<-h1,cr];have h2:=cU (occs<|bG T) [];have h3:=cV<|bG T;simp only[vf]at h2;omega
 have e0:=JA (Γ:=Γ) (κ:=κ) T;have K3:=K2.trans<|k3.mono K2.size;have z3:=k3.size;rw[aV]at z3;have B3:=B2.below k3;have C3:=C2.same (k3.block cm (by rw[aV];omega));have gT:=ik ho;rw[aV]at gT;by_cases hl:vars [] T=[]
 .rw[hl]at ho e0;have HD:=wu (cs:=#[Pv w1.heap.size]) (enters_of xo qkr rfl) ho;obtain⟨va,vc,rfl⟩:=dD ho (n:=0) (by simp[mW]);go_wp2_with fail;refine HD.mono ?_;rintro e w4⟨sa,sc,rfl,K4⟩
  go_wp2
  go_ret;have k:=K3;rw[om];rw[e0];exact⟨sa,sc,rfl,qx rfl,k.trans<|K4.mono k.size⟩
 .have ZI:0<(mW<|vars [] T).length:=by rw[eS];exact xy<|λe=>hl<|xg e
  obtain⟨g,cp,m,rfl,hg,kC,_⟩:=gS ho ZI;rw[aV]at hg;have HD:=BG (p:=fxB Γ κ) (enters_of xo qkr rfl) ho wj (cs:=#[Pv w1.heap.size])<|λW n hn hF=>Jz (B3.fr hF ae) (C3.same<|hF.block cm ae ae) n;go_wp2_with fail;refine HD.mono ?_;rintro e w4⟨sa,sc,rfl,HV4,F4'⟩
  go_wp2
  go_ret;have f:=F4';have k:=K3;rw[om];rw[e0];refine⟨sa,sc,rfl,?_,⟨f.os.trans k.os,f.tape.trans k.tape,f.output.trans k.output,xq k.size f.size,λi hi=>(f.block i (by have:=k.size;omega) ae).trans<|k.block i hi⟩⟩;exact HV4.move (br _) (λ_ _ _=>rfl) (λi p _=>by show w.heap.size<=i;omega)
structure WC where
 (eb cb rb mb nb fD:Nat)
 mks:jm
 nl:List BA
abbrev ada(c:WC):Array Value:=#[.func (.func 47) #[] #[Pv c.cb],Mv c.rb,Mv c.mb,Mv c.nb]
def sr w b:=∃L,MG zh w b L/\aY gU L=some (.func (.func 124) #[] #[])/\aY dP L=some (.func (.func 124) #[] #[])/\aY fG L=some (.func (.func 124) #[] #[])/\aY du L=some (.func (.func 125) #[] #[])
def TL w P(sa:Option Addr)l:=l=[]\/∃(g:Nat)(vs:Nat->Value),sa=some ⟨g,0,none⟩/\P g/\g<w.heap.size/\∀i(h:i<l.length),w.cell? ⟨g,i,none⟩=some (vs i)/\dE w P l[i] (vs i)
def Ta w P tk m(v:Value):=∃sa sc ta xa,v=.agg #[.slice sa tk.length sc,.iface ta xa]/\TL w P sa tk/\dE w P m (.iface ta xa)
def lQ w P b(mk:jm):=∃L,MG zh w b L/\(∀x,aY x L=none->mk x=none)/\∀x v,aY x L=some v->∃tk m,mk x=some (tk,m)/\Ta w P tk m v
abbrev dn(c:WC)i:=i≠c.cb
structure WE w c cnt:Prop where
 bx:Bx w c.eb (ada c)
 ct:Bx w c.cb #[Nv cnt]
 rs:sr w c.rb
 ms:lQ w (λi=>i≠c.cb/\i<c.fD) c.mb c.mks
 d:c.eb≠c.cb/\c.rb≠c.cb/\c.mb≠c.cb
 l:c.eb<c.fD/\c.cb<c.fD/\c.rb<c.fD/\c.mb<c.fD/\c.fD<=w.heap.size
section
variable {c:WC} {cnt:Nat}
theorem TL.move{sa}{l}(h:TL w P sa l)(hs:w.heap.size<=w'.heap.size)(hb:∀b,P b->b<w.heap.size->w'.heap[b]? =w.heap[b]?)(hq:∀b,P b->b<w.heap.size->Q b):TL w' Q sa l:=by
 obtain h|⟨g,vs,h1,h2,h3,h4⟩:=h
 .exact qx h
 .exact qw ⟨g,vs,h1,hq g h2 h3,xt h3 hs,λi hi=>⟨(zd (a:=⟨g,i,none⟩)<|hb g h2 h3).trans (h4 i hi).1,(h4 i hi).2.move hs hb hq⟩⟩
theorem lQ.move{b}{mk}(h:lQ w P b mk)(hs:w.heap.size<=w'.heap.size)(bR:w'.heap[b]? =w.heap[b]?)(hb:∀b,P b->b<w.heap.size->w'.heap[b]? =w.heap[b]?)(hq:∀b,P b->b<w.heap.size->Q b):lQ w' Q b mk:=by
 obtain⟨L,h1,h2,h3⟩:=h;refine⟨L,h1.same bR,h2,λx v hx=>?_⟩;obtain⟨tk,m,e,sa,sc,ta,xa,rfl,q1,q2⟩:=h3 x v hx;exact⟨tk,m,e,sa,sc,ta,xa,rfl,q1.move hs hb hq,q2.move hs hb hq⟩
def lQ.lt{b}{mk}(h:lQ w P b mk):b<w.heap.size:=qAr
def sr.same{b}(h:sr w b)(hb:w'.heap[b]? =w.heap[b]?):sr w' b:=qAs
def sr.lt{b}(h:sr w b):b<w.heap.size:=qAr
def WE.fr(h:WE w c cnt)(hf:Fr (λi=>i=c.cb\/c.fD<=i) w w'){aB}(hc:Bx w' c.cb #[Nv aB]):WE w' c aB:=by
 have⟨l1,l2,l3,l4,l5⟩:=h.l;have⟨d1,d2,d3⟩:=h.d;exact⟨h.bx.fr hf ae,hc,h.rs.same<|hf.block _ h.rs.lt ae,h.ms.move hf.size (hf.block _ h.ms.lt ae) (λb p z=>hf.block b z ae)<|λ_ p _=>p,h.d,⟨l1,l2,l3,l4,xq l5 hf.size⟩⟩
def Fr.fD{S T}(h:Fr S w w')(hs:∀i,S i->T i):Fr T w w':=⟨h.os,h.tape,h.output,h.size,λk hk hn=>h.block k hk λq=>hn<|hs k q⟩
def WE.frc(h:WE w c cnt)(hf:Fr (λi=>i=c.cb) w w')(hc:Bx w' c.cb #[Nv aB]):WE w' c aB:=h.fr (hf.fD λ_ q=>qx q) hc
def WE.one{b}(h:WE w c cnt)(o:One b w w')(hb:c.fD<=b):WE w' c cnt:=h.fr ⟨o.os,o.tape,o.output,Jc,λi _ hi=>o.block i λe=>hi<|qw<|e▸hb⟩ (h.ct.one o (by have:=h.l;omega))
def WE.af(h:WE w c cnt)(hb:Bq w w'):WE w' c cnt:=h.frc (Fr.of hb)<|h.ct.below hb
def WE.dh(h:WE w c cnt):c.cb<w.heap.size:=h.ct.z
end
def us cnt n:=1<=n/\n<=cnt
section
variable {c:WC} {cnt:Nat}
def mY n(hn:n<=1000000)(h:Bx w cb #[Nv n]):Cq 47 #[Pv cb] w λe w'=>e=.returned (Iv<|(n:Int)+1)/\w'=w.setCell ⟨cb,0,none⟩ (Iv<|(n:Int)+1):=by
 obtain⟨c,f,z⟩:=h;go_enter func47,ntmps47
 go_wp2
 go_ret;exact⟨rfl,rfl⟩
def WE.fresh(h:WE w c cnt):WE (w.setCell ⟨c.cb,0,none⟩<|Iv<|(cnt:Int)+1) c (cnt+1)/\Fr (λi=>i=c.cb) w (w.setCell ⟨c.cb,0,none⟩<|Iv<|(cnt:Int)+1):=by
 have F:Fr (λi=>i=c.cb) w (w.setCell ⟨c.cb,0,none⟩<|Iv<|(cnt:Int)+1):=(Fr.refl (λi=>i=c.cb) w).set (b:=c.cb) (qx rfl) 0 _;have:=h.ct.aO 0 (Iv<|(cnt:Int)+1) #[Iv<|(cnt:Int)+1] rfl ag;exact⟨h.frc F<|by simpa using this,F⟩
def o7 cnt(l:List Nat)v:=if v∈l then some (cnt+1+l.idxOf v)else none
def anD(cnt:Nat)(l:List Nat)(j:Nat)(v:Nat):Option Ty:=if v∈l.take j then some (.var<|cnt+1+l.idxOf v)else none
def D_{v v'}(hv:v∈l)(hv':v'∈l)(e:l.idxOf v=l.idxOf v'):v=v':=by
 have h1:=List.getElem_idxOf<|List.idxOf_lt_length_iff.2 hv;have h2:=List.getElem_idxOf<|List.idxOf_lt_length_iff.2 hv';simp only[e]at h1;exact h1.symm.trans h2
def Ae(cnt:Nat)(l:List Nat)(hn:l.Nodup){u:Nat->Prop}(hu:∀n,u n->us cnt n):qn l qf (o7 cnt l) u (λn=>u n\/(cnt<n/\n<=cnt+l.length)) where
 fZ v n h:=JB
 out v h:=by simp[o7,h,qf]
 all v h:=by simp[o7,h]
 new v n _ h q:=by
  have:=hu n q;rw[o7]at h;split at h
  .injection h with h;rw[us]at this;omega
  .cases h
 one v v' n _ h1 h2:=by
  rw[o7]at h1 h2;split at h1<;>split at h2
  .injection h1 with h1;injection h2 with h2;rename_i a b;exact D_ a b ae
  .cases h2
  .cases h1
  .cases h1
 use n:=by
  constructor
  .rintro(h|h)
   .exact qx h
   .right;have hi:n-cnt-1<l.length:=ae;refine⟨l[n-cnt-1],rfl,?_⟩;rw[o7];rw[if_pos<|xd hi,hn.idxOf_getElem (n-cnt-1) hi];congr 1;omega
  .rintro(h|⟨v,_,h⟩)
   .exact qx h
   .rw[o7]at h;split at h
    .rename_i hv;injection h with h;have:=List.idxOf_lt_length_iff.2 hv;exact qw ae
    .cases h
def af4 c cnt l w gk v wr:=
 ∃j:Nat,Hid (gk=l.length-j)/\j<=l.length/\v=Nv j/\WE wr c (cnt+j)/\eU wr (λi=>i≠c.cb/\i≠w.heap.size) w.heap.size (anD cnt l j)/\Fr (λi=>i=c.cb) w wr/\Hid (w.heap.size<wr.heap.size)
def Ea c cnt l w(e:Ending)w':=
 ∃b,e=.returned (Mv b)/\w.heap.size<=b/\WE w' c (cnt+l.length)/\eU w' (dn c) b (λv=>(o7 cnt l v).map Ty.var)/\Fr (λi=>i=c.cb) w w'
def TN(h:WE w c cnt)(hv:pB w (dn c) sa l)(hn:l.Nodup)(hz:cnt+l.length<=1000000):Cq 349 #[Pv c.eb,.slice sa l.length sc] w (Ea c cnt l w):=by
 have iE:= @run_makeMap Tryz.prog;have k1:Bq w (w.alloc<|.map #[] 0):=bw _;have zc:=h.dh;have W1:=h.af k1;have aid:=ai h.l.2.2.2.2;have S1:=eU.new w<|λi=>i≠c.cb/\i≠w.heap.size;have K1:=ai k1;go_enter func349,ntmps349
 go_wp2
 go_loopg[11] l.length (λgk v wr=>af4 c cnt l w gk v wr)
 case atStart=>
  refine⟨0,ai ag,xw _,rfl,W1,?_,Fr.of K1,ai ag⟩;have e:anD cnt l 0=λ_=>none:=by funext v;simp[anD]
  rw[e];exact S1
 case round=>
  obtain⟨j,c_,hj,rfl,HW,HS,HF,hzz⟩:=hrel;by_cases bh:j<l.length
  .have hd:(j:Int)<(l.length:Int):=ae;obtain⟨g,rfl,hg,kC,bU⟩:=hv.resolve_left<|λe=>qBs;have cg:=(zd (a:=⟨g,j,none⟩)<|HF.block g kC hg).trans<|bU j bh;obtain⟨m,hm⟩:∃m,Hid<|m=cnt+j:=⟨_,ai rfl⟩;rw[<-uh hm]at HW;have HC:=mY m (by have:=uh hm;omega) HW.ct;have⟨HW2,F2⟩:=HW.fresh;have S3:=HS.fr F2 (λe=>ae)<|λi p _=>p.1;have⟨c1,f1,z1⟩:=HW.bx;have yN:=HF.trans F2;have nz:=HW.d.1;have ZZ:w.heap.size<(wr.setCell ⟨c.cb,0,none⟩<|Iv<|(m:Int)+1).heap.size:=(by have:=uh hzz;simp[World.setCell];exact this);have T3:cR (wr.setCell ⟨c.cb,0,none⟩<|Iv<|(m:Int)+1) (λi=>i≠c.cb/\i≠w.heap.size) (.var<|m+1) (Fv 98<|Iv<|(m:Int)+1):=(by have:=cR.var (w:=wr.setCell ⟨c.cb,0,none⟩<|Iv<|(m:Int)+1) (P:=λi=>i≠c.cb/\i≠w.heap.size)<|m+1;simpa using this);generalize hx:l[j]=xx at*;go_wp2_with fail;refine HC.mono ?_;rintro e w3⟨rfl,rfl⟩;go_wp2_with(refine jW gV rfl _ _ _ (qw rfl) rfl S3 (λq=>q.2 rfl) T3 xx rfl rfl ?_;intro w4 H' O';have S4:=ai H';have O4:=ai O';clear H' O');go_roundg(l.length-(j+1))
   case measure=>rw[uh c_];omega
   case rel=>
    have o:=uh O4;have em:=uh hm;have fo:Fr (λi=>i=w.heap.size) (wr.setCell ⟨c.cb,0,none⟩<|Iv<|(m:Int)+1) w4:=⟨o.os,o.tape,o.output,Jc,λi _ hi=>o.block i hi⟩;refine⟨j+1,ai rfl,ae,iF,?_,?_,?_,ai (by rw[o.size];exact ZZ)⟩
    .have hw:=HW2;have e:cnt+(j+1)=m+1:=ae;rw[e];exact hw.one o aid
    .have e:anD cnt l (j+1)=dQ (anD cnt l j) xx (some<|.var<|m+1):=by
      funext v;rw[anD,dQ];have adb:v∈l.take (j+1)↔v∈l.take j\/v=xx:=by rw[qz bh,hx,xk,xj]
      by_cases q:v=xx
      .subst q;have:l.idxOf v=j:=by rw[<-hx];exact hn.idxOf_getElem j bh
       rw[if_pos<|adb.2<|qw rfl,if_pos rfl,this,em];congr 2;omega
      .rw[if_neg q];by_cases r:v∈l.take j
       .rw[if_pos<|adb.2<|qx r];exact(if_pos r).symm
       .rw[if_neg<|λh=>(adb.1 h).elim r q];exact(if_neg r).symm
     rw[e];exact S4
    .have f:=yN;exact⟨o.os.trans f.os,o.tape.trans f.tape,o.output.trans f.output,by rw[o.size];exact f.size,λi hi hni=>(o.block i ae).trans<|f.block i hi hni⟩
  .have hd:decide ((j:Int)<(l.length:Int))=false:=bQ;have ej:j=l.length:=ae;subst ej
   go_wp2
   go_ret;refine⟨w.heap.size,rfl,br _,HW,?_,HF⟩;have e:anD cnt l l.length=λv=>(o7 cnt l v).map Ty.var:=by
    funext v;rw[anD,o7];rw[q9];by_cases q:v∈l
    .rw[if_pos q,if_pos q];rfl
    .rw[if_neg q,if_neg q];rfl
   rw[<-e];exact HS.wide λi p=>p.1
structure WK w c cnt(s:jd)kb:Prop where
 k:KW w (dn c) kb s.k
 n:kb≠c.cb
 u:∀n,s.u n->us cnt n
 ok:In.Ok s
 wh:∀n,Whole<|s.k n
def JD{cnt}(hn:l.Nodup)(h:∀n,n∈l->us cnt n):l.length<=cnt:=by
 have:=BH (V:=(List.range cnt).map (·+1)) hn λx hx=>by
  have q:=h x hx;rw[us]at q;exact List.mem_map.2 ⟨x-1,List.mem_range.2 ae,ae⟩
 simpa using this
def WK.BI(h:WK w c cnt s kb)(hc:cnt<=1000000)(h1:1<=cnt\/True):tM s.k where
 wh:=h.wh
 len n:=by
  by_cases q:s.u n
  .refine xq (JD (dx _ xc) λm hm=>?_) hc;exact h.u m (h.ok.use n m q<|by simpa using(bI (s.k n) [] m).1 hm)
  .rw[h.ok.out n q];simp[vars,Un.seen]
structure WG w c s Λ(Γ:jc)gb:Prop where
 e:bM w (dn c) gb Γ
 n:gb≠c.cb
 i:j7 Λ s Γ
 nd:∀y d,Γ y=some d->d.any.Nodup
 dm:∀x,Γ x≠none->x∈c.nl
def iY w:(zeroValue 467).run xm w=.ok (.agg #[.nilIface,.slice none 0 0]) w:=qkr
def TO c(d:j5)f t(s:jd)cnt w(e:Ending)w':=Fr (λi=>i=c.cb) w w'/\
 ((48<size (sub s.k d.of)/\WE w' c cnt/\e=.panicked [{v:=guW ⟨7,f,t⟩ .nilIface .nilIface,recovered:=false}])\/
  (size (sub s.k d.of)<=48/\WE w' c (cnt+d.any.length)/\∃ta xa,e=.returned (.iface ta xa)/\cR w' (dn c) (sub (jo<|o7 cnt d.any)<|sub s.k d.of) (.iface ta xa)))
def Mi cnt l:BL (λv=>(o7 cnt l v).map Ty.var)=jo (o7 cnt l):=by
 funext v;show((o7 cnt l v).map Ty.var).getD (.var v)=_;rw[jo]
 cases o7 cnt l v<;>rfl
mutual
def gW(ρ:ju):∀t,size (sub (jo ρ) t)=size t
 |.var n=>by simp only[sub,jo];split<;>simp[size]|.aH c l=>by simp only[sub,size,Af ρ l]
def Af(ρ:ju):∀l,ah (aS (jo ρ) l)=ah l
 |[]=>rfl|t::l=>by simp only[aS,ah,gW ρ t,Af ρ l]
end
def oo(ρ:ju)t(h:Whole t):Whole (sub (jo ρ) t):=bX t h λn _=>by rw[jo];split<;>trivial
end
abbrev Ag(f:Fl)(vl vr:Value):Ending:=.panicked [{v:=guW f vl vr,recovered:=false}]
def ade(c:WC)(S:Nat)(s:jd)(cnt:Nat)(w':World)(aB:Nat)(e:Ending)(o:Except qi (Ty×jd)):Prop:=match o with
 |.ok (T,s')=>(∀n,s'.u n->s.u n\/(cnt<n/\n<=aB))/\(∀n,Whole<|s'.k n)/\∃ta xa kb,e=.returned (.tuple #[.iface ta xa,Mv kb])/\kb≠c.cb/\KW w' (dn c) kb s'.k/\TW w' (dn c) S T (.iface ta xa)|.error z=>∃vl vr,e=Ag z.f vl vr/\pD w' (dn c) z vl vr
def aX c S D(p:jh Ty)(s:jd)cnt w e w':=Fr (λi=>i=c.cb) w w'/\∃aB o,cnt<=aB/\aB<=cnt+D/\WE w' c aB/\p s o/\ade c S s cnt w' aB e o
structure Fit(c:WC)cnt n:Prop where
 a:cnt+1000*n<=850000
 b:n<=805
 l:c.nl.length<=1000000
def Fit.le{c:WC}{cnt n'}(h:Fit c cnt n)(h1:aB+1000*n'<=cnt+1000*n)(h2:n'<=n):Fit c aB n':=⟨by have:=h.a;omega,by have:=h.b;omega,h.l⟩
section
variable {c:WC} {cnt:Nat}
def WG.fr{s'}(h:WG w c s Λ Γ gb)(hf:Fr (λi=>i=c.cb) w w')(hr:In.Je Λ s s'):WG w' c s' Λ Γ gb:=⟨h.e.fr hf h.n<|λ_ p _=>p,h.n,h.i.run hr,h.nd,h.dm⟩
def WG.af(h:WG w c s Λ Γ gb)(hb:Bq w w'):WG w' c s Λ Γ gb:=⟨h.e.af hb,h.n,h.i,h.nd,h.dm⟩
def WK.af(h:WK w c cnt s kb)(hb:Bq w w'):WK w' c cnt s kb:=⟨h.k.af hb,h.n,h.u,h.ok,h.wh⟩
structure BN(w w1:World)c ak(s s1:jd)(Λ:Nat->Prop)iz:Prop where
 k:WK w1 c ak s1 iz
 n:∀n,¬s1.u n->Λ n
 p:qh Λ s s1
def TP(hk:WK w c cnt s kb)(hn:∀n,¬s.u n->Λ n)(hg:WG w c s Λ Γ gb)(hp:jf mk x Γ s (.ok (T,s1)))(hu:∀n,s1.u n->s.u n\/(cnt<n/\n<=ak))(o8:cnt<=ak)(hw:∀n,Whole<|s1.k n)(h4:iz≠c.cb)(h5:KW w1 (dn c) iz s1.k):BN w w1 c ak s s1 Λ iz/\jj Λ s1 T:=by
 have⟨g1,g2⟩:=In.kV mk x Γ s Λ hk.ok hn hg.i T s1 hp;exact⟨⟨⟨h5,h4,λn q=>by obtain r|r:=hu n q;have:=hk.u n r;unfold us at*;omega;rw[us];omega,g1.ok,hw⟩,g1.new,g1⟩,g2⟩
def lR c cnt(s:jd)Λ x y f t w e w':=Bq w w'/\∃o,jp x y f t s o/\match o with
 |.ok (_,s')=>qh Λ s s'/\∃b,e=.returned (Mv b)/\WK w' c cnt s' b|.error z=>∃vl vr,e=Ag z.f vl vr/\pD w' (dn c) z vl vr
def BO{p:Prop}(h:p:=by
 obtain⟨_,q'⟩|⟨_,_,⟨θ,_,q'⟩|⟨_,q'⟩⟩:=ho
 .cases q'
 .grind
 .cases q'):p:=h
def af5(h:WE w c cnt)(hk:WK w c cnt s kb)(hn:∀n,¬s.u n->Λ n)(hc:cnt<=1000000)(hS:S<=900000){x:Ty}(hx:TW w (dn c) S x v)(hy:TW w (dn c) S y u)(tx:jj Λ s x)(ty:jj Λ s y)f t:
 Cq 324 #[Mv kb,v,u,.agg #[Nv f,Nv t]] w (lR c cnt s Λ x y f t w):=by
 have zc:=h.dh;refine(Eb hk.k hk.n (hk.BI hc<|qw trivial) hS hx hy f t s.u).mono ?_;rintro e w1⟨k1,o,ho,hm⟩;refine⟨k1,o,ho,?_⟩
 cases o with
 |ok q=>
  obtain⟨b,rfl,hb,hK,hW⟩:=hm;have⟨g1,_⟩:=In.gE (s:=s) hk.ok hn tx ty f t q.1 q.2 ho;have hu:q.2.u=s.u:=by
   exact BO
  exact⟨g1,b,rfl,⟨hK.wide λi p=>by obtain p|p:=p;exact p;show i≠c.cb;omega,ae,λn q=>hk.u n<|hu▸q,g1.ok,hW⟩⟩
 |error z=>
  obtain⟨vl,vr,rfl,hF⟩:=hm;refine⟨vl,vr,rfl,hF.qA,λq=>?_,hF.k⟩;have wd:∀i,(dn c i\/w.heap.size<=i)->dn c i:=λi p=>by obtain p|p:=p;exact p;show i≠c.cb;omega
  exact⟨(hF.apart q).1.wide wd,(hF.apart q).2.wide wd⟩
def adf(s:jd)x y:=size (sub s.k x)<=48/\size (sub s.k y)<=48/\∃σ,sub σ (sub s.k x)=sub σ (sub s.k y)
def yX c cnt(s:jd)Λ x y f t w(e:Ending)w':=∃b,e=.returned (Mv b)/\Bq w w'/\∃s',jp x y f t s (.ok ((),s'))/\qh Λ s s'/\WK w' c cnt s' b/\s'.u=s.u
def TQ c(s:jd)x y f t w e w':=∃fl vl vr,e=Ag fl vl vr/\Bq w w'/\∃z,z.f=fl/\jp x y f t s (.error z)/\pD w' (dn c) z vl vr
def lR.ok{x y}{f t}{e}(h:lR c cnt s Λ x y f t w e w')(hc:adf s x y):yX c cnt s Λ x y f t w e w':=by
 obtain⟨k1,o,ho,hm⟩:=h;obtain⟨a1,a2,σ,a3⟩:=hc
 cases o with
 |ok q=>
  obtain⟨g,b,rfl,hk⟩:=hm;refine⟨b,rfl,k1,q.2,ho,g,hk,?_⟩;exact BO
 |error z=>
  exfalso;obtain⟨r,_⟩|⟨_,_,⟨θ,_,q'⟩|⟨r,_⟩⟩:=ho
  .omega
  .cases q'
  .exact r σ a3
def lR.no{x:Ty}(h:lR c cnt s Λ x y f t w e w')(hc:¬adf s x y):TQ c s x y f t w e w':=by
 obtain⟨k1,o,ho,hm⟩:=h
 cases o with
 |ok q=>
  exfalso;obtain⟨_,q'⟩|⟨a1,a2,⟨θ,hθ,q'⟩|⟨_,q'⟩⟩:=ho
  .cases q'
  .exact hc ⟨a1,a2,θ,hθ.one⟩
  .cases q'
 |error z=>
  obtain⟨vl,vr,rfl,hF⟩:=hm;exact⟨z.f,vl,vr,rfl,k1,z,rfl,ho,hF⟩
end
mutual
def oq:Nd->List BA
 |.mk k s _ L _ _ _=>if k=1 then[s]else lS L
def lS:List Nd->List BA
 |[]=>[]|x::l=>oq x++lS l
end
inductive qC(mk:jm)(nl:List BA):Nd->Prop where
 |leaf(k:Nat)(s:BA)(n f t a:Nat)(h:k=15\/k=3\/k=4\/k=5):qC mk nl (.mk k s n [] f t a)
 |low(s:BA)(n f t a:Nat)(h:s∈nl):qC mk nl (.mk 1 s n [] f t a)
 |pr(s:BA)(n:Nat)(x y:Nd)(f t a:Nat)(hx:qC mk nl x)(hy:qC mk nl y):qC mk nl (.mk 6 s n [x,y] f t a)
 |up(s:BA)(n:Nat)(L:List Nd)(f t a:Nat)(tk:List Ty)(m:Ty)(h:mk s=some (tk,m))(hl:L.length=tk.length)(hr:∀i(h:i<L.length),qC mk nl L[i]):qC mk nl (.mk 2 s n L f t a)
inductive ScE(mk:jm)(nl:List BA):(BA->Prop)->Nd->Prop where
 |low(dom:BA->Prop)(s:BA)(n f t a:Nat)(h:dom s):ScE mk nl dom (.mk 1 s n [] f t a)
 |up(dom:BA->Prop)(s:BA)(n f t a:Nat)(tk:List Ty)(m:Ty)(h:mk s=some (tk,m)):ScE mk nl dom (.mk 2 s n [] f t a)
 |leaf(dom:BA->Prop)(k:Nat)(s:BA)(n f t a:Nat)(h:k=3\/k=4\/k=5):ScE mk nl dom (.mk k s n [] f t a)
 |two(dom:BA->Prop)(k:Nat)(s:BA)(n:Nat)(x y:Nd)(f t a:Nat)(h:k=6\/k=7\/k=8)(hx:ScE mk nl dom x)(hy:ScE mk nl dom y):ScE mk nl dom (.mk k s n [x,y] f t a)
 |of(dom:BA->Prop)(s:BA)(n:Nat)(x y:Nd)(f t a:Nat)(hx:ScE mk nl dom x)(hv:vars [] (aI []<|es y).1=[])(hz:size (aI []<|es y).1<=1000)(hw:Whole (aI []<|es y).1):ScE mk nl dom (.mk 14 s n [x,y] f t a)
 |fn(dom:BA->Prop)(s:BA)(n:Nat)(x:Nd)(f t a:Nat)(hs:s∈nl)(hx:ScE mk nl (λv=>dom v\/v=s) x):ScE mk nl dom (.mk 9 s n [x] f t a)
 |lt(dom:BA->Prop)(c:Nat)(s:BA)(n:Nat)(x z:Nd)(f t a:Nat)(hs:s∈nl)(hc:c=10\/c=11)(hx:ScE mk nl (λv=>dom v\/(c=11/\v=s)) x)(hz:ScE mk nl (λv=>dom v\/v=s) z):ScE mk nl dom (.mk c s n [x,z] f t a)
 |ite(dom:BA->Prop)(s:BA)(n:Nat)(x y z:Nd)(f t a:Nat)(hx:ScE mk nl dom x)(hy:ScE mk nl dom y)(hz:ScE mk nl dom z):ScE mk nl dom (.mk 12 s n [x,y,z] f t a)
 |mt(dom:BA->Prop)(s:BA)(n:Nat)(x:Nd)(A:List (Nd×Nd))(f t a:Nat)(hx:ScE mk nl dom x)(hp:∀i(h:i<A.length),qC mk nl A[i].1)(he:∀i(h:i<A.length),ScE mk nl (λv=>dom v\/v∈oq A[i].1) A[i].2):ScE mk nl dom (.mk 13 s n (x::aT A) f t a)
structure MkFine(mk:jm):Prop where
 sz:∀x tk m,mk x=some (tk,m)->size (jv tk m)<=1000
 wh:∀x tk m,mk x=some (tk,m)->Whole (jv tk m)
 vs:∀x tk m,mk x=some (tk,m)->∀n,aD n (jv tk m)->aD n m
structure Ah nd c w cnt(s:jd)kb(Λ:Nat->Prop)(Γ:jc)gb Q dom v:Prop where
 we:WE w c cnt
 wk:WK w c cnt s kb
 hn:∀n,¬s.u n->Λ n
 wg:WG w c s Λ Γ gb
 pe:PE w Q nd v
 hq:∀b,Q b->b≠c.cb
 sc:ScE c.mks c.nl dom nd
 hd:∀x,dom x->Γ x≠none
 ft:Fit c cnt (nn nd)
 mf:MkFine c.mks
def yO nd:=∀(c:WC)(w:World)(cnt:Nat)(s:jd)(kb:Nat)(Λ:Nat->Prop)(Γ:jc)(gb:Nat)(Q:Nat->Prop)(dom:BA->Prop)(v:Value),Ah nd c w cnt s kb Λ Γ gb Q dom v->
 Cq 323 #[Pv c.eb,Mv kb,Mv gb,v] w (aX c (1100*nn nd) (1000*nn nd) (jf c.mks nd Γ) s cnt w)
section
variable {c:WC} {cnt:Nat}
def Ah.part(h:Ah nd c w cnt s kb Λ Γ gb Q dom v)(hb:Bq w w1)(hp:PE w Q x u)(hs:ScE c.mks c.nl dom x)(hx:nn x<=nn nd):Ah x c w1 cnt s kb Λ Γ gb Q dom u:=
 ⟨h.we.af hb,h.wk.af hb,h.hn,h.wg.af hb,hp.af hb,h.hq,hs,h.hd,h.ft.le ae hx,h.mf⟩
end
section
variable {c:WC} {cnt:Nat}
def Ec(mk:jm)s n x y f t a(Γ:jc):jf mk (.mk 8 s n [x,y] f t a) Γ=ja (jf mk x Γ) λa=>ja (jf mk y Γ) λb=>ja jz λv=>ja (jp a (qe b<|.var v) f t) λ_=>jk<|.var v:=by simp[jf,jx,qc,j6]
def wv(h:WK w c cnt s kb)(hn:∀n,¬s.u n->Λ n)(hf:Fr (λi=>i=c.cb) w w1):jz s (.ok (cnt+1,⟨s.k,λn=>s.u n\/n=cnt+1⟩))/\BN w w1 c (cnt+1) s ⟨s.k,λn=>s.u n\/n=cnt+1⟩ Λ kb/\jj Λ ⟨s.k,λn=>s.u n\/n=cnt+1⟩ (.var<|cnt+1):=by
 have hm:jz s (.ok (cnt+1,⟨s.k,λn=>s.u n\/n=cnt+1⟩)):=⟨cnt+1,λq=>by have:=h.u _ q;rw[us]at this;omega,rfl⟩;have⟨g1,g2,_⟩:=In.jX h.ok hn _ _ hm;exact⟨hm,⟨⟨h.k.fr hf h.n<|λ_ p _=>p,h.n,λn q=>by obtain q|q:=q;have:=h.u n q;unfold us at*;omega;rw[us];omega,g1.ok,h.wh⟩,g1.new,g1⟩,g2⟩
def ab3:CN ot:=qx rfl
def TR:ot≠qD:=by grind[qD]
def TS:lT≠qD:=by grind[qD]
def TW.fn{S1 S2}{a b}{va vb}(ha:TW w (dn c) S1 a va)(hb:TW w (dn c) S2 b vb)(hc:c.cb<w.heap.size):TW (w.alloc<|.cells #[va,vb] 67) (dn c) (1+S1+S2) (qe a b) (.iface 169<|.agg #[.string<|pn ot,.slice (some ⟨w.heap.size,0,none⟩) 2 2]):=by
 obtain⟨⟨x1,y1,e1,z1⟩,wx⟩:=ha;obtain⟨⟨x2,y2,e2,z2⟩,wy⟩:=hb;exact⟨⟨.aH ot [x1,x2],lU.ty ab3 y1 y2 (by show w.heap.size≠c.cb;omega),dF.adg ot TR e1 e2,by simp only[size,ah];omega⟩,⟨TR,wx,wy,trivial⟩⟩
def ZK{s}{a b}(ha:jj Λ s a)(hb:jj Λ s b):jj Λ s (qe a b):=by
 refine⟨λn q=>?_,λn q=>?_⟩
 .simp only[aD,bK,or_false]at q;exact q.elim (ha.use n)<|hb.use n
 .simp only[sub,aS,aD,bK,or_false]at q;exact q.elim (ha.loc n)<|hb.loc n
def lR.or{x}(h:lR c cnt s Λ x y f t w e w'):TQ c s x y f t w e w'\/yX c cnt s Λ x y f t w e w':=by
 by_cases hc:adf s x y
 .exact qw (h.ok hc)
 .exact qx (h.no hc)
end
section
variable {c:WC} {cnt:Nat}
def JF(mk:jm)s n x f t a(Γ:jc):jf mk (.mk 9 s n [x] f t a) Γ=ja jz λv=>ja (jf mk x<|ji Γ s<|ql<|.var v) λa=>jk<|qe (.var v) a:=by simp[jf,jx,qc,j6]
def ox w c n S(h:1<=S):TW w (dn c) S (.var<|n+1) (.iface 98<|Iv<|(n:Int)+1):=TW.of (x:=.var<|n+1) (by have:=cR.var (w:=w) (P:=dn c)<|n+1;simpa using this) trivial (by simpa[size]using h)
def Ed(h:TW w (dn c) S T (.iface ta xa))(hS:S<=900000):mJ w (dn c) (ql T) (.agg #[.iface ta xa,.slice none 0 0]):=⟨ta,xa,none,0,rfl,h.le hS,qx rfl⟩
def WG.set{w':World}{TU:Nat}{d:j5}{x:BA}(h:WG w c s Λ Γ gb)(he:bM w' (dn c) TU (ji Γ x d))(hn:TU≠c.cb)(hi:In.qK Λ s d)(hd:d.any.Nodup)(hx:x∈c.nl):WG w' c s Λ (ji Γ x d) TU where
 e:=he
 n:=hn
 i:=h.i.set x hi
 nd y d' q:=by
  rw[ji]at q;split at q
  .grind
  .exact h.nd y d' q
 dm y q:=by
  rw[ji]at q;split at q
  .rename_i e;rw[e];exact hx
  .exact h.dm y q
def BQ{x}(h:∀y,dom y->Γ y≠none):∀y,(dom y\/y=x)->ji Γ x d y≠none:=λy q=>by
 rw[ji];split
 .simp
 .grind
end
structure ZL(c:WC)S D(m:jh Ty)(s:jd)cnt w(ak:Nat)(T:Ty)(s1:jd)(ta:TypeId)(xa:Value)(iz:Nat)(w':World):Prop where
 F:Fr (λi=>i=c.cb) w w'
 c1:cnt<=ak
 c2:ak<=cnt+D
 we:WE w' c ak
 m:m s (.ok (T,s1))
 u:∀n,s1.u n->s.u n\/(cnt<n/\n<=ak)
 wh:∀n,Whole<|s1.k n
 n:iz≠c.cb
 k:KW w' (dn c) iz s1.k
 t:TW w' (dn c) S T (.iface ta xa)
structure adh{α:Type}(c:WC)D(m:jh α)(s:jd)cnt w(ak:Nat)(z:qi)(vl vr:Value)(w':World):Prop where
 F:Fr (λi=>i=c.cb) w w'
 c1:cnt<=ak
 c2:ak<=cnt+D
 we:WE w' c ak
 m:m s (.error z)
 f:pD w' (dn c) z vl vr
section
variable {c:WC} {cnt:Nat} {m:jh α} {g:α->jh Ty} {a:α}
def Mk{p:Prop}(h:p:=by
 split
 .obtain⟨q1,q2⟩:=h5;refine⟨λn q=>?_,q2⟩;obtain r|r:=q1 n q
  .grind
  .omega
 .exact h5):p:=h
def aX.and(h:aX c S D1 (g a) s1 ak w1 e w')(hm:m s (.ok (a,s1)))(hf:Fr (λi=>i=c.cb) w w1)(hc:cnt<=ak)(hu:∀n,s1.u n->s.u n\/(cnt<n/\n<=ak))(hD:ak+D1<=cnt+D):aX c S D (ja m g) s cnt w e w':=by
 obtain⟨F,aB,o,h1,h2,h3,h4,h5⟩:=h;refine⟨hf.trans F,aB,o,ae,ae,h3,qw ⟨a,s1,hm,h4⟩,?_⟩;unfold ade at*;exact Mk
def Ml{p:Prop}(h:p:=by
 obtain⟨vl,vr,rfl,hF⟩:=h5
 exact qx ⟨aB,z,vl,vr,rfl,F,h1,h2,h3,h4,hF⟩):p:=h
def aX.split{m}(h:aX c S D m s cnt w e w'):(∃ak z vl vr,e=Ag z.f vl vr/\adh c D m s cnt w ak z vl vr w')\/(∃ak T s1 ta xa iz,e=.returned (.tuple #[.iface ta xa,Mv iz])/\ZL c S D m s cnt w ak T s1 ta xa iz w'):=by
 obtain⟨F,aB,o,h1,h2,h3,h4,h5⟩:=h;obtain z|⟨T,s1⟩:=o
 .exact Ml
 .obtain⟨q1,q2,ta,xa,kb,rfl,q3,q4,q5⟩:=h5;exact qw ⟨aB,T,s1,ta,xa,kb,rfl,F,h1,h2,h3,h4,q1,q2,q3,q4,q5⟩
def adh.post(h:adh c D1 m s cnt w0 ak z vl vr w')(hf:Fr (λi=>i=c.cb) w w0)(hD:D1<=D):aX c S D (ja m g) s cnt w (Ag z.f vl vr) w':=⟨hf.trans h.F,ak,.error z,h.c1,by have:=h.c2;omega,h.we,qx ⟨z,h.m,rfl⟩,vl,vr,rfl,h.f⟩
def Mm(hw:WE w c cnt)(hk:WK w c cnt s kb)(ht:TW w (dn c) S T (.iface ta xa))(hb:Fr (λi=>i=c.cb) w0 w):aX c S D (jk T) s cnt w0 (.returned<|.tuple #[.iface ta xa,Mv kb]) w:=⟨hb,cnt,.ok (T,s),br _,ae,hw,rfl,λn q=>qx q,hk.wh,ta,xa,kb,rfl,hk.n,hk.k,ht⟩
def TQ.post{x:Ty}(h:TQ c s x y f t w0 e w')(hw:WE w0 c cnt)(hf:Fr (λi=>i=c.cb) w w0){g}:∃fl vl vr,e=Ag fl vl vr/\aX c S D (ja (jp x y f t) g) s cnt w e w':=by
 obtain⟨fl,vl,vr,rfl,k6,z,rfl,he,hF⟩:=h;exact⟨z.f,vl,vr,rfl,hf.trans<|Fr.of k6,cnt,.error z,br _,ae,hw.af k6,qx ⟨z,he,rfl⟩,vl,vr,rfl,hF⟩
def yX.up{x:Ty}(h:yX c cnt s Λ x y f t w0 e w')(hb:Bq w w0):yX c cnt s Λ x y f t w e w':=by
 obtain⟨b,h1,h2,h3⟩:=h;exact⟨b,h1,hb.trans<|h2.mono hb.size,h3⟩
def BN.and{w2}{cA kb2}{s2}(h:BN w w1 c ak s s1 Λ iz)(k:BN w1 w2 c cA s1 s2 Λ kb2):BN w w2 c cA s s2 Λ kb2:=⟨k.k,k.n,h.p.trans k.p⟩
def ZL.step{mk}{x}{T}{ta}{xa}(q:ZL c S D (jf mk x Γ) s cnt w0 ak T s1 ta xa iz w1)(hk:WK w c cnt s kb)(hn:∀n,¬s.u n->Λ n)(hg:WG w c s Λ Γ gb):BN w w1 c ak s s1 Λ iz/\jj Λ s1 T:=TP hk hn hg q.m q.u q.c1 q.wh q.n q.k
def Cl c S D(p:jh Ty)(s:jd)cnt w D1(p1:jh Ty)(s1:jd)ak w1:=∀e w',aX c S D1 p1 s1 ak w1 e w'->aX c S D p s cnt w e w'
def Cl.refl c S D(p:jh Ty)(s:jd)cnt w:Cl c S D p s cnt w D p s cnt w:=λ_ _ h=>h
def Cl.and{p}{w2}{cA}{s2}(h:Cl c S D p s cnt w D1 (ja m g) s1 ak w1)(hm:m s1 (.ok (a,s2)))(hf:Fr (λi=>i=c.cb) w1 w2)(hc:ak<=cA)(hu:∀n,s2.u n->s1.u n\/(ak<n/\n<=cA)){D2}(hD:cA+D2<=ak+D1):Cl c S D p s cnt w D2 (g a) s2 cA w2:=λe w' hh=>h e w'<|hh.and hm hf hc hu hD
def tO(hu:mN k)w c S(h:1<=S):TW w (dn c) S (.aH k []) (.iface 169<|.agg #[.string k,.slice none 0 0]):=by
 have q:=cR.aH (w:=w) (P:=dn c) k [] none 0 (λ_=>Zv) (qx<|qw<|qw hu) (qx rfl)<|λi h=>tP;rw[eJ hu]at q;exact TW.of q ⟨λe=>by obtain⟨a,r,h1,h2⟩:=hu;rw[e,show qD.toList=[116,111,111,32,108,97,114,103,101]from toList_mk _]at h1;injection h1 with h1 _;subst h1;revert h2;decide,trivial⟩ (by simpa[size,ah]using h)
def su k:jj Λ s (.aH k []):=⟨λn q=>by simp[aD,bK]at q,λn q=>by simp[sub,aS,aD,bK]at q⟩
end
section
variable {c:WC} {cnt:Nat}
def Mn(mk:jm)s n x y z f t a(Γ:jc):jf mk (.mk 12 s n [x,y,z] f t a) Γ=ja (jf mk x Γ) λa=>ja (jp a In.iZ (j3 x)<|j8 x) λ_=>ja (jf mk y Γ) λb=>ja (jf mk z Γ) λc=>ja (jp b c (j3 z)<|j8 z) λ_=>jk b:=by simp[jf,jx,qc,j6,qt]
end
def TX(w:World)R u v b(h:b≠R):((w.setCell ⟨R,0,none⟩ u).setCell ⟨R,1,none⟩ v).heap[b]? =w.heap[b]? :=(zu _ _ _ _ h).trans<|zu _ _ _ _ h
def Qt(w:World)R u v:((w.setCell ⟨R,0,none⟩ u).setCell ⟨R,1,none⟩ v).heap.size=w.heap.size:=by simp_all
section
variable {c:WC} {cnt:Nat}
def T0(hk:WK w c cnt s kb)(ht:∀n,aD n T->s.u n):(vars []<|sub s.k T).length<=cnt:=by
 refine JD (dx _ xc) λm hm=>?_;have q:=(bI (sub s.k T) [] m).1 hm;simp only[List.not_mem_nil,false_or]at q;have⟨n,q1,q2⟩:=(kX T).1 q;exact hk.u m<|hk.ok.use n m (ht n q1) q2
def ZM(hk:WK w c cnt s kb)(hg:WG w c s Λ Γ gb){x}(h:Γ x=some d):d.any.length<=cnt:=
 JD (hg.nd x d h) λn hn=>hk.u n<|(hg.i x d h).use n<|(hg.i x d h).sub n hn
noncomputable def kN (rc:Bool) (st:BA) (Γ:jc):jc:=if rc then qd Γ st else Γ
def Ee{z}(h:kN rc st Γ z=some d):Γ z=some d:=by
 cases rc
 .simpa[kN]using h
 .simp[kN,qd]at h;exact h.2
def JH(mk:jm)rc s n x z f t a(Γ:jc):jf mk (.mk (if rc then 11 else 10) s n [x,z] f t a) Γ=ja (j9 rc s x (jf mk x) Γ) λt=>λs1=>jf mk z (ji Γ s<|jq (kN rc s Γ) s1.k t<|qu x) s1:=by
 cases rc<;>simp[jf,jx,qc,j6,qt,In.sv,kN]
def SoP c(d:j5)w(e:Ending)w':=∃u,e=.returned u/\mJ w' (dn c) d u/\Bq w w'
abbrev ZN c(w:World)x:=(dn c x/\x<w.heap.size)\/w.heap.size+2<=x
def wC(hl:d.any=l){w4}(hz:c.cb<w.heap.size)(h4:Bq w w4)(ht:TW w4 (ZN c w) 900000 d.of (.iface ta xa))(hv:pB w4 (ZN c w) sa l):SoP c d w (.returned<|.agg #[.iface ta xa,.slice sa l.length sc]) ((w4.setCell ⟨w.heap.size+1,0,none⟩<|.iface ta xa).setCell ⟨w.heap.size+1,1,none⟩<|.slice sa l.length sc):=by
 subst hl;have hs:=Qt w4 (w.heap.size+1) (.iface ta xa)<|.slice sa d.any.length sc;have hb:∀b,ZN c w b->b<w4.heap.size->((w4.setCell ⟨w.heap.size+1,0,none⟩<|.iface ta xa).setCell ⟨w.heap.size+1,1,none⟩<|.slice sa d.any.length sc).heap[b]? =w4.heap[b]? :=λb p _=>TX _ _ _ _ _ (by obtain p|p:=p<;>omega);have hq:∀b,ZN c w b->b<w4.heap.size->dn c b:=λb p _=>by obtain p|p:=p;exact p.1;show b≠c.cb;omega
 exact⟨_,rfl,⟨ta,xa,sa,sc,rfl,ht.move ae hb hq,hv.move ae hb hq⟩,(h4.setCell ag _).setCell ag _⟩
def JI{y}(hw:WE w c cnt)(hk:WK w c cnt s kb)(hg:WG w c s Λ Γ gb)(hp:PE w Q x vx)(hS:S<=900000)(ht:TW w (dn c) S T v)(Qv:jj Λ s T)(hc:cnt<=850000)(hl:c.nl.length<=1000000):
 Cq 352 #[Mv kb,Mv gb,.agg #[.bool rc,Nv a,Nv y,.string st,vx],v] w (SoP c (jq (kN rc st Γ) s.k T<|qu x) w):=by
 have hf:=hk.BI ae<|qw trivial;have WH:=bX _ ht.wh λn _=>hf.wh n;have eG:=iY;have Mo:size (bG<|sub s.k T)<=900000:=by have:=eW WH (xq (T0 hk Qv.use) hc) ae;omega
 have zc:=hw.dh;have k0:Bq w ((w.alloc<|Cv #[.bool rc,Nv a,Nv y,Sv st,vx] 142).alloc<|Cv #[Zv,Lv none 0 0] 467):=(bw _).alloc ag _;have B1:=(Bx.new w #[.bool rc,Nv a,Nv y,Sv st,vx] 142).below<|bw<|Cv #[Zv,Lv none 0 0] 467;have R1:Hid (Bx ((w.alloc<|Cv #[.bool rc,Nv a,Nv y,Sv st,vx] 142).alloc<|Cv #[Zv,Lv none 0 0] 467) (w.heap.size+1) #[Zv,Lv none 0 0]):=by
  have:=Bx.new (w.alloc<|Cv #[.bool rc,Nv a,Nv y,Sv st,vx] 142) #[Zv,Lv none 0 0] 467;rw[aV]at this;exact ai this
 have kl:KW w (λi=>dn c i/\i<w.heap.size) kb s.k:=hk.k.move (br _) rfl (λ_ _ _=>rfl) (λi p z=>⟨p,z⟩);have GL:=hg.e.low;have HO:=sq (kl.af k0) ⟨hk.n,hk.k.lt⟩ hf hS<|ht.af k0;have HL:∀(W:World)(b:Nat)(tu:TypeId)(xu:Value)(Qu:Nat->Prop),Bq w W->bM W (ZN c w) b (kN rc st Γ)->cR W Qu (bG<|sub s.k T) (Fv tu xu)->Cq 359 #[Mv b,Mv kb,Fv tu xu] W (om (λi=>W.heap.size<=i) (jt (kN rc st Γ) s.k<|sub s.k T) W):=λW b tu xu Qu hb he hu=>
  ZH he ((kl.af hb).wide λi p=>qx p) (qx ⟨hk.n,hk.k.lt⟩) hf (NL:=c.nl) (λz q=>hg.dm z λe=>by cases hh:kN rc st Γ z with|none=>exact q hh|some d=>rw[Ee hh]at e;cases e) hl (λz d q=>by
   have:=ZM hk hg<|Ee q
   omega) hu ae
 have HWo:∀W:World,Bq w W->Cq 358 #[Mv gb,Sv st] W (ol (λi=>dn c i/\i<w.heap.size) (In.qH Γ st) W):=λW hb=>Qr (GL.af hb) st;have K0:=ai k0;obtain⟨tx,ax,rfl⟩:=hp.iface;obtain⟨tv,xv,rfl⟩:=ht.iface;go_enter func352,ntmps352;go_wp2_with fail;refine HO.mono ?_;rintro e w1⟨u,rfl,hu,k1⟩;have z0:=(uh K0).size;obtain⟨tu,xu,rfl⟩:=hu.iface;have Qw:cR w1 (ZN c w) (bG<|sub s.k T) (Fv tu xu):=hu.wide λi p=>by obtain p|p:=p;exact Or.inl p;simp only[aV]at p;exact Or.inr ae
 have K1:=K0.trans<|k1.mono K0.size;have B2:=ai<|B1.below k1;have R2:=R1.below k1;have T1:TW w1 (ZN c w) 900000 (sub s.k T) (Fv tu xu):=⟨⟨_,Qw,(dF.refl _).cut WH,Mo⟩,WH⟩;have U1:=ai Qw;have HI:=oB x w1 Q _<|hp.af K1;have⟨b1,b2,b3⟩:=uh B2;go_wp2_with fail;refine HI.mono ?_;rintro e w2⟨rfl,k2⟩;have K2:=K1.trans<|k2.mono K1.size;have B3:=ai<|B2.below k2;have R3:=ai<|R2.below k2;have T2:=T1.af k2;have U2:=U1.af k2;have⟨b1,b2,b3⟩:=uh B3;have⟨r1,r2,r3⟩:=uh R3
 cases hv:qu x with
 |false=>
  go_wp2_with fail;refine bodyPost_ret (v:=Av #[Fv tu xu,Lv none 0 0]) (by simp[results,xn,go_sem,r1]) rfl ?_;rw[hv];exact wC (d:=jq (kN rc st Γ) s.k T false) (l:=[]) (by simp[jq]) (sa:=none) (sc:=0) zc K2 T2<|qx rfl
 |true=>
  cases rc with
  |false=>
   have HLo:=HL w2 gb tu xu _ K2 (by
    have e:kN false st Γ=Γ:=by simp[kN]
    rw[e];exact(GL.af K2).wide λi p=>qx p) U2
   go_wp2_with fail;refine HLo.mono ?_;rintro e w4⟨sa,sc,rfl,hv4,k4⟩;have K4:=K2.trans<|k4.mono K2.size;have T4:=T2.af k4;have V4:Hid (pB w4 (ZN c w) sa<|jt (kN false st Γ) s.k<|sub s.k T):=ai (hv4.move (br _) (λ_ _ _=>rfl)<|λi p _=>qw (by have:=r3;omega));have⟨q1,q2,q3⟩:=(uh R3).below k4;go_wp2_with fail;refine bodyPost_ret (v:=Av #[Fv tu xu,Lv sa (jt (kN false st Γ) s.k<|sub s.k T).length sc]) (by simp[results,xn,go_sem,q1]) rfl ?_;rw[hv];exact wC (d:=jq (kN false st Γ) s.k T true) (by simp[jq]) (sc:=sc) zc K4 T4<|uh V4
  |true=>
   have HWi:=HWo w2 K2;go_wp2_with fail;refine HWi.mono ?_;rintro e w3⟨bn,rfl,zn,hn,k3⟩;have K3:=K2.trans<|k3.mono K2.size
   have HLo:=HL w3 bn tu xu _ K3 (by
    have e:kN true st Γ=qd Γ st:=by simp[kN]
    rw[e];exact hn.wide λi p=>qx p) (U2.af k3)
   have T3:=T2.af k3;have R4:=R3.below k3;have z3:=k3.size;go_wp2_with fail;refine HLo.mono ?_;rintro e w4⟨sa,sc,rfl,hv4,k4⟩;have K4:=K3.trans<|k4.mono K3.size;have T4:=T3.af k4;have V4:Hid (pB w4 (ZN c w) sa<|jt (kN true st Γ) s.k<|sub s.k T):=ai (hv4.move (br _) (λ_ _ _=>rfl)<|λi p _=>qw (by have:=r3;omega));have⟨q1,q2,q3⟩:=R4.below k4;go_wp2_with fail;refine bodyPost_ret (v:=Av #[Fv tu xu,Lv sa (jt (kN true st Γ) s.k<|sub s.k T).length sc]) (by simp[results,xn,go_sem,q1]) rfl ?_;rw[hv];exact wC (d:=jq (kN true st Γ) s.k T true) (by simp[jq]) (sc:=sc) zc K4 T4<|uh V4
def ScE.adi{nl}{K}{z}(h:ScE mk nl dom (.mk K st n [x,z] f t a))(hK:K=10\/K=11):st∈nl/\ScE mk nl (λv=>dom v\/(K=11/\v=st)) x/\ScE mk nl (λv=>dom v\/v=st) z:=by
 generalize yP:Nd.mk K st n [x,z] f t a=nd at h
 cases h
 case lt c s n x z f t a hs hc hx hz=>
  injection yP with e1 e2 e3 e4;injection e4 with e4 e5;injection e5 with e5;subst e1 e2 e4 e5;exact⟨hs,hx,hz⟩
 all_goals
  exfalso;injection yP with e1;omega
end
section
variable {c:WC} {cnt:Nat} {p:jh Ty}
def aX.below(h:aX c S D p s cnt w0 e w')(hb:Bq w w0):aX c S D p s cnt w e w':=⟨(Fr.of hb).trans h.1,h.2⟩
def Dsp w c cnt(s:jd)kb gb S D(p:jh Ty)fn T xs:=
 (∀W:World,Bq w W->Cq fn #[Pv c.eb,Mv kb,Mv gb,.agg xs] W (aX c S D p s cnt W))->
  Cq 323 #[Pv c.eb,Mv kb,Mv gb,.iface T<|.agg xs] w (aX c S D p s cnt w)
def Ef:
 (∀{tx ty ax ay},Dsp w c cnt s kb gb S D p 336 309 #[Nv f,Nv t,.iface tx ax,.iface ty ay])/\
 (∀{tx ty ax ay},Dsp w c cnt s kb gb S D p 337 311 #[Nv f,Nv t,.iface tx ax,.iface ty ay])/\
 (∀{tx ty ax ay},Dsp w c cnt s kb gb S D p 343 319 #[Nv f,Nv t,.iface tx ax,.iface ty ay])/\
 (∀{a y:Nat}{st tx ax},Dsp w c cnt s kb gb S D p 338 313 #[Nv f,Nv t,Nv a,Nv y,.string st,.iface tx ax])/\
 (∀{a y:Nat}{rc st tx tz ax az},Dsp w c cnt s kb gb S D p 339 315 #[Nv f,Nv t,.bool rc,Nv a,Nv y,.string st,.iface tx ax,.iface tz az])/\
 (∀{tx ty tz ax ay az},Dsp w c cnt s kb gb S D p 340 317 #[Nv f,Nv t,.iface tx ax,.iface ty ay,.iface tz az])/\
 (∀{n sc sa tx ax},Dsp w c cnt s kb gb S D p 341 201 #[Nv f,Nv t,.iface tx ax,.slice sa n sc])/\
 (∀{st tx ty ax ay},Dsp w c cnt s kb gb S D p 342 297 #[Nv f,Nv t,.string st,.iface tx ax,.iface ty ay]):=by
 refine⟨?_,?_,?_,?_,?_,?_,?_,?_⟩;all_goals
  intros;intro H;go_enter func323,ntmps323;go_wp2_with fail;refine(H _<|bw _).mono ?_;intro e w1 hp;have HP:=ai<|hp.below<|bw _;obtain⟨ak,zz,vl,vr,rfl,q⟩|⟨ak,T1,s1,wE,wF,iz,rfl,q⟩:=hp.split
  .go_wp2
   exact⟨rfl,HP⟩
  .go_wp2
   go_ret2;exact HP
def T7(hw:WE w c cnt)(hk:WK w c cnt s kb)(hS:1<=S):
 (∀n:Nat,Cq 323 #[Pv c.eb,Mv kb,Mv gb,.iface 326<|.agg #[Nv f,Nv t,Nv n]] w<|aX c S D (jk<|.aH mO []) s cnt w)/\
 (∀n:Bool,Cq 323 #[Pv c.eb,Mv kb,Mv gb,.iface 321<|.agg #[Nv f,Nv t,.bool n]] w<|aX c S D (jk<|.aH iA []) s cnt w)/\
 Cq 323 #[Pv c.eb,Mv kb,Mv gb,.iface 324<|.agg #[Nv f,Nv t]] w (aX c S D (jk<|.aH iB []) s cnt w):=by
 have HW:=ai hw;have HK:=ai hk;clear hw hk;refine⟨λn=>?_,λn=>?_,?_⟩;all_goals
  go_enter func323,ntmps323;go_wp2_with fail;first|refine qL.mono ?_|refine mZ.mono ?_|refine wG.mono ?_
  rintro e w1⟨rfl,rfl⟩
  go_wp2
  go_ret2;have k0:=(zo w.heap.size w).alloc<|br _;first|exact Mm (HW.af<|k0 _) (HK.af<|k0 _) (tO lV _ c _ hS) (Fr.of<|k0 _)|exact Mm (HW.af<|k0 _) (HK.af<|k0 _) (tO jY _ c _ hS) (Fr.of<|k0 _)|exact Mm (HW.af<|k0 _) (HK.af<|k0 _) (tO qM _ c _ hS)<|Fr.of<|k0 _
end
abbrev oT(c:WC)gv i:=i≠c.cb/\i≠gv
structure Ai w c gv cnt(s:jd)kb:Prop where
 k:KW w (oT c gv) kb s.k
 n:oT c gv kb
 u:∀n,s.u n->us cnt n
 ok:In.Ok s
 wh:∀n,Whole<|s.k n
section
variable {c:WC} {cnt:Nat}
def Ai.wk(h:Ai w c gv cnt s kb):WK w c cnt s kb:=⟨h.k.wide λ_ p=>p.1,h.n.1,h.u,h.ok,h.wh⟩
def Ai.of(h:WK w c cnt s kb)(hg:w.heap.size<=gv):Ai w c gv cnt s kb:=⟨h.k.move (br _) rfl (λ_ _ _=>rfl) (λi p z=>⟨p,ae⟩),⟨h.n,by have:=h.k.lt;omega⟩,h.u,h.ok,h.wh⟩
def Ai.fr(h:Ai w c gv cnt s kb)(hf:Fr (λi=>i=c.cb\/i=gv) w w'):Ai w' c gv cnt s kb:=⟨h.k.fr hf (λq=>q.elim h.n.1 h.n.2)<|λi p _ q=>q.elim p.1 p.2,h.n,h.u,h.ok,h.wh⟩
def Ai.af(h:Ai w c gv cnt s kb)(hb:Bq w w'):Ai w' c gv cnt s kb:=h.fr<|Fr.of hb
def af6 c gv cnt(s:jd)Λ x y f t w(e:Ending)w':=∃b,e=.returned (Mv b)/\Bq w w'/\∃s',jp x y f t s (.ok ((),s'))/\qh Λ s s'/\Ai w' c gv cnt s' b/\s'.u=s.u
def af7(h:WE w c cnt)(hg:gv<w.heap.size)(hk:Ai w c gv cnt s kb)(hn:∀n,¬s.u n->Λ n)(hc:cnt<=1000000)(hS:S<=900000){x}(hx:TW w (oT c gv) S x v)(hy:TW w (oT c gv) S y u)(tx:jj Λ s x)(ty:jj Λ s y)f t:
 Cq 324 #[Mv kb,v,u,.agg #[Nv f,Nv t]] w (λe w'=>TQ c s x y f t w e w'\/af6 c gv cnt s Λ x y f t w e w'):=by
 have zc:=h.dh;refine(Eb hk.k hk.n (hk.wk.BI hc<|qw trivial) hS hx hy f t s.u).mono ?_;rintro e w1⟨k1,o,ho,hm⟩
 cases o with
 |ok q=>
  obtain⟨b,rfl,hb,hK,hW⟩:=hm;have⟨g1,_⟩:=In.gE (s:=s) hk.ok hn tx ty f t q.1 q.2 ho;have hu:q.2.u=s.u:=by
   exact BO
  exact qw ⟨b,rfl,k1,q.2,ho,g1,⟨hK.wide λi p=>by obtain p|p:=p;exact p;exact⟨ae,ae⟩,⟨ae,ae⟩,λn q=>hk.u n<|hu▸q,g1.ok,hW⟩,hu⟩
 |error z=>
  obtain⟨vl,vr,rfl,hF⟩:=hm;refine qx ⟨z.f,vl,vr,rfl,k1,z,rfl,ho,hF.qA,λq=>?_,hF.k⟩;have wd:∀i,(oT c gv i\/w.heap.size<=i)->dn c i:=λi p=>by obtain p|p:=p;exact p.1;show i≠c.cb;omega
  exact⟨(hF.apart q).1.wide wd,(hF.apart q).2.wide wd⟩
end
def af8(c:WC)(gv S:Nat)(s:jd)(cnt:Nat)(w':World)(aB:Nat)(e:Ending)(o:Except qi ((Ty×jc)×jd)):Prop:=match o with
 |.ok ((T,g'),s')=>(∀n,s'.u n->s.u n\/(cnt<n/\n<=aB))/\(∀n,Whole<|s'.k n)/\∃ta xa kb,e=.returned (.tuple #[.iface ta xa,Mv kb])/\oT c gv kb/\KW w' (oT c gv) kb s'.k/\TW w' (oT c gv) S T (.iface ta xa)/\bM w' (oT c gv) gv g'|.error z=>∃vl vr,e=Ag z.f vl vr/\pD w' (dn c) z vl vr
def dR c gv S D(p:jh (Ty×jc))(s:jd)cnt w e w':=Fr (λi=>i=c.cb\/i=gv) w w'/\∃aB o,cnt<=aB/\aB<=cnt+D/\WE w' c aB/\p s o/\af8 c gv S s cnt w' aB e o
structure PaA nd c w cnt(s:jd)kb(Λ:Nat->Prop)g gv Q v:Prop where
 we:WE w c cnt
 wk:Ai w c gv cnt s kb
 hn:∀n,¬s.u n->Λ n
 e:bM w (oT c gv) gv g
 i:j7 Λ s g
 l:c.fD<=gv
 pp:PP w Q nd v
 hq:∀b,Q b->b≠c.cb/\b≠gv
 sc:qC c.mks c.nl nd
 ft:Fit c cnt (nn nd)
 mf:MkFine c.mks
def T8 nd:=∀(c:WC)(w:World)(cnt:Nat)(s:jd)(kb:Nat)(Λ:Nat->Prop)(g:jc)(gv:Nat)(Q:Nat->Prop)(v:Value),PaA nd c w cnt s kb Λ g gv Q v->
 Cq 353 #[Pv c.eb,Mv kb,Mv gv,v] w (dR c gv (1100*nn nd) (1000*nn nd) (jl c.mks nd g) s cnt w)
section
variable {c:WC} {cnt:Nat}
def ab4(hw:WE w c cnt)(hk:Ai w c gv cnt s kb)(ht:TW w (oT c gv) S T (.iface ta xa))(he:bM w (oT c gv) gv g)(hb:Fr (λi=>i=c.cb\/i=gv) w0 w):dR c gv S D (jk (T,g)) s cnt w0 (.returned<|.tuple #[.iface ta xa,Mv kb]) w:=⟨hb,cnt,.ok ((T,g),s),br _,ae,hw,rfl,λn q=>qx q,hk.wh,ta,xa,kb,rfl,hk.n,hk.k,ht,he⟩
def af9(hu:mN k)w c gv S(h:1<=S):TW w (oT c gv) S (.aH k []) (.iface 169<|.agg #[.string k,.slice none 0 0]):=TW.of (Eg w _ hu) ⟨λe=>by obtain⟨a,r,h1,h2⟩:=hu;rw[e,show qD.toList=[116,111,111,32,108,97,114,103,101]from toList_mk _]at h1;injection h1 with h1 _;subst h1;revert h2;decide,trivial⟩ (by simpa[size,ah]using h)
def BS w c gv n S(h:1<=S):TW w (oT c gv) S (.var<|n+1) (.iface 98<|Iv<|(n:Int)+1):=TW.of (x:=.var<|n+1) (by have:=cR.var (w:=w) (P:=oT c gv)<|n+1;simpa using this) trivial (by simpa[size]using h)
end
def BT{k}{cn}(hq:k=3/\cn=mO\/k=4/\cn=iA\/k=5/\cn=iB)st n f t a:T8 (.mk k st n [] f t a):=by
 intro c w cnt s kb Λ g gv Q v h;have hu:mN cn:=by obtain⟨-,rfl⟩|⟨-,rfl⟩|⟨-,rfl⟩:=hq;exact lV;exact jY;exact qM
 have en:nn (.mk k st n [] f t a)=1:=Za;have ep:jl c.mks (.mk k st n [] f t a) g=jk (.aH cn [],g):=by obtain⟨rfl,rfl⟩|⟨rfl,rfl⟩|⟨rfl,rfl⟩:=hq<;>simp[jl,qk]
 rw[en,ep];have hp:=h.pp;obtain⟨T,xs,rfl,hv⟩:∃T xs,v=Fv T (Av xs)/\(T=326/\cn=mO/\(∃n:Nat,xs=#[Nv f,Nv t,Nv n])\/T=321/\cn=iA/\(∃n:Bool,xs=#[Nv f,Nv t,.bool n])\/T=324/\cn=iB/\xs=#[Nv f,Nv t]):=by
  obtain⟨rfl,rfl⟩|⟨rfl,rfl⟩|⟨rfl,rfl⟩:=hq
  .cases hp;exact⟨_,_,rfl,qx ⟨rfl,rfl,_,rfl⟩⟩
  .cases hp;exact⟨_,_,rfl,qw<|qx ⟨rfl,rfl,_,rfl⟩⟩
  .cases hp;exact⟨_,_,rfl,qw<|qw ⟨rfl,rfl,rfl⟩⟩
 have k0:=(zo w.heap.size w).alloc (br _)<|Cv xs T;have HW:=h.we.af k0;have HK:=h.wk.af k0;have HE:=h.e.af k0;have K0:=ai k0;clear hq hp ep;obtain⟨rfl,rfl,n,rfl⟩|⟨rfl,rfl,n,rfl⟩|⟨rfl,rfl,rfl⟩:=hv;all_goals
  go_enter func353,ntmps353;go_wp2_with fail;first|refine qL.mono ?_|refine mZ.mono ?_|refine wG.mono ?_
  rintro e w1⟨rfl,rfl⟩
  go_wp2
  go_ret2;exact ab4 HW HK (af9 hu _ c gv _ ae) HE<|Fr.of K0
def adj st n f t a:T8 (.mk 15 st n [] f t a):=by
 intro c w cnt s kb Λ g gv Q v h;have en:nn (.mk 15 st n [] f t a)=1:=Za;have ep:jl c.mks (.mk 15 st n [] f t a) g=ja jz λv=>jk (.var v,g):=by simp[jl,qk]
 rw[en,ep];obtain⟨-,rfl⟩:∃_:Unit,v=Fv 337 (Av #[Nv f,Nv t]):=by cases h.pp;exact⟨(),rfl⟩
 have k0:Bq w (w.alloc<|Cv #[Nv f,Nv t] 337):=bw _;have zc:=h.we.dh;have Tc:=h.ft.a;rw[en]at Tc;have W0:=ai<|h.we.af k0;have⟨e1,e2,e3⟩:=h.we.bx;have HF:=mY cnt ae (h.we.af k0).ct;have HA:=ai h;have K0:=ai k0;have lg:=h.e.lt;have ll:=h.l;have lc:=h.we.l;clear h k0;go_enter func353,ntmps353;go_wp2_with fail;refine HF.mono ?_;rintro e w3⟨rfl,T9⟩;have⟨sw,F3⟩:=W0.fresh;rw[<-T9]at sw F3;clear T9 HF e1 e2 e3;have h:=uh HA;have Jf:=(Fr.of (S:=λi=>i=c.cb) K0).trans F3;have⟨yY,st3,ty3⟩:=wv h.wk.wk h.hn Jf;have FG:=Jf.fD (T:=λi=>i=c.cb\/i=gv) λ_ q=>Or.inl q;have HW3:=ai sw;have FF:=ai FG;have HNW:=ai yY;have adk:=ai Jf;clear h F3 Jf FG yY st3 ty3 sw
 go_wp2
 go_ret2;have h:=uh HA;have k3:=h.wk.fr FF;exact⟨FF,cnt+1,.ok ((.var<|cnt+1,g),⟨s.k,λn=>s.u n\/n=cnt+1⟩),ae,ae,HW3,qw ⟨cnt+1,_,HNW,rfl⟩,λn q=>q.imp id λq=>ae,h.wk.wh,_,_,kb,rfl,k3.n,k3.k,BS _ c gv cnt _ ae,h.e.move FF.size (adk.block _ h.e.lt ae) (λb p z=>FF.block b z<|λq=>q.elim p.1 p.2)<|λ_ p _=>p⟩
def adl st n f t a:T8 (.mk 1 st n [] f t a):=by
 intro c w cnt s kb Λ g gv Q v h;have en:nn (.mk 1 st n [] f t a)=1:=Za;have ep:jl c.mks (.mk 1 st n [] f t a) g=ja jz λv=>jk (.var v,ji g st<|ql<|.var v):=by simp[jl,qk]
 have eG:=iY;rw[en,ep];obtain⟨-,rfl⟩:∃_:Unit,v=Fv 356 (Av #[Nv f,Nv t,Sv st]):=by cases h.pp;exact⟨(),rfl⟩
 have⟨k0,B0⟩:=mM w #[Nv f,Nv t,Sv st] 356;have zc:=h.we.dh;have Tc:=h.ft.a;rw[en]at Tc;have W0:=h.we.af k0;have⟨e1,e2,e3⟩:=h.we.bx;have HF:=mY cnt ae (h.we.af k0).ct;have HA:=ai h;have K0:=ai k0;have lg:=h.e.lt;have ll:=h.l;have lc:=h.we.l;clear h k0;go_enter func353,ntmps353;go_wp2_with fail;refine HF.mono ?_;rintro e w3⟨rfl,T9⟩;have⟨HW3,F3⟩:=W0.fresh;rw[<-T9]at HW3 F3;clear T9 HF e1 e2 e3;have h:=uh HA;have Jf:=(Fr.of (S:=λi=>i=c.cb) K0).trans F3;have⟨HNW,st3,ty3⟩:=wv h.wk.wk h.hn Jf;have FF:=Jf.fD (T:=λi=>i=c.cb\/i=gv) λ_ q=>Or.inl q;have E3:=h.e.move (Q:=oT c gv) Jf.size (Jf.block _ h.e.lt ae) (λb p z=>Jf.block b z p.1)<|λ_ p _=>p;have C3:mJ w3 (oT c gv) (In.mono<|.var<|cnt+1) (Av #[Fv 98<|Iv<|(cnt:Int)+1,Lv none 0 0]):=⟨_,_,none,0,rfl,BS w3 c gv cnt _ ae,Or.inl rfl⟩;have⟨b1,b2,b3⟩:=B0.fr F3 ae;clear h F3 Jf st3 ty3 B0;go_wp2_with(refine mU rfl _ _ _ (Or.inr rfl) rfl E3 (λq=>q.2 rfl) C3 st rfl rfl ?_;intro w4 H' O';have S4:=ai H';have O4:=ai O';clear H' O');go_ret2;have h:=uh HA;have o:=uh O4;have F4:Fr (λi=>i=c.cb\/i=gv) w3 w4:=⟨o.os,o.tape,o.output,Jc,λi _ hi=>o.block i λe=>hi<|Or.inr e⟩;have k3:=h.wk.fr<|FF.trans F4
 exact⟨FF.trans F4,cnt+1,.ok ((.var<|cnt+1,ji g st<|ql<|.var<|cnt+1),⟨s.k,λn=>s.u n\/n=cnt+1⟩),ae,ae,HW3.one o ae,qw ⟨cnt+1,_,HNW,rfl⟩,λn q=>q.imp id λq=>ae,h.wk.wh,_,_,kb,rfl,k3.n,k3.k,BS _ c gv cnt _ ae,S4⟩
structure ZO(c:WC)gv S D(m:jh (Ty×jc))(s:jd)cnt w(ak:Nat)(T:Ty)(g1:jc)(s1:jd)(ta:TypeId)(xa:Value)(iz:Nat)(w':World):Prop where
 F:Fr (λi=>i=c.cb\/i=gv) w w'
 c1:cnt<=ak
 c2:ak<=cnt+D
 we:WE w' c ak
 m:m s (.ok ((T,g1),s1))
 u:∀n,s1.u n->s.u n\/(cnt<n/\n<=ak)
 wh:∀n,Whole<|s1.k n
 n:oT c gv iz
 k:KW w' (oT c gv) iz s1.k
 t:TW w' (oT c gv) S T (.iface ta xa)
 e:bM w' (oT c gv) gv g1
structure ZP{α:Type}(c:WC)gv D(m:jh α)(s:jd)cnt w(ak:Nat)(z:qi)(vl vr:Value)(w':World):Prop where
 F:Fr (λi=>i=c.cb\/i=gv) w w'
 c1:cnt<=ak
 c2:ak<=cnt+D
 we:WE w' c ak
 m:m s (.error z)
 f:pD w' (dn c) z vl vr
section
variable {c:WC} {cnt:Nat} {m:jh α} {gg:α->jh (Ty×jc)} {a:α}
def dR.split{m}(h:dR c gv S D m s cnt w e w'):(∃ak z vl vr,e=Ag z.f vl vr/\ZP c gv D m s cnt w ak z vl vr w')\/(∃ak T g1 s1 ta xa iz,e=.returned (.tuple #[.iface ta xa,Mv iz])/\ZO c gv S D m s cnt w ak T g1 s1 ta xa iz w'):=by
 obtain⟨F,aB,o,h1,h2,h3,h4,h5⟩:=h;obtain z|⟨⟨T,g1⟩,s1⟩:=o
 .exact Ml
 .obtain⟨q1,q2,ta,xa,kb,rfl,q3,q4,q5,q6⟩:=h5;exact qw ⟨aB,T,g1,s1,ta,xa,kb,rfl,F,h1,h2,h3,h4,q1,q2,q3,q4,q5,q6⟩
def ZP.post(h:ZP c gv D1 m s cnt w0 ak z vl vr w')(hf:Fr (λi=>i=c.cb\/i=gv) w w0)(hD:D1<=D):dR c gv S D (ja m gg) s cnt w (Ag z.f vl vr) w':=⟨hf.trans h.F,ak,.error z,h.c1,by have:=h.c2;omega,h.we,qx ⟨z,h.m,rfl⟩,vl,vr,rfl,h.f⟩
def dR.and(h:dR c gv S D1 (gg a) s1 ak w1 e w')(hm:m s (.ok (a,s1)))(hf:Fr (λi=>i=c.cb\/i=gv) w w1)(hc:cnt<=ak)(hu:∀n,s1.u n->s.u n\/(cnt<n/\n<=ak))(hD:ak+D1<=cnt+D):dR c gv S D (ja m gg) s cnt w e w':=by
 obtain⟨F,aB,o,h1,h2,h3,h4,h5⟩:=h;refine⟨hf.trans F,aB,o,ae,ae,h3,qw ⟨a,s1,hm,h4⟩,?_⟩;unfold af8 at*;exact Mk
def PCl c gv S D(p:jh (Ty×jc))(s:jd)cnt w D1(p1:jh (Ty×jc))(s1:jd)ak w1:=∀e w',dR c gv S D1 p1 s1 ak w1 e w'->dR c gv S D p s cnt w e w'
def PCl.refl c gv S D(p:jh (Ty×jc))(s:jd)cnt w:PCl c gv S D p s cnt w D p s cnt w:=λ_ _ h=>h
def PCl.and{p}{w2}{cA}{s2}(h:PCl c gv S D p s cnt w D1 (ja m gg) s1 ak w1)(hm:m s1 (.ok (a,s2)))(hf:Fr (λi=>i=c.cb\/i=gv) w1 w2)(hc:ak<=cA)(hu:∀n,s2.u n->s1.u n\/(ak<n/\n<=cA)){D2}(hD:cA+D2<=ak+D1):PCl c gv S D p s cnt w D2 (gg a) s2 cA w2:=λe w' hh=>h e w'<|hh.and hm hf hc hu hD
end
section
variable {c:WC} {cnt:Nat}
def PaA.part(h:PaA nd c w cnt s kb Λ g gv Q v)(hb:Bq w w1)(hp:PP w Q x u)(hs:qC c.mks c.nl x)(hx:nn x<=nn nd):PaA x c w1 cnt s kb Λ g gv Q u:=
 ⟨h.we.af hb,h.wk.af hb,h.hn,h.e.af hb,h.i,h.l,hp.af hb,h.hq,hs,h.ft.le ae hx,h.mf⟩
structure af_ w1 c gv ak(s s1:jd)(Λ:Nat->Prop)iz(g1:jc)T:Prop where
 k:Ai w1 c gv ak s1 iz
 n:∀n,¬s1.u n->Λ n
 p:qh Λ s s1
 i:j7 Λ s1 g1
 t:jj Λ s1 T
def ZO.step{mk}{w0}{T}{ta}{xa}(q:ZO c gv S D (jl mk x g) s cnt w0 ak T g1 s1 ta xa iz w1)(hk:Ai w c gv cnt s kb)(hn:∀n,¬s.u n->Λ n)(hi:j7 Λ s g):af_ w1 c gv ak s s1 Λ iz g1 T:=by
 have⟨g1',g2,g3⟩:=In.sA mk x g s Λ hk.ok hn hi _ s1 q.m;exact⟨⟨q.k,q.n,λn p=>by obtain r|r:=q.u n p;have:=hk.u n r;have:=q.c1;unfold us at*;omega;rw[us];omega,g1'.ok,q.wh⟩,g1'.new,g1',g3,g2⟩
end
section
variable {c:WC} {cnt:Nat}
def PaA.next(h:PaA nd c w cnt s kb Λ g gv Q v)(hf:Fr (λi=>i=c.cb\/i=gv) w w1)(hw:WE w1 c ak)(st:af_ w1 c gv ak s0 s1 Λ iz g1 T)(he:bM w1 (oT c gv) gv g1)(hp:PP w Q x u)(hs:qC c.mks c.nl x)(hz:ak+1000*nn x<=cnt+1000*nn nd)(hx:nn x<=nn nd):PaA x c w1 ak s1 iz Λ g1 gv Q u:=
 ⟨hw,st.k,st.n,he,st.i,h.l,hp.move hf.size (λb p z=>hf.block b z λq=>q.elim (h.hq b p).1 (h.hq b p).2)<|λ_ p _=>p,h.hq,hs,h.ft.le hz hx,h.mf⟩
def T_(mk:jm)s n x y f t a(g:jc):jl mk (.mk 6 s n [x,y] f t a) g=ja (jl mk x g) λa=>ja (jl mk y a.2) λb=>jk (qp a.1 b.1,b.2):=by simp[jl,qk,qr,j6]
end
def aga st n f t a{y}(Hx:T8 x)(Hy:T8 y):T8 (.mk 6 st n [x,y] f t a):=by
 intro c w cnt s kb Λ g gv Q v h;have en:nn (.mk 6 st n [x,y] f t a)=1+nn x+nn y:=Jg;rw[T_];obtain⟨sx,sy⟩:qC c.mks c.nl x/\qC c.mks c.nl y:=by
  cases h.sc with
  |pr _ _ _ _ _ _ _ hx hy=>exact⟨hx,hy⟩
 obtain⟨vx,vy,rfl,hx,HY⟩:∃vx vy,v=Fv 328 (Av #[Nv f,Nv t,vx,vy])/\PP w Q x vx/\PP w Q y vy:=by cases h.pp with|pr _ _ _ _ _ _ _ vx vy hx hy=>exact⟨vx,vy,rfl,hx,hy⟩
 have⟨k0,B0⟩:=mM w #[Nv f,Nv t,vx,vy] 328;have H1:=Hx c _ cnt s kb Λ g gv Q vx<|h.part k0 hx sx BU;have zc:=h.we.dh;have lg:=h.e.lt;have HA:=ai h;have C0:=PCl.refl c gv (1100*(1+nn x+nn y)) (1000*(1+nn x+nn y)) (In.andM (In.eh c.mks x g) λa=>In.andM (In.eh c.mks y a.2) λb=>In.cS (In.S_ a.1 b.1,b.2)) s cnt w;rw[en];have K0:=ai k0;obtain⟨tx,ax,rfl⟩:=hx.iface;obtain⟨ty,ay,rfl⟩:=HY.iface;go_enter func353,ntmps353;go_wp2_with fail;refine H1.mono ?_;intro e w1 hp;obtain⟨ak,zz,vl,vr,rfl,q⟩|⟨ak,T1,g1,s1,wE,wF,iz,rfl,q⟩:=hp.split
 .have HP:=q.post (S:=1100*(1+nn x+nn y)) (D:=1000*(1+nn x+nn y)) (gg:=λa=>ja (jl c.mks y a.2) λb=>jk (qp a.1 b.1,b.2)) (Fr.of K0) ae
  go_wp2
  exact⟨rfl,HP⟩
 have h:=uh HA;have F01:=(Fr.of (S:=λi=>i=c.cb\/i=gv) K0).trans q.F;have c1:=q.c1;have c2:=q.c2;have ST1:=q.step h.wk h.hn h.i;have C1:=C0.and q.m F01 q.c1 q.u (D2:=1000*(1+nn y)) ae;have H2:=Hy c w1 ak s1 iz Λ g1 gv Q _<|h.next F01 q.we ST1 q.e HY sy BU BU;have B1:=B0.fr q.F ae;obtain⟨b1,b2,b3⟩:=B1;have Qx:=ai q.t;go_wp2_with fail;refine H2.mono ?_;intro e w2 hp;obtain⟨cA,zz,vl,vr,rfl,q⟩|⟨cA,T2,g2,s2,ta2,xa2,kb2,rfl,q⟩:=hp.split
 .have HP:=q.post (S:=1100*(1+nn x+nn y)) (D:=1000*(1+nn y)) (gg:=λb=>jk (qp T1 b.1,b.2)) (Fr.refl _ _) ae
  go_wp2
  exact⟨rfl,C1 _ _ HP⟩
 have c3:=q.c1;have c4:=q.c2;have C2:=C1.and q.m q.F q.c1 q.u (D2:=1000) ae;have st2:=q.step ST1.k ST1.n ST1.i;have T12:=Qx.move q.F.size (λb p z=>q.F.block b z λr=>r.elim p.1 p.2)<|λ_ p _=>p;have ZQ:=ai q.t;have K2':=ai st2.k;have E2:=ai q.e;have W2':=ai q.we;have z2:=q.we.dh;have lg2:=q.e.lt;have HP:=Mp (w:=w2) wE ta2 wF xa2;go_wp2_with fail;refine HP.mono ?_;rintro e w3⟨rfl,rfl⟩
 go_wp2
 go_ret2;have k3:Bq w2 (w2.alloc<|Cv #[Fv wE wF,Fv ta2 xa2] 67):=bw _;obtain⟨⟨x1,y1,e1,z1⟩,wx⟩:=T12;have⟨⟨x2,y2,e2,z2'⟩,wy⟩:=uh ZQ;refine C2 _ _ (ab4 (W2'.af k3) (K2'.af k3) ⟨⟨.aH lT [x1,x2],lU.ty (qw<|qx rfl) y1 y2 ⟨ae,ae⟩,dF.adg lT (by rw[lT,qD];intro e;simp at e) e1 e2,?_⟩,?_⟩ (E2.af k3) (Fr.of k3))
 .simp only[size,ah];omega
 .exact⟨by rw[lT,qD];intro e;simp at e,wx,wy,trivial⟩
section
variable {c:WC} {cnt:Nat}
def adm(h:WE w c cnt)(hk:WK w c cnt s kb)(hd:mJ w (dn c) d v)(yP:d.any.Nodup)(hct:cnt<=1000000)(hz:size (sub s.k d.of)<=48->cnt+d.any.length<=1000000)f t:
 Cq 333 #[Pv c.eb,Mv kb,v,.agg #[Nv f,Nv t]] w (TO c d f t s cnt w):=by
 have hf:=hk.BI ae<|qw trivial;obtain⟨ta,xa,sa,sc,rfl,t1,T2⟩:=hd;have DL:Whole (sub s.k d.of):=bX _ t1.wh λn _=>hf.wh n;have k0:Bq w ((w.alloc<|Cv #[Fv ta xa,Lv sa d.any.length sc] 467).alloc<|Cv #[Nv f,Nv t] 131):=(bw _).alloc ag _;have B1:=(Bx.new w #[Fv ta xa,Lv sa d.any.length sc] 467).below<|bw<|Cv #[Nv f,Nv t] 131;have B2:Hid (Bx ((w.alloc<|Cv #[Fv ta xa,Lv sa d.any.length sc] 467).alloc<|Cv #[Nv f,Nv t] 131) (w.heap.size+1) #[Nv f,Nv t]):=by
  have:=Bx.new (w.alloc<|Cv #[Fv ta xa,Lv sa d.any.length sc] 467) #[Nv f,Nv t] 131;rw[aV]at this;exact ai this
 have HO:=sq (hk.k.af k0) hk.n hf (br _)<|t1.af k0;have hcz:=t1.TD hf<|br _;have zc:=h.dh;have K0:=ai k0;clear hk t1 k0;go_enter func333,ntmps333;go_wp2_with fail;refine HO.mono ?_;rintro e w1⟨u,rfl,hu,k1⟩;have HS:=oC _ w1 _ _ hu hcz;obtain⟨n1,Jh⟩:∃n,n=sz (bG<|sub s.k d.of):=⟨_,rfl⟩;rw[<-Jh]at HS;have E1:=BV (sub s.k d.of) DL;rw[<-Jh]at E1;obtain⟨tu,xu,rfl⟩:=hu.iface;have z0:=K0.size;simp only[aV]at z0;have ZR:=K0.trans<|k1.mono K0.size;have U1:=hu.wide (Q:=dn c) λi p=>by obtain p|p:=p;exact p;simp only[aV]at p;show i≠c.cb;omega
 have B3:=B1.below k1;have B4:=B2.below k1;clear hu k1 HO Jh B1 B2;go_wp2_with fail;refine HS.mono ?_;rintro e w2⟨rfl,k2⟩;have T':=ZR.trans<|k2.mono ZR.size;have⟨c3,f3,z3⟩:=B3.below k2;have⟨c4,f4,z4⟩:=B4.below k2;have U2:=U1.af k2;clear k2 HS U1 B3 B4;by_cases Ua:48<n1
 .have hm:(48:Int)<(n1:Int):=ae;have HT:=lW (w:=w2) (f:Int) (t:Int);go_wp2_with fail;refine HT.mono ?_;rintro e w3⟨rfl,K3⟩;clear HT;go_wp2_with fail;have TF:=T'.trans<|K3.mono T'.size;exact⟨rfl,Fr.of TF,qx ⟨E1.1.1 Ua,h.af TF,rfl⟩⟩
 .have hm:¬(48:Int)<(n1:Int):=ae;have hs:size (sub s.k d.of)<=48:=by have:=E1.1;omega
  have HA:=TN (sc:=sc) (h.af T') (T2.move T'.size (λi _ hi=>T'.block i hi)<|λ_ p _=>p) yP<|hz hs;have Mo:=E1.2 hs;rw[Mo]at U2;go_wp2_with fail;refine HA.mono ?_;rintro e w3⟨b,rfl,hb,W3,hs3,F3⟩;have ev:=Mi cnt d.any;have ZS:=U2.fr F3<|λi p _=>p;have Mq:=Eh hs3 (show dn c b by have:=T'.size;show b≠c.cb;omega) ZS ae (by rw[ev,gW];omega);rw[ev]at Mq;have hcut:bG (sub (jo<|o7 cnt d.any)<|sub s.k d.of)=sub (jo<|o7 cnt d.any) (sub s.k d.of):=wH (by rw[gW];exact hs)<|oo _ _ DL;rw[hcut]at Mq;have HF3:=(Fr.of T').trans F3;clear hs3 F3 HA ev ZS hcut Mo;go_wp2_with fail;refine Mq.mono ?_;rintro e w4⟨u4,rfl,U4,k4⟩;obtain⟨tu4,xu4,rfl⟩:=U4.iface;have K4:=ai k4;clear k4 Mq
  go_wp2
  go_ret;have k4:=uh K4;have f3:=HF3;refine⟨f3.trans<|Fr.of k4,qw ⟨hs,W3.af k4,tu4,xu4,rfl,U4.wide λi p=>?_⟩⟩;obtain p|p:=p
  .exact p
  .show i≠c.cb;have:=f3.size;omega
end
section
variable {c:WC} {cnt:Nat}
def bM.look{P}{b}(h:bM w P b Γ){x}{d}(hx:Γ x=some d):∃v,mJ w P d v/\(zy 216 (Mv b) (.string x) false).run xm w=.ok v w:=by
 obtain⟨L,h1,h2,h3⟩:=h;have hl:=h1.ms.look Mf dO (iY w) x trivial (λ_ _=>trivial) false
 cases hg:aY x L with
 |none=>grind|some v=>
  rw[hg]at hl;have⟨d',e,hs⟩:=h3 x v hg;rw[hx]at e;injection e with e;subst e;exact⟨v,hs,by simpa using hl⟩
def Ub(h:In.qK Λ s d)(hn:d.any.Nodup):d.any.length<=size (sub s.k d.of):=by
 have h1:=BH (V:=vars []<|sub s.k d.of) hn λv hv=>(bI (sub s.k d.of) [] v).2 (qw<|(kX d.of).2 ⟨v,h.sub v hv,by rw[(h.fix v hv).1];simp[aD]⟩);rw[cr]at h1;have h2:=cU (occs<|sub s.k d.of) [];have h3:=cV<|sub s.k d.of;simp only[vf]at h2;omega
def ZT(mk:jm)x n f t a{Γ}(h:Γ x=some d):jf mk (.mk 1 x n [] f t a) Γ=λs o=>(48<size (sub s.k d.of)/\o=.error (qv f t))\/(size (sub s.k d.of)<=48/\∃ρ s',In.wI d.any qf s (.ok (ρ,s'))/\o=.ok (sub (jo ρ)<|sub s.k d.of,s')):=by
 simp[jf,jx,In.BW,h]
def Uc{x}(h:Ah (.mk 1 x n [] f t a) c w cnt s kb Λ Γ gb Q dom (.iface 356<|.agg #[Nv f,Nv t,.string x])):
 Cq 323 #[Pv c.eb,Mv kb,Mv gb,.iface 356<|.agg #[Nv f,Nv t,.string x]] w (aX c (1100*nn (.mk 1 x n [] f t a)) (1000*nn (.mk 1 x n [] f t a)) (jf c.mks (.mk 1 x n [] f t a) Γ) s cnt w):=by
 have en:nn (.mk 1 x n [] f t a)=1:=Za;have hx:dom x:=by
  cases h.sc with
  |low _ _ _ _ _ _ hx=>exact hx|leaf _ _ _ _ _ _ _ hk=>omega
 obtain⟨d,hd⟩:∃d,Γ x=some d:=by
  cases hg:Γ x with
  |none=>exact absurd hg (h.hd x hx)|some d=>exact⟨d,rfl⟩
 rw[en,ZT c.mks x n f t a hd];have Tc:=h.ft.a;rw[en]at Tc;have yP:=h.wg.nd x d hd;have eG:=Ub (h.wg.i x d hd) yP;have k0:Bq w (w.alloc<|Cv #[Nv f,Nv t,Sv x] 356):=bw _;have⟨v,hv,sg⟩:=(h.wg.af k0).e.look hd;have H1:=adm (h.we.af k0) (h.wk.af k0) hv yP ae (λq=>ae) f t;obtain⟨ta,xa,sa,sc,rfl,Jy,TE⟩:=hv;have HA:=ai h;have K0:=ai k0;have HWD:=ai Jy.wh;go_enter func323,ntmps323;go_wp2_with fail;refine H1.mono ?_;rintro e w1⟨F1,hp⟩;obtain⟨hb,HW,rfl⟩|⟨hs,HW,tb,xb,rfl,HT⟩:=hp
 .have FF:=ai F1
  go_wp2
  exact⟨rfl,(Fr.of K0).trans FF,cnt,.error<|qv f t,br _,ae,HW,qx ⟨hb,rfl⟩,Zv,Zv,rfl,λ_=>⟨rfl,rfl⟩,λq=>by simp[qv]at q,qw rfl⟩
 .have FF:=(Fr.of (S:=λi=>i=c.cb) K0).trans F1
  go_wp2
  go_ret2;have h:=uh HA;refine⟨FF,cnt+d.any.length,.ok (sub (jo<|o7 cnt d.any)<|sub s.k d.of,⟨s.k,λn=>s.u n\/(cnt<n/\n<=cnt+d.any.length)⟩),ae,ae,HW,qw ⟨hs,_,_,⟨_,_,Ae cnt d.any yP h.wk.u,rfl⟩,rfl⟩,λn q=>q,h.wk.wh,tb,xb,kb,rfl,h.wk.n,h.wk.k.fr FF h.wk.n<|λ_ p _=>p,TW.of HT ?_ ?_⟩
  .exact oo _ _ (bX _ HWD λn _=>h.wk.wh n)
  .rw[gW];omega
end
section
variable {c:WC} {cnt:Nat}
def Ei(h:f_ w 98 base v (mW l)):∃sa sc,v=.slice sa l.length sc/\pB w (λi=>base<=i) sa l:=by
 by_cases hl:l=[]
 .subst hl;have⟨va,vc,e⟩:=dD h (n:=0) (by simp[mW]);exact⟨va,vc,e,qx rfl⟩
 .have ZI:0<(mW l).length:=by rw[eS];exact xy<|λe=>hl<|xg e
  obtain⟨g,cp,m,rfl,hg,kC,hm⟩:=gS h ZI;have hm:=uh hm;rw[eS]at hm;subst hm;refine⟨some ⟨g,0,none⟩,cp,rfl,qw ⟨g,rfl,hg,kC,λi hi=>?_⟩⟩;have:=kU h i (by rw[eS];exact hi);rw[this];simp[mW]
def Aj(h:WE w c cnt)(hm:cR w P m v)(hz:size m<=1000)(hc:cnt<=900000):Cq 334 #[Pv c.eb,v] w (Ea c cnt (vars [] m) w):=by
 have HV:=e_ hm ae;have hl:(vars [] m).length<=1000:=by
  rw[cr];have h2:=cU (occs m) [];have h3:=cV m;simp only[vf]at h2;omega
 obtain⟨ta,xa,rfl⟩:=hm.iface;have zc:=h.dh;go_enter func334,ntmps334;go_wp2_with fail;refine HV.mono ?_;rintro e w1⟨V,rfl,ho,K1⟩;obtain⟨sa,sc,rfl,hr⟩:=Ei ho;have HA:=TN (sc:=sc) (h.af K1) (hr.move (br _) (λ_ _ _=>rfl) (Q:=dn c) λi p _=>by show i≠c.cb;omega) (dx m List.nodup_nil) ae;go_wp2_with fail;refine HA.mono ?_;rintro e w2⟨b,rfl,HB,W2,S2,Qq⟩
 go_wp2
 go_ret;exact⟨b,rfl,xq K1.size HB,W2,S2,(Fr.of K1).trans Qq⟩
def agb P(tk:List Ty)m w gk(v3 v4:Value)wr:=
 ∃j:Nat,Hid (gk=j)/\j<=tk.length/\v4=Iv ((j:Int)-1)/\(∃ta xa,v3=.iface ta xa/\cR wr P (jv (tk.drop j) m) (.iface ta xa))/\Bq w wr
def tQ{tk}(h:Ta w P tk m v)(hl:tk.length<=1000):Cq 335 #[v] w (λe w'=>∃u,e=.returned u/\cR w' (λi=>P i\/w.heap.size<=i) (jv tk m) u/\Bq w w'):=by
 obtain⟨sa,sc,ta,xa,rfl,HR,hm⟩:=h;have⟨k0,B0⟩:=mM w #[Lv sa tk.length sc,Fv ta xa] 470;have HM:=hm.w.af k0;have K0:=ai k0;go_enter func335,ntmps335
 go_wp2
 go_loopg[3,4] tk.length (λgk v3 v4 wr=>agb (λi=>P i\/w.heap.size<=i) tk m w gk v3 v4 wr/\Bx wr w.heap.size #[Lv sa tk.length sc,Fv ta xa])
 case atStart=>
  refine⟨⟨tk.length,ai rfl,br _,iF,⟨ta,xa,rfl,?_⟩,uh K0⟩,B0⟩;rw[xf];exact HM.wide λi p=>qx p
 case round=>
  obtain⟨⟨j,c_,hj,rfl,⟨tt,xx,rfl,HT⟩,HK⟩,hB⟩:=hrel;obtain⟨b1,b2,b3⟩:=hB;have BB:=show Bx wr w.heap.size #[Lv sa tk.length sc,Fv ta xa]from⟨b1,b2,b3⟩;by_cases hj0:j=0
  .subst hj0;have hd:decide ((0:Int)<=((0:Nat):Int)-1)=false:=aK
   go_wp2
   go_ret;exact⟨_,rfl,by simpa using HT,HK⟩
  .obtain⟨i,rfl⟩:∃i,j=i+1:=⟨j-1,ae⟩;have ei:(((i+1:Nat):Int)-1)=(i:Int):=ae;rw[ei];have JK:i<tk.length:=ae;obtain⟨g,vs,rfl,hg,kC,bU⟩:=HR.resolve_left (λe=>by subst e;simp at JK);have⟨cg,tg⟩:=bU i JK;have cg':=(zd (a:=⟨g,i,none⟩)<|HK.block g kC).trans cg;have TG:=tg.w.af HK;have⟨tb,xb,evs⟩:=tg.w.iface;rw[evs]at cg' TG;have Ej:(0:Int)<=(i:Int):=ae;have bA:(i:Int)<(tk.length:Int):=ae;go_wp2_with fail;refine(tS (w:=wr) _ _ _ _).mono ?_;rintro e w7⟨rfl,rfl⟩;go_wp2_with fail;have k7:Bq wr (wr.alloc<|Cv #[Fv tb xb,Fv tt xx] 67):=bw _;go_roundg i
   case measure=>rw[uh c_];omega
   case rel=>
    refine⟨⟨i,ai rfl,ae,iF,⟨_,_,rfl,?_⟩,HK.trans<|k7.mono HK.size⟩,BB.below k7⟩;rw[qy JK];exact lU.ty ab3 (TG.wide λi p=>qx p) HT<|qw HK.size
end
section
variable {c:WC} {cnt:Nat}
def ZU tk m n(h:aD n m):aD n (jv tk m):=by
 induction tk with
 |nil=>exact h|cons t tk ih=>
  show aD n<|qe t<|jv tk m;simp only[aD,bK,or_false];exact qw ih
def qN tk m:size m+tk.length<=size (jv tk m):=by
 induction tk with
 |nil=>exact br _|cons t tk ih=>
  show _<=size (qe t<|jv tk m);simp only[size,ah,mV];omega
def Ek{l'}{eu}{u u'}(h:qn l ρ eu u u')(hl:∀v,v∈l↔v∈l'):qn l' ρ eu u u':=⟨h.fZ,λv q=>h.out v λr=>q<|(hl v).1 r,λv q=>h.all v<|(hl v).2 q,h.new,h.one,h.use⟩
def ZV:Tryz.prog.underlying 214=some (.map 9 470):=qkr
def adn w:(zeroValue 470).run xm w=.ok (.agg #[.slice none 0 0,.nilIface]) w:=qkr
def lQ.look{P}{b}{mk}(h:lQ w P b mk){x}{tk}{m}(hx:mk x=some (tk,m)):∃v,Ta w P tk m v/\∀w':World,w'.heap[b]? =w.heap[b]? ->(zy 214 (Mv b) (.string x) false).run xm w'=.ok v w':=by
 obtain⟨L,h1,h2,h3⟩:=h
 cases hg:aY x L with
 |none=>grind|some v=>
  have⟨tk',m',e,hs⟩:=h3 x v hg;rw[hx]at e;injection e with e;injection e with e1 e2;subst e1 e2;refine⟨v,hs,λw' hb=>?_⟩;have hl:=(h1.same hb).ms.look Mf ZV (adn w') x trivial (λ_ _=>trivial) false;rw[hg]at hl;simpa using hl
theorem Ta.move{P Q}{w'}{tk}{m}{v}(h:Ta w P tk m v)(hs:w.heap.size<=w'.heap.size)(hb:∀b,P b->b<w.heap.size->w'.heap[b]? =w.heap[b]?)(hq:∀b,P b->b<w.heap.size->Q b):Ta w' Q tk m v:=by
 obtain⟨sa,sc,ta,xa,rfl,q1,q2⟩:=h;exact⟨sa,sc,ta,xa,rfl,q1.move hs hb hq,q2.move hs hb hq⟩
def Ud(mk:jm)x n f t a(Γ:jc){tk}(h:mk x=some (tk,m)):jf mk (.mk 2 x n [] f t a) Γ=ja (qg (jv tk m) qf) λq=>jk q.1:=by
 simp[jf,jx,In.upM,h]
def agc a n k tb b w:(Instr.field 470 (.agg #[.slice a n k,.iface tb b]) 1).run xm w=.ok (.iface tb b) w:=qkr
structure RnA(c:WC)cnt(l:List Nat)w w' b:Prop where
 z:c.cb<b
 we:WE w' c (cnt+l.length)
 sb:eU w' (dn c) b (λv=>(o7 cnt l v).map Ty.var)
 F:Fr (λi=>i=c.cb) w w'
end
open Classical in
noncomputable def gp (R:ju) (D:Nat->Prop):ju:=λv=>if D v then R v else none
def wJ(R:ju):gp R (λ_=>False)=qf:=by funext v;simp[gp,qf]
def fc{D:Nat->Prop}{v:Nat}(h:D v):gp R D v=R v:=by simp[gp,h]
def sB{D:Nat->Prop}{v:Nat}(h:¬D v):gp R D v=none:=by simp[gp,h]
def i_{D:Nat->Prop}{v:Nat}(h:gp R D v=some n):D v/\R v=some n:=by grind[gp]
def comes(R:ju)(D:Nat->Prop)t(u:Nat->Prop)n:=u n\/∃v,¬D v/\aD v t/\R v=some n
def Qy{D:Nat->Prop}{u:Nat->Prop}{t:Ty}(ht:∀v,aD v t->R v≠none)(hi:∀v v' n,R v=some n->R v'=some n->v=v')(hu:∀v n,¬D v->R v=some n->¬u n):
 qn (vars [] t) (gp R D) (gp R<|λv=>D v\/aD v t) u (comes R D t u) where
 fZ v n h:=by have⟨h1,h2⟩:=i_ h;rw[fc<|qx h1];exact h2
 out v h:=by
  have h:¬aD v t:=λq=>h<|In.bu.2 q;by_cases q:D v
  .rw[fc<|qx q,fc q]
  .rw[sB<|λr=>r.elim q h,sB q]
 all v h:=by
  have h:=In.bu.1 h;rw[fc<|qw h];exact ht v h
 new v n h1 h2:=by
  have⟨h3,h4⟩:=i_ h2;by_cases q:D v
  .rw[fc q]at h1;rw[h1]at h4;cases h4
  .exact hu v n q h4
 one v v' n _ h2 h3:=hi v v' n (i_ h2).2 (i_ h3).2
 use n:=by
  rw[comes];refine⟨λq=>q.imp id ?_,λq=>q.imp id ?_⟩
  .rintro⟨v,h1,h2,h3⟩;exact⟨v,sB h1,by rw[fc<|qw h2];exact h3⟩
  .rintro⟨v,h1,h2⟩;have⟨h3,h4⟩:=i_ h2;by_cases q:D v
   .rw[fc q]at h1;rw[h1]at h4;cases h4
   .grind
def Ak{D:Nat->Prop}{t:Ty}(ht:∀v,aD v t->R v≠none)(hi:∀v v' n,R v=some n->R v'=some n->v=v')(hu:∀v n,¬D v->R v=some n->¬s.u n):
 qg t (gp R D) s (.ok ((sub (jo R) t,gp R<|λv=>D v\/aD v t),⟨s.k,comes R D t s.u⟩)):=by
 refine qw ⟨gp R<|λv=>D v\/aD v t,_,⟨_,_,Qy ht hi hu,rfl⟩,?_⟩;have e:sub (jo<|gp R<|λv=>D v\/aD v t) t=sub (jo R) t:=sub_congr t λn hn=>by unfold jo;rw[fc (D:=λv=>D v\/aD v t)<|qw hn]
 show Except.ok _=Except.ok _;rw[e]
def dS{β γ:Type}{m}{g:α->jh β}{h:β->jh γ}{o:Except qi (γ×jd)}(q:ja m (λa=>ja (g a) h) s o):ja (ja m g) h s o:=by
 obtain⟨x,q1,rfl⟩|⟨a,s1,q1,⟨x,q2,rfl⟩|⟨b,s2,q2,q3⟩⟩:=q
 .exact qx ⟨x,qx ⟨x,q1,rfl⟩,rfl⟩
 .exact qx ⟨x,qw ⟨a,s1,q1,q2⟩,rfl⟩
 .exact qw ⟨b,s2,qw ⟨a,s1,q1,q2⟩,q3⟩
def Ue m(q:jc×ju):=ja (qg m q.2) λi=>jk (i.1,q.1)
def gq(mk:jm)(tk:List Ty)m(L:List Nd)j g(ρ:ju):=ja (In.qO (tk.drop j) (L.drop j) (qr mk<|L.drop j) g ρ)<|Ue m
def wK{tk}(h:mk st=some (tk,m))n L f t a g:jl mk (.mk 2 st n L f t a) g=gq mk tk m L 0 g qf:=by
 simp[jl,qk,h,gq];rfl
def sC{tk:List Ty}(hl:L.length=tk.length)(hj:j<L.length){o:Except qi ((Ty×jc)×jd)}(h:ja (jl mk L[j] g) (λq=>ja (qg (tk[j]' ae) ρ) λi=>ja (jp q.1 i.1 (j3 L[j])<|j8 L[j]) λ_=>gq mk tk m L (j+1) q.2 i.2) s o):gq mk tk m L j g ρ s o:=by
 unfold gq at*;rw[qy hj,qy<|show j<tk.length by omega];show ja (ja (jl mk L[j] g) λq=>ja (qg (tk[j]' ae) ρ) λi=>ja (jp q.1 i.1 (j3 L[j])<|j8 L[j]) λ_=>In.qO (tk.drop<|j+1) (L.drop<|j+1) (qr mk<|L.drop<|j+1) q.2 i.2) (Ue m) s o;refine dS ?_;obtain⟨x,q1,rfl⟩|⟨a,s1,q1,h⟩:=h
 .exact qx ⟨x,q1,rfl⟩
 refine qw ⟨a,s1,q1,dS ?_⟩;obtain⟨x,q1,rfl⟩|⟨b,s2,q2,h⟩:=h
 .exact qx ⟨x,q1,rfl⟩
 exact qw ⟨b,s2,q2,dS h⟩
def El{tk}(hl:L.length=tk.length){o:Except qi ((Ty×jc)×jd)}(h:Ue m (g,ρ) s o):gq mk tk m L L.length g ρ s o:=by
 rw[gq];rw[xf,hl,xf];exact qw ⟨(g,ρ),s,rfl,h⟩
structure ZW(c:WC)cnt(tk:List Ty)m(R:ju):Prop where
 e:R=o7 cnt (vars [] m)
 a:∀i(h:i<tk.length)v,aD v tk[i]->aD v m
def ZW.one{c:WC}{cnt}{tk}(h:ZW c cnt tk m R):∀v v' n,R v=some n->R v'=some n->v=v':=λv v' n h1 h2=>by
 rw[h.e]at h1 h2;rw[o7]at h1 h2;split at h1<;>split at h2
 .rename_i q1 q2;injection h1 with h1;injection h2 with h2;exact D_ q1 q2 ae
 .cases h2
 .cases h1
 .cases h1
def ZW.num{c:WC}{cnt}{tk}(h:ZW c cnt tk m R){v:Nat}(q:R v=some n):cnt<n/\n<=cnt+(vars [] m).length:=by
 rw[h.e]at q;rw[o7]at q;split at q
 .rename_i q1;have:=List.idxOf_lt_length_iff.2 q1;injection q with q;omega
 .cases q
def ZW.has{c:WC}{cnt}{tk}(h:ZW c cnt tk m R){v:Nat}(q:aD v m):R v≠none:=by
 rw[h.e];rw[o7];rw[if_pos<|In.bu.2 q];simp
structure ZX(c:WC)gv cnt(s:jd)w(R:ju)(p:jh (Ty×jc))(Λ:Nat->Prop)tk m L j wr cj(sj:jd)kj g D:Prop where
 F:Fr (λi=>i=c.cb\/i=gv) w wr
 we:WE wr c cj
 wk:Ai wr c gv cj sj kj
 n:∀n,¬sj.u n->Λ n
 e:bM wr (oT c gv) gv g
 i:j7 Λ sj g
 r:In.m5 Λ sj (gp R D)
 fr:∀v n,¬D v->R v=some n->¬sj.u n
 u:∀n,sj.u n->s.u n\/(cnt<n/\n<=cj)
 c1:cnt+(vars [] m).length<=cj
 c2:cj+1000*bY (L.drop j)<=cnt+1000*(1+bY L)
 p:∀o,gq c.mks tk m L j g (gp R D) sj o->p s o
structure MdT(c:WC)gv cnt(s:jd)w(R:ju)(p:jh (Ty×jc))(Λ:Nat->Prop)tk m L j wr cj(sj:jd)kj g D T U f t:Prop where
 F:Fr (λi=>i=c.cb\/i=gv) w wr
 we:WE wr c cj
 wk:Ai wr c gv cj sj kj
 n:∀n,¬sj.u n->Λ n
 e:bM wr (oT c gv) gv g
 i:j7 Λ sj g
 r:In.m5 Λ sj (gp R D)
 fr:∀v n,¬D v->R v=some n->¬sj.u n
 u:∀n,sj.u n->s.u n\/(cnt<n/\n<=cj)
 c1:cnt+(vars [] m).length<=cj
 c2:cj+1000*bY (L.drop<|j+1)<=cnt+1000*(1+bY L)
 ti:jj Λ sj T
 ui:jj Λ sj U
 p:∀o,ja (jp T U f t) (λ_=>gq c.mks tk m L (j+1) g<|gp R D) sj o->p s o
section
variable {wr:World} {c:WC} {cnt cj c1:Nat} {sj:jd} {kj k1:Nat} {D:Nat->Prop} {p:jh (Ty×jc)} {tk:List Ty}
def ZX.arg{DD:Nat}(hR:ZW c cnt tk m R)(hl:L.length=tk.length)(hj:j<L.length)(iC:∀n,s.u n->us cnt n)(h:ZX c gv cnt s w R p Λ tk m L j wr cj sj kj g D)(q:ZO c gv S (1000*nn L[j]) (jl c.mks L[j] g) sj cj wr c1 T g1 s1 ta xa k1 w1):∃s2,MdT c gv cnt s w R p Λ tk m L j w1 c1 s2 k1 g1 (λv=>D v\/aD v (tk[j]' ae)) T (sub (jo R)<|tk[j]' ae) (j3 L[j])<|j8 L[j]:=by
 have st:=q.step h.wk h.n h.i;have u_:∀v n,¬D v->R v=some n->¬s1.u n:=λv n a b z=>by
  have hb:=hR.num b;obtain r|r:=q.u n z
  .exact h.fr v n a b r
  .have:=h.c1;omega
 have qJ:=Ak (R:=R) (s:=s1) (t:=tk[j]' ae) (λv o=>hR.has<|hR.a j ae v o) hR.one u_;have⟨g1',g2,g3⟩:=In.qP st.k.ok st.n (h.r.run st.p.run) (tk[j]' ae) _ _ qJ;have hd:bY (L.drop j)=nn L[j]+bY (L.drop<|j+1):=by rw[qy hj];rfl
 have c2:=h.c2;have qc1:=q.c1;have qc2:=q.c2;have hc1:=h.c1;have aie:∀v n,R v=some n->cnt<n/\n<=c1:=λv n r=>by have:=hR.num r;omega
 refine⟨⟨s1.k,comes R D (tk[j]' ae) s1.u⟩,h.F.trans q.F,q.we,⟨st.k.k,st.k.n,λn z=>?_,g1'.ok,st.k.wh⟩,g1'.new,q.e,st.i.run g1'.run,g3,λv n a b z=>?_,λn z=>?_,ae,ae,st.t.run g1'.run,g2,λo ho=>h.p o<|sC hl hj<|qw ⟨(T,g1),s1,q.m,qw ⟨_,_,qJ,ho⟩⟩⟩
 .obtain z|⟨v,_,_,z⟩:=z
  .exact st.k.u n z
  .have:=aie v n z;rw[us];omega
 .obtain z|⟨v',z1,z2,z3⟩:=z
  .grind
  .exact a (qw<|hR.one v' v n z3 b▸z2)
 .obtain z|⟨v,_,_,z⟩:=z
  .obtain r|r:=q.u n z
   .exact(h.u n r).imp id λr=>ae
   .omega
  .grind
def MdT.next(h:MdT c gv cnt s w R p Λ tk m L j wr cj sj kj g D T U f t)(hb:Bq wr w1){s'}(he:jp T U f t sj (.ok ((),s')))(hk:qh Λ sj s')(hw:Ai w1 c gv cj s' b)(hu:s'.u=sj.u):ZX c gv cnt s w R p Λ tk m L (j+1) w1 cj s' b g D:=
 ⟨h.F.trans<|Fr.of hb,h.we.af hb,hw,hk.new,h.e.af hb,h.i.run hk.run,h.r.run hk.run,λv n a b z=>h.fr v n a b<|hu▸z,λn z=>h.u n<|hu▸z,h.c1,h.c2,λo ho=>h.p o<|qw ⟨(),s',he,ho⟩⟩
def MdT.no(h:MdT c gv cnt s w R p Λ tk m L j wr cj sj kj g D T U f t)(hb:Bq wr w1)(hD:1000*(1+bY L)<=DD)(he:jp T U f t sj (.error z))(hf:pD w1 (dn c) z vl vr):dR c gv S DD p s cnt w (Ag z.f vl vr) w1:=
 ⟨h.F.trans<|Fr.of hb,cj,.error z,by have:=h.c1;omega,by have:=h.c2;omega,h.we.af hb,h.p _<|qx ⟨z,he,rfl⟩,vl,vr,rfl,hf⟩
def ZX.no(hl:L.length=tk.length)(hj:j<L.length)(h:ZX c gv cnt s w R p Λ tk m L j wr cj sj kj g D)(hD:1000*(1+bY L)<=DD)(q:ZP c gv (1000*nn L[j]) (jl c.mks L[j] g) sj cj wr c1 z vl vr w1):dR c gv S DD p s cnt w (Ag z.f vl vr) w1:=
 ⟨h.F.trans q.F,c1,.error z,by have:=h.c1;have:=q.c1;omega,by
  have hd:bY (L.drop j)=nn L[j]+bY (L.drop<|j+1):=by rw[qy hj];rfl
  have:=h.c2;have:=q.c2;omega,q.we,h.p _<|sC hl hj<|qx ⟨z,q.m,rfl⟩,vl,vr,rfl,q.f⟩
def ZX.done(hR:ZW c cnt tk m R)(hl:L.length=tk.length)(h:ZX c gv cnt s w R p Λ tk m L L.length wr cj sj kj g D)(hb:Bq wr w1)(hD:1000*(1+bY L)<=DD)(ht:TW w1 (oT c gv) S (sub (jo R) m) (.iface ta xa)):dR c gv S DD p s cnt w (.returned<|.tuple #[.iface ta xa,Mv kj]) w1:=by
 have qJ:=Ak (R:=R) (s:=sj) (t:=m) (λv o=>hR.has o) hR.one h.fr;refine⟨h.F.trans<|Fr.of hb,cj,.ok ((sub (jo R) m,g),⟨sj.k,comes R D m sj.u⟩),by have:=h.c1;omega,by have:=h.c2;omega,h.we.af hb,h.p _<|El hl<|qw ⟨_,_,qJ,rfl⟩,λn z=>?_,h.wk.wh,ta,xa,kj,rfl,h.wk.n,h.wk.k.af hb,ht,h.e.af hb⟩;obtain z|⟨v,_,_,z⟩:=z
 .exact h.u n z
 .have:=hR.num z;exact qw ⟨this.1,by have:=h.c1;omega⟩
def eU.bare{R:ju}(h:eU w P b (λv=>(R v).map Ty.var)):eU w Q b (λv=>(R v).map Ty.var):=by
 obtain⟨L,h1,h2,h3,h4⟩:=h;refine⟨L,h1,h2,λn u hu=>?_,h4⟩;have⟨t,e,ht⟩:=h3 n u hu;refine⟨t,e,?_⟩
 cases hr:R n with
 |none=>simp[hr]at e|some k=>
  simp only[hr,Option.map_some,Option.some.injEq]at e;subst e
  cases ht
  exact .var k
end
structure gd n0 M c w0 cnt0(s0:jd)Λ(Γ:jc)gb(Q:Nat->Prop)(dom:BA->Prop)D p(P:World->jd->Prop)(s:jd)cnt kb w:Prop where
 wg:WG w0 c s0 Λ Γ gb
 hq:∀b,Q b->b≠c.cb
 hd:∀x,dom x->Γ x≠none
 ft:Fit c cnt0 n0
 mf:MkFine c.mks
 f:Fr (λi=>i=c.cb) w0 w
 we:WE w c cnt
 st:BN w0 w c cnt s0 s Λ kb
 cl:Cl c (1100*n0) (1000*n0) M s0 cnt0 w0 D p s cnt w
 lv:∀w' s',Fr (λi=>i=c.cb) w w'->qh Λ s s'->P w' s'
 cn:cnt+D<=cnt0+1000*n0
section
variable {n0:Nat} {M:jh Ty} {c:WC} {cnt0 cnt D2 kb0:Nat} {P P':World->jd->Prop} {post:Ending->World->Prop}
def gd.start(h:Ah nd c w0 cnt0 s0 kb0 Λ Γ gb Q dom v)(e:jf c.mks nd Γ=q):gd (nn nd) (jf c.mks nd Γ) c w0 cnt0 s0 Λ Γ gb Q dom (1000*nn nd) q (λ_ _=>True) s0 cnt0 kb0 w0:=⟨h.wg,h.hq,h.hd,h.ft,h.mf,Fr.refl _ _,h.we,⟨h.wk,h.hn,In.Kp.refl h.wk.ok h.hn⟩,λ_ _ h=>e▸h,λ_ _ _ _=>trivial,br _⟩
def gd.p(H:gd n0 M c w0 cnt0 s0 Λ Γ gb Q dom D q P s cnt kb w):P w s:=H.lv _ _ (Fr.refl _ _)<|In.Kp.refl H.st.k.ok H.st.n
def gd.af(H:gd n0 M c w0 cnt0 s0 Λ Γ gb Q dom D q P s cnt kb w)(k:Bq w w'):gd n0 M c w0 cnt0 s0 Λ Γ gb Q dom D q P s cnt kb w':=
 ⟨H.wg,H.hq,H.hd,H.ft,H.mf,H.f.trans<|Fr.of k,H.we.af k,⟨H.st.k.af k,H.st.n,H.st.p⟩,λe w2 h=>H.cl e w2 ⟨(Fr.of k).trans h.1,h.2⟩,λw2 s2 a b=>H.lv w2 s2 ((Fr.of k).trans a) b,H.cn⟩
def gd.drew(H:gd n0 M c w0 cnt0 s0 Λ Γ gb Q dom D q P s cnt kb w):gd n0 M c w0 cnt0 s0 Λ Γ gb Q dom D q P s cnt kb w.drew:=H.af (zo _ _).drew
def gd.add(H:gd n0 M c w0 cnt0 s0 Λ Γ gb Q dom D q P s cnt kb w)(h:∀w' s',Fr (λi=>i=c.cb) w w'->qh Λ s s'->P' w' s'):gd n0 M c w0 cnt0 s0 Λ Γ gb Q dom D q (λw s=>P w s/\P' w s) s cnt kb w:=⟨H.wg,H.hq,H.hd,H.ft,H.mf,H.f,H.we,H.st,H.cl,λw s a b=>⟨H.lv w s a b,h w s a b⟩,H.cn⟩
def gd.box{C}{t}(H:gd n0 M c w0 cnt0 s0 Λ Γ gb Q dom D q P s cnt kb w):gd n0 M c w0 cnt0 s0 Λ Γ gb Q dom D q (λw' s=>P w' s/\Bx w' w.heap.size C) s cnt kb (w.alloc<|.cells C t):=
 (H.af<|bw _).add λw' _ a _=>(Bx.new w C t).fr a (by have:=H.we.dh;omega)
def gd.asks(H:gd n0 M c w0 cnt0 s0 Λ Γ gb Q dom D q P s cnt kb w)(K:Bq w W)(he:bM W (dn c) b (ji Γ st d))(hz:w.heap.size<=b)(hi:In.qK Λ s d)(ha:d.any.Nodup)(iC:st∈c.nl)(hx:PE w0 Q x vx)(sx:ScE c.mks c.nl Tx x)(hd:∀y,Tx y->dom y\/y=st)(hD:1000*nn x<=D)(hn:nn x<=n0):Ah x c W cnt s kb Λ (ji Γ st d) b Q Tx vx:=
 ⟨H.we.af K,H.st.k.af K,H.st.n,(H.wg.fr H.f H.st.p.run).set he (by have:=H.we.dh;omega) hi ha iC,(hx.move H.f.size (λb p z=>H.f.block b z<|H.hq b p)<|λ_ p _=>p).af K,H.hq,sx,λy q=>BQ H.hd y<|hd y q,H.ft.le qBw hn,H.mf⟩
def gd.exG{g:Ty->jh Ty}{Γ'}{TU}(H:gd n0 M c w0 cnt0 s0 Λ Γ gb Q dom D (ja (jf c.mks x Γ') g) P s cnt kb w)(K:Bq w W)(Hx:yO x)(a:Ah x c W cnt s kb Λ Γ' TU Q Tx vx)(ok:∀T ta xa s' aB JM w',gd n0 M c w0 cnt0 s0 Λ Γ gb Q dom D2 (g T) (λw s=>P w s/\TW w (dn c) (1100*nn x) T (.iface ta xa)/\jj Λ s T) s' aB JM w'->post (.returned<|.tuple #[.iface ta xa,Mv JM]) w')(hD:D2+1000*nn x<=D:=by omega)(bad:∀f l r w',aX c (1100*n0) (1000*n0) M s0 cnt0 w0 (Ag f l r) w'->post (Ag f l r) w':=by exact λ_ _ _ _ h=>⟨rfl,h⟩):
 Cq 323 #[Pv c.eb,Mv kb,Mv TU,vx] W post:=by
 refine(Hx c W cnt s kb Λ Γ' TU Q Tx vx a).mono λe w' hp=>?_;obtain⟨ak,z,vl,vr,rfl,q⟩|⟨ak,T,s1,ta,xa,iz,rfl,q⟩:=hp.split
 .exact bad _ _ _ _ (H.cl _ _<|q.post (Fr.of K) ae)
 .have⟨st,ty⟩:=q.step a.wk a.hn a.wg;have:=q.c1;have:=q.c2;have:=H.cn;have F:=(Fr.of (S:=λi=>i=c.cb) K).trans q.F;exact ok T ta xa s1 ak iz w' ⟨H.wg,H.hq,H.hd,H.ft,H.mf,H.f.trans F,q.we,H.st.and ⟨st.k,st.n,st.p⟩,H.cl.and q.m F q.c1 q.u ae,λw2 s2 a b=>⟨H.lv w2 s2 (F.trans a)<|st.p.trans b,q.t.fr a<|λ_ p _=>p,ty.run b.run⟩,ae⟩
def gd.ex{g:Ty->jh Ty}(H:gd n0 M c w0 cnt0 s0 Λ Γ gb Q dom D (ja (jf c.mks x Γ) g) P s cnt kb w)(Hx:yO x)(hx:PE w0 Q x vx)(sx:ScE c.mks c.nl dom x)(ok:∀T ta xa s' aB JM w',gd n0 M c w0 cnt0 s0 Λ Γ gb Q dom D2 (g T) (λw s=>P w s/\TW w (dn c) (1100*nn x) T (.iface ta xa)/\jj Λ s T) s' aB JM w'->post (.returned<|.tuple #[.iface ta xa,Mv JM]) w')(hD:D2+1000*nn x<=D:=by omega)(hn:nn x<=n0:=by rw[en];omega)(bad:∀f l r w',aX c (1100*n0) (1000*n0) M s0 cnt0 w0 (Ag f l r) w'->post (Ag f l r) w':=by exact λ_ _ _ _ h=>⟨rfl,h⟩):
 Cq 323 #[Pv c.eb,Mv kb,Mv gb,vx] w post:=
 H.exG (zo _ _) Hx ⟨H.we,H.st.k,H.st.n,H.wg.fr H.f H.st.p.run,hx.move H.f.size (λb p z=>H.f.block b z<|H.hq b p)<|λ_ p _=>p,H.hq,sx,H.hd,H.ft.le qBw hn,H.mf⟩ ok hD bad
section
variable {Y:Ty} {g:Unit->jh Ty} {v1 v2:Value}
def gd.eqc(H:gd n0 M c w0 cnt0 s0 Λ Γ gb Q dom D (ja (jp X Y f t) g) P s cnt kb w)(K:Bq w W)(hx:TW W (dn c) S X v1)(hy:TW W (dn c) S Y v2)(tx:jj Λ s X)(ty:jj Λ s Y)(hS:S<=900000:=by omega):
 Cq 324 #[Mv kb,v1,v2,.agg #[Nv f,Nv t]] W λe w'=>(∃fl l r,e=Ag fl l r/\aX c (1100*n0) (1000*n0) M s0 cnt0 w0 e w')\/yX c cnt s Λ X Y f t w e w':=by
 have:=H.cn;have:=H.ft.a;refine(af5 (H.we.af K) (H.st.k.af K) H.st.n ae hS hx hy tx ty f t).mono λe w' q=>?_;obtain q|q:=q.or
 .obtain⟨fl,l,r,h1,h2⟩:=q.post (H.we.af K)<|Fr.of K;exact .inl ⟨fl,l,r,h1,H.cl _ _ h2⟩
 .exact .inr (q.up K)
def gd.eqd(H:gd n0 M c w0 cnt0 s0 Λ Γ gb Q dom D (ja (jp X Y f t) g) P s cnt kb w)(q:yX c cnt s Λ X Y f t w (.returned u) w'):∃JM s',u=Mv JM/\gd n0 M c w0 cnt0 s0 Λ Γ gb Q dom D (g ()) P s' cnt JM w':=by
 obtain⟨b,e,k,s',he,kp,wk,hu⟩:=q;injection e with e;exact⟨b,s',e,H.wg,H.hq,H.hd,H.ft,H.mf,H.f.trans<|Fr.of k,H.we.af k,⟨wk,kp.new,H.st.p.trans kp⟩,H.cl.and he (Fr.of k) (br _) (λn q=>qx<|hu▸q)<|br _,λw2 s2 a b=>H.lv w2 s2 ((Fr.of k).trans a)<|kp.trans b,H.cn⟩
def gd.eq(H:gd n0 M c w0 cnt0 s0 Λ Γ gb Q dom D (ja (jp X Y f t) g) P s cnt kb w)(hx:TW w (dn c) S X v1)(hy:TW w (dn c) S Y v2)(tx:jj Λ s X)(ty:jj Λ s Y)(ok:∀JM s' w',gd n0 M c w0 cnt0 s0 Λ Γ gb Q dom D (g ()) P s' cnt JM w'->post (.returned<|Mv JM) w')(hS:S<=900000:=by omega)(bad:∀f l r w',aX c (1100*n0) (1000*n0) M s0 cnt0 w0 (Ag f l r) w'->post (Ag f l r) w':=by exact λ_ _ _ _ h=>⟨rfl,h⟩):Cq 324 #[Mv kb,v1,v2,.agg #[Nv f,Nv t]] w post:=
 (H.eqc (zo _ _) hx hy tx ty hS).mono λe w' q=>by
  obtain⟨fl,l,r,rfl,q⟩|q:=q
  .exact bad _ _ _ _ q
  .have h:=q;obtain⟨b,rfl,-⟩:=q;have⟨JM,s',e,H⟩:=H.eqd h
   cases e
   exact ok _ _ _ H
end
def gd.new{g}(H:gd n0 M c w0 cnt0 s0 Λ Γ gb Q dom D (ja jz g) P s cnt kb w)(ok:∀s' w',gd n0 M c w0 cnt0 s0 Λ Γ gb Q dom D2 (g<|cnt+1) (λw s=>P w s/\jj Λ s (.var<|cnt+1)) s' (cnt+1) kb w'->post (.returned<|Iv<|(cnt:Int)+1) w')(hD:D2+1<=D:=by omega):Cq 47 #[Pv c.cb] w post:=by
 have cn:=H.cn;have:=H.ft.a;have⟨W,F⟩:=H.we.fresh;have⟨m,st,ty⟩:=wv H.st.k H.st.n F;refine(mY cnt ae H.we.ct).mono ?_;rintro e w'⟨rfl,rfl⟩;exact ok _ _ ⟨H.wg,H.hq,H.hd,H.ft,H.mf,H.f.trans F,W,H.st.and st,H.cl.and m F ae (λn q=>q.imp id λq=>ae) ae,λw2 s2 a b=>⟨H.lv w2 s2 (F.trans a)<|st.p.trans b,ty.run b.run⟩,ae⟩
def Uf w c n:TW w (dn c) 1 (.var n) (.iface 98<|Nv n):=TW.of (x:=.var n) (cR.var n) trivial (by simp[size])
def TW.pr{a b:Ty}{va vb}(ha:TW w (dn c) S1 a va)(hb:TW w (dn c) S2 b vb)(hc:c.cb<w.heap.size):TW (w.alloc<|.cells #[va,vb] 67) (dn c) (1+S1+S2) (qp a b) (.iface 169<|.agg #[.string<|pn lT,.slice (some ⟨w.heap.size,0,none⟩) 2 2]):=by
 obtain⟨⟨x1,y1,e1,z1⟩,wx⟩:=ha;obtain⟨⟨x2,y2,e2,z2⟩,wy⟩:=hb;exact⟨⟨.aH lT [x1,x2],lU.ty (qw<|qx rfl) y1 y2 (by show w.heap.size≠c.cb;omega),dF.adg lT TS e1 e2,by simp only[size,ah];omega⟩,⟨TS,wx,wy,trivial⟩⟩
def agd{a b:Ty}{tb}{xb}(ha:TW w (dn c) S1 a (.iface ta xa))(hb:TW w (dn c) S2 b (.iface tb xb))(hc:c.cb<w.heap.size):Cq 350 #[.iface ta xa,.iface tb xb] w λe w'=>∃g,e=.returned (.iface 169<|.agg #[.string<|pn ot,.slice (some ⟨g,0,none⟩) 2 2])/\Bq w w'/\TW w' (dn c) (1+S1+S2) (qe a b) (.iface 169<|.agg #[.string<|pn ot,.slice (some ⟨g,0,none⟩) 2 2]):=
 (tS _ _ _ _).mono λe w' h=>by
  obtain⟨rfl,rfl⟩:=h;exact⟨_,rfl,bw _,TW.fn ha hb hc⟩
def gd.ret(H:gd n0 M c w0 cnt0 s0 Λ Γ gb Q dom D (jk X) P s cnt kb w)(ht:TW w (dn c) S X (.iface ta xa))(hS:S<=1100*n0:=by rw[en];omega):aX c (1100*n0) (1000*n0) M s0 cnt0 w0 (.returned<|.tuple #[.iface ta xa,Mv kb]) w:=H.cl _ _<|Mm H.we H.st.k (ht.le hS)<|Fr.refl _ _
end
section
variable {c:WC} {cnt:Nat} {y z:Nd} {vy vz:Value}
def JN(mk:jm)s n x y f t a(Γ:jc):jf mk (.mk 6 s n [x,y] f t a) Γ=ja (jf mk x Γ) λa=>ja (jf mk y Γ) λb=>jk<|qp a b:=by simp[jf,jx,qc,j6]
def ScE.ado{k}(h:ScE c.mks c.nl dom (.mk k st n [x,y] f t a))(hk:k=6\/k=7\/k=8):ScE c.mks c.nl dom x/\ScE c.mks c.nl dom y:=by
 obtain rfl|rfl|rfl:=hk<;>cases h with
 |two _ _ _ _ _ _ _ _ _ _ hx hy=>exact⟨hx,hy⟩|lt _ _ _ _ _ _ _ _ _ _ hc=>omega
def opT s:=if s=du then In.iZ else qs
def JO(mk:jm)s n x y f t a(Γ:jc):jf mk (.mk 7 s n [x,y] f t a) Γ=ja (jf mk x Γ) λa=>ja (jp a qs (j3 x)<|j8 x) λ_=>ja (jf mk y Γ) λb=>ja (jp b qs (j3 y)<|j8 y) λ_=>jk<|opT s:=by simp[jf,jx,qc,j6,qt,opT]
def Em:Tryz.prog.underlying 212=some (.map 9 121):=qkr
def ZY w:(zeroValue 121).run xm w=.ok .nilFunc w:=qkr
def sr.look{b}(h:sr w b){k}(hk:k=gU\/k=dP\/k=fG\/k=du):(k=du/\(zy 212 (Mv b) (.string k) false).run xm w=.ok (.func (.func 125) #[] #[]) w)\/(k≠du/\(zy 212 (Mv b) (.string k) false).run xm w=.ok (.func (.func 124) #[] #[]) w):=by
 obtain⟨L,h1,g1,g2,g3,g4⟩:=h;have hl:=λk=>h1.ms.look Mf Em (ZY w) k trivial (λ_ _=>trivial) false;obtain rfl|rfl|rfl|rfl:=hk
 .grind
 .grind
 .grind
 .grind
def sr.drew(h:sr w b):sr w.drew b:=h.same rfl
end
structure Zb rc st x c w cnt(s:jd)kb(Λ:Nat->Prop)(Γ:jc)gb Q(dom:BA->Prop)v:Prop where
 we:WE w c cnt
 wk:WK w c cnt s kb
 hn:∀n,¬s.u n->Λ n
 wg:WG w c s Λ Γ gb
 pe:PE w Q x v
 hq:∀b,Q b->b≠c.cb
 sc:ScE c.mks c.nl (λv=>dom v\/(rc=true/\v=st)) x
 hd:∀x,dom x->Γ x≠none
 ft:Fit c cnt (1+nn x)
 mf:MkFine c.mks
 iC:st∈c.nl
section
variable {c:WC} {cnt:Nat}
def Zb.af{rc}{st}{x}{v}{w1}(h:Zb rc st x c w cnt s kb Λ Γ gb Q dom v)(hb:Bq w w1):Zb rc st x c w1 cnt s kb Λ Γ gb Q dom v:=
 ⟨h.we.af hb,h.wk.af hb,h.hn,h.wg.af hb,h.pe.af hb,h.hq,h.sc,h.hd,h.ft,h.mf,h.iC⟩
def Ug{y:Nat}(Hx:yO x)(h:Zb false st x c w cnt s kb Λ Γ gb Q dom vx):
 Cq 313 #[Pv c.eb,Mv kb,Mv gb,.agg #[.bool false,Nv a,Nv y,.string st,vx]] w (aX c (1100*(1+nn x)) (1000*(1+nn x)) (j9 false st x (jf c.mks x) Γ) s cnt w):=by
 have k0:Bq w (w.alloc<|Cv #[.bool false,Nv a,Nv y,Sv st,vx] 142):=bw _;have h1:=h.af k0;have H1:=Hx c _ cnt s kb Λ Γ gb Q _ vx ⟨h1.we,h1.wk,h1.hn,h1.wg,h1.pe,h1.hq,h1.sc,λv q=>h1.hd v (q.resolve_right λr=>by cases r.1),h1.ft.le ae ae,h1.mf⟩;have K0:=ai k0;obtain⟨tx,ax,rfl⟩:=h.pe.iface;go_enter func313,ntmps313;go_wp2_with fail;refine H1.mono ?_;intro e w1 hp;obtain⟨ak,zz,vl,vr,rfl,q1⟩|⟨ak,T1,s1,wE,wF,iz,rfl,q1⟩:=hp.split
 .clear hp
  go_wp2
  exact⟨rfl,(Fr.of K0).trans q1.F,ak,.error zz,q1.c1,by have:=q1.c2;omega,q1.we,q1.m,vl,vr,rfl,q1.f⟩
 .have QQ:=ai q1
  go_wp2
  go_ret2;have q1:=uh QQ;exact⟨(Fr.of K0).trans q1.F,ak,.ok (T1,s1),q1.c1,by have:=q1.c2;omega,q1.we,q1.m,q1.u,q1.wh,wE,wF,iz,rfl,q1.n,q1.k,q1.t.le ae⟩
def BZ st x pe(Γ:jc):j9 true st x pe Γ=ja jz λv=>ja (pe<|ji Γ st<|ql<|.var v) λt=>ja (jp (.var v) t (j3 x)<|j8 x) λ_=>jk t:=by simp[j9]
def Zb.at{M}(h:Zb rc st x c w cnt s kb Λ Γ gb Q dom v)(e:M=q):gd (1+nn x) M c w cnt s Λ Γ gb Q dom (1000*(1+nn x)) q (λ_ _=>True) s cnt kb w:=⟨h.wg,h.hq,h.hd,h.ft,h.mf,Fr.refl _ _,h.we,⟨h.wk,h.hn,In.Kp.refl h.wk.ok h.hn⟩,λ_ _ h=>e▸h,λ_ _ _ _=>trivial,br _⟩
def Uh{y:Nat}(Hx:yO x)(h:Zb true st x c w cnt s kb Λ Γ gb Q dom vx):
 Cq 313 #[Pv c.eb,Mv kb,Mv gb,.agg #[.bool true,Nv a,Nv y,.string st,vx]] w (aX c (1100*(1+nn x)) (1000*(1+nn x)) (j9 true st x (jf c.mks x) Γ) s cnt w):=by
 have eG:=iY;have fb:=h.ft.b;have iC:=h.iC;have sx:=ai h.sc;obtain⟨tx,ax,rfl⟩:=h.pe.iface;have HX:=ai h.pe;have Ji:=h.pe.place;have H:=h.at<|BZ st x (In.inf c.mks x) Γ;dsimp only[PlF]at Ji;clear h;have⟨e1,e2,e3⟩:=H.we.bx;go_enter func313,ntmps313;go_wp2_with fail;refine H.box.new (D2:=1000*nn x+999) ?_ ae;intro s3 w3 H;clear e1 e2 e3;have⟨⟨_,b1,b2,b3⟩,_⟩:=H.p;go_wp2_with fail;go_cut[11,1]from 12 (λvt vk wc=>∃T6 s6 En Ui Uj Td,vt=Fv Ui Uj/\vk=Mv Td/\gd (1+nn x) (In.cH true st x (In.inf c.mks x) Γ) c w cnt s Λ Γ gb Q dom 999 (In.andM (In.p_ (.var<|cnt+1) T6 (In.ij x)<|In.uQ x) λ_=>In.cS T6) (λw' s=>((True/\Bx w' w.heap.size #[.bool true,Nv a,Nv y,Sv st,Fv tx<|Av ax])/\In.gC Λ s (.var<|cnt+1))/\TW w' (dn c) (1100*nn x) T6 (Fv Ui Uj)/\In.gC Λ s T6) s6 En Td wc)
 case first=>
  go_region_with(first
   |(go_at_call 319;go_loud(refine(vd ((H.wg.fr H.f H.st.p.run).e.af (zo _ _).drew) st<|Ed (ox w3.drew c cnt 1<|br _) ae).mono ?_);rintro e w5⟨b5,rfl,z5,h5,k5⟩;have K5:=ai<|(zo w3.heap.size w3).drew.trans k5;have⟨⟨_,d1,d2,d3⟩,_⟩:=(H.af K5).p;have E5:=ai h5;have Z5:=ai z5;clear k5 h5 z5)
   |(go_at_call 323;go_loud(refine H.exG (D2:=999) K5 Hx (H.asks K5 E5 Z5 H.p.2.mono xc iC HX sx (λ_ q=>q.imp id (·.2)) ae ae) ?_);intro T6 Ui Uj s6 En Td w6 H6))
  all_goals
   go_wp2_with fail
   go_meet
   case rel=>exact⟨_,_,_,_,_,_,rfl,rfl,H6⟩
 case rest=>
  obtain⟨T6,s6,En,Ui,Uj,Td,rfl,rfl,H⟩:=hcut;clear b1 b2 b3;have⟨⟨⟨_,b1,b2,b3⟩,_⟩,_⟩:=H.p;go_wp2_with fail;refine(cW _ _).mono ?_;rintro e w7⟨rfl,K7⟩;have H:=H.af K7;go_wp2_with fail;refine H.eq (S:=900000) (ox w7 c cnt _ ae) (H.p.2.1.le ae) H.p.1.2 H.p.2.2 ?_;intro kb8 s8 w8 H
  go_wp2
  go_ret2;exact H.ret H.p.2.1 ae
end
end Go.Proofs.YtfnkchdeheeiiaaGreatDoor

import Derived.Test.YtfnkchdeheeiiaaGreatDoorQQd
import Derived.Test.YtfnkchdeheeiiaaGreatDoorQXo
set_option linter.all false
set_option maxRecDepth 100000
set_option maxHeartbeats 8000000
namespace Go.Proofs.YtfnkchdeheeiiaaGreatDoor
open In renaming andM->ja,Env->jc,St->jd,inf->jf,MM->jh,cJ->ji,cB->jj,cU->jk,du->jl,Mks->jm,via->jo,sv->jp,f_->jq,yA->jt,Rn->ju,arr->jv,kh->jx,over->jy,iP->jz,gW->j5,LO->j6,cK->j7,bB->j8,ue->j9,bM->qe,dY->qf,lH->qg,nV->qh,Cj->qi,oo->qk,Kp->ql,Ft->qm,qH->qn,mono->qp,vM->qr,Ck->qs,tPr->qt,iX->qu,jA->qv,iA->qw,sw->qx,pN->qy
open Or renaming inr->qz,inl->q9
open _root_.List renaming drop_eq_getElem_cons->xc,take_succ_eq_append_getElem->xd,take_length->xf,nodup_nil->xg,getElem_mem->xh,drop_length->xi,eq_nil_of_length_eq_zero->xj,mem_cons_of_mem->xk,getElem_of_mem->xm,mem_singleton->xn,mem_append->xo
open Go.Proofs.Tryz renaming prog->xq,results352->xt,func366->xw
open _root_.Nat renaming le_trans->xy,lt_of_lt_of_le->zd,zero_le->zh,pos_of_ne_zero->zo
open Go.World renaming cell?_of_block->zu
open Go.Value renaming string->zv
open Go.RowKit.Below renaming refl->zx,heap_setCell->zy
open _root_.Array renaming getElem?_setIfInBounds_ne->z9,getElem?_eq_getElem->vd
open Go.Instr renaming lookup->vf
open Ne renaming symm->vg
open Go Go.RowKit Go.ChangeMaps Go.MapKept Un Proofs.Tryz
variable {ops:Array Oper} {cs:Array Value} {k st:BA} {dom Xg:BA->Prop} {rc:Bool} {e:Ending} {g g1 Γ LQ xB:jc} {z:qm} {q:jh Un.Ty} {mk:jm} {R ρ:ju} {c d:j6} {s s0 s1:jd} {l:List Nat} {L:List Nd} {rest:List Oper} {D D1 DD S S1 S2 a b b1 b2 base cb aE al f gb gv j kb iY n r sc t:Nat} {F P Q Λ:Nat->Prop} {κ:Nat->Un.Ty} {nd x:Nd} {o:Oper} {sa:Option Addr} {α:Type} {ta:TypeId} {T U X m y:Un.Ty} {u v va vb vl vr vx xa:Value} {W w w' w0 w1:World}
abbrev Pb:KL xq 9 zv (λ_ _=>True):=KL.str Tryz.underlying9
def str_inj:∀x y,zv x=zv y->x=y:=xC
def rq(w:World)(P:Nat->Prop)(sa:Option Addr)l:=l=[]\/∃g,sa=some ⟨g,0,none⟩/\P g/\g<w.heap.size/\∀i(h:i<l.length),w.cell? ⟨g,i,none⟩=some (Nv<|l[i])
def nW w P(c:j6)(v:Value):=∃ta xa sa sc,v=.agg #[.iface ta xa,.slice sa c.any.length sc]/\TW w P 900000 c.of (.iface ta xa)/\rq w P sa c.any
def bU w P b(Γ:jc):=∃L,MG zv w b L/\(∀x,aZ x L=none->Γ x=none)/\∀x v,aZ x L=some v->∃c,Γ x=some c/\nW w P c v
theorem rq.move(h:rq w P sa l)(hs:w.heap.size<=w'.heap.size)(hb:∀b,P b->b<w.heap.size->w'.heap[b]? =w.heap[b]?)(hq:∀b,P b->b<w.heap.size->Q b):rq w' Q sa l:=by
 obtain h|⟨g,h1,h2,h3,h4⟩:=h
 .exact q9 h
 .exact qz ⟨g,h1,hq g h2 h3,zd h3 hs,λi hi=>(zu (a:=⟨g,i,none⟩)<|hb g h2 h3).trans<|h4 i hi⟩
theorem nW.move{c}{v}(h:nW w P c v)(hs:w.heap.size<=w'.heap.size)(hb:∀b,P b->b<w.heap.size->w'.heap[b]? =w.heap[b]?)(hq:∀b,P b->b<w.heap.size->Q b):nW w' Q c v:=by
 obtain⟨ta,xa,sa,sc,h1,h2,h3⟩:=h;exact⟨ta,xa,sa,sc,h1,h2.move hs hb hq,h3.move hs hb hq⟩
def nW.af(h:nW w P c v)(hb:Bq w w'):nW w' P c v:=h.move hb.size (λb _ hz=>hb.block b hz)<|λ_ p _=>p
def bU.lt(h:bU w P b Γ):b<w.heap.size:=qAr
theorem bU.move(h:bU w P b Γ)(hs:w.heap.size<=w'.heap.size)(cz:w'.heap[b]? =w.heap[b]?)(hb:∀b,P b->b<w.heap.size->w'.heap[b]? =w.heap[b]?)(hq:∀b,P b->b<w.heap.size->Q b):bU w' Q b Γ:=by
 obtain⟨L,h1,h2,h3⟩:=h;exact⟨L,h1.same cz,h2,λx v hx=>by have⟨c,e,hc⟩:=h3 x v hx;exact⟨c,e,hc.move hs hb hq⟩⟩
def bU.af(h:bU w P b Γ)(hb:Bq w w'):bU w' P b Γ:=h.move hb.size (hb.block b h.lt) (λb _ hz=>hb.block b hz)<|λ_ p _=>p
def bU.wide(h:bU w P b Γ)(hq:∀x,P x->Q x):bU w Q b Γ:=h.move (br _) rfl (λ_ _ _=>rfl) (λb p _=>hq b p)
def bU.fr{S}(h:bU w P b Γ)(hf:Fr S w w')(hb:¬S b)(hS:∀x,P x->x<w.heap.size->¬S x):bU w' P b Γ:=h.move hf.size (hf.block b h.lt hb) (λx p z=>hf.block x z<|hS x p z)<|λ_ p _=>p
def bU.new(w:World)P:bU (w.alloc<|.map #[] 0) P w.heap.size (λ_=>none):=⟨[],MG.new _ w,λ_ _=>rfl,λx v h=>qBg⟩
def oq{a}{F}(hg:o.guard=none)m x v(r_:o.op=Op.insert 216 m x v\/o.op=Op.mapUpdate 216 m x v)(hm:a.eval m=Mv b)(h:bU w P b Γ)(hP:¬P b)(hc:nW w P c u)n(hx:a.eval x=.string n)(hv:a.eval v=u)(hK:∀w',bU w' P b (ji Γ n c)->One b w w'->wpList xq ops F rest (a.put o.dst undef) w'):
 wpList xq ops F (o::rest) a w:=by
 obtain⟨L,h1,h2,h3⟩:=h;refine cu Pb ed hg m x v r_ hm h1 n u hx hv λw' hM o=>hK w' ⟨_,hM,λy hy=>?_,λy z hy=>?_⟩ o
 .rw[aM]at hy;by_cases e:n=y
  .grind
  .rw[if_neg e]at hy;simp only[ji,if_neg<|vg e];exact h2 y hy
 .have mv:∀{c v},nW w P c v->nW w' P c v:=λh=>h.move LS (λx p _=>o.block x<|λe=>hP<|e▸p)<|λ_ p _=>p;rw[aM]at hy;by_cases e:n=y
  .rw[if_pos e]at hy;injection hy with hy;subst hy e;exact⟨c,by simp[ji],mv hc⟩
  .rw[if_neg e]at hy;have⟨c',q1,q2⟩:=h3 y z hy;exact⟨c',by simp only[ji,if_neg<|vg e];exact q1,mv q2⟩
open Classical in
noncomputable def ovD (xB LQ:jc) (done:List BA) (x:BA):Option j6:=if x∈done then jy xB LQ x else LQ x
def aiH P b1 b2(LQ xB:jc)L w gk wr:=
 ∃done,IG zv wr w.heap.size b2 L done gk/\bU wr P b1 (ovD xB LQ done)/\Fr (λi=>i=b1) w wr
def acD(h1:bU w P b1 LQ)(h2:bU w P b2 xB)(hP:¬P b1)(bz:∀x,P x->x<w.heap.size)(hn:b1≠b2):
 Cq 348 #[Mv b1,Mv b2] w λe w'=>e=.returned (.tuple #[])/\bU w' P b1 (jy xB LQ)/\Fr (λi=>i=b1) w w':=by
 have l1:=h1.lt;have l2:=h2.lt;obtain⟨L,m2,q1,q2⟩:=h2;obtain⟨o,cnt,hrg,lY⟩:=m2.range ed;have k1:Bq w (w.alloc o):=bw _;have HI:=ai lY;have H1:=h1.af k1;have K1:=ai k1;have Q:=And.intro q1 q2;go_enter func348,ntmps348
 go_wp2
 go_loopg[] cnt (λgk wr=>aiH P b1 b2 LQ xB L w gk wr)
 case atStart=>
  refine⟨[],HI,?_,Fr.of K1⟩;have e:ovD xB LQ []=LQ:=by funext x;simp[ovD]
  rw[e];exact H1
 case round=>
  obtain⟨done,HI,HE,hF⟩:=hrel;have HF:=ai hF;have Xh:=HI.lt;have zr:=hF.size;rcases HI.next (P:=xq) str_inj with⟨ha,DX⟩|⟨x,u,w2,aE,hxd,Pc,DX,Hi,Hj,xS,fW,hen⟩
  .go_wp2
   go_end0;refine⟨rfl,?_,HF⟩;have e:ovD xB LQ done=jy xB LQ:=by
    funext y;unfold ovD;by_cases q:y∈done
    .rw[if_pos q]
    .rw[if_neg q];have:xB y=none:=by
      cases hg:aZ y L with
      |none=>exact Q.1 y hg|some v=>exact absurd (ha _ v hg) q
     simp only[jy,this]
   rw[<-e];exact HE
  .obtain⟨c,EC,hc⟩:=Q.2 x u Pc;have Bv:=xS;have nP:∀i,P i->¬i=w.heap.size:=λi hi e=>by have:=bz i hi;omega
   have E2:=HE.fr Bv ae<|λi p _=>nP i p;have c2:=(hc.move (w':=wr) zr (λi p z=>HF.block i z<|λe=>hP<|e▸p)<|λ_ p _=>p).move (w':=w2) (Q:=P) ae (λi p z=>Bv.block i z<|nP i p)<|λ_ p _=>p;obtain⟨ta,xa,sa,sc,rfl,t1,t2⟩:=c2;have uf:Bq w2 (w2.alloc<|.cells #[.iface ta xa,.slice sa c.any.length sc] 467):=bw _;have E3:=E2.af uf;have C3:=(nW.af ⟨ta,xa,sa,sc,rfl,t1,t2⟩ uf);have I3:=Hi.same (uf.block b2 ae)<|uf.block w.heap.size ae;have K3:=ai uf;go_wp2_with(refine oq rfl _ _ _ (qz rfl) rfl E3 hP C3 x rfl rfl ?_;intro w4 H' O';have S4:=ai H';have O4:=ai O';clear H' O');go_roundg aE
   case measure=>exact Hj
   case rel=>
    have o:=uh O4;have k3:=uh K3;have f1:=Bv;refine⟨x::done,I3.same (o.block b2<|vg hn)<|o.block _ ae,?_,?_⟩
    .have e:ovD xB LQ (x::done)=ji (ovD xB LQ done) x c:=by
      funext y;by_cases q:y=x
      .subst q;simp[ovD,ji,jy,EC]
      .simp only[ovD,ji,if_neg q];by_cases r:y∈done
       .rw[if_pos<|xk _ r,if_pos r]
       .rw[if_neg<|λh=>(List.mem_cons.1 h).elim q r,if_neg r]
     rw[e];exact S4
    .have hF:=uh HF;refine⟨o.os.trans<|k3.os.trans<|f1.os.trans hF.os,o.tape.trans<|k3.tape.trans<|f1.tape.trans hF.tape,o.output.trans<|k3.output.trans<|f1.output.trans hF.output,by rw[o.size];have:=k3.size;omega,λi hi hni=>?_⟩;rw[o.block i hni,k3.block i ae,f1.block i ae ae,hF.block i hi hni]
def Hk(h:bU w P b Γ):Cq 347 #[Mv b] w λe w'=>e=.returned (Mv w.heap.size)/\bU w' P w.heap.size Γ/\Bq w w'/\w'.heap.size=w.heap.size+1:=by
 obtain⟨L,h1,h2,h3⟩:=h;refine(Xi h1).mono ?_;rintro e w'⟨rfl,m,k,z⟩;exact⟨rfl,⟨L,m,h2,λx v hx=>by have⟨c,q1,q2⟩:=h3 x v hx;exact⟨c,q1,q2.af k⟩⟩,k,z⟩
def pO P(Γ:jc)w(e:Ending)w':=∃b,e=.returned (Mv b)/\w.heap.size<=b/\bU w' P b Γ/\Bq w w'
def bU.low(h:bU w P b Γ):bU w (λx=>P x/\x<w.heap.size) b Γ:=h.move (br _) rfl (λ_ _ _=>rfl) (λb p z=>⟨p,z⟩)
def Cm(h1:bU w P b1 LQ)(h2:bU w P b2 xB):Cq 331 #[Mv b1,Mv b2] w (pO P (jy xB LQ) w):=by
 have HC:=Hk h1.low;have l2:=h2.lt;have H2:=ai h2.low;go_enter func331,ntmps331;go_wp2_with fail;refine HC.mono ?_;rintro e w1⟨rfl,h3,K1,Z1⟩;have HD:=acD h3 (H2.af K1) ae (λx p=>ae) ae;go_wp2_with fail;refine HD.mono ?_;rintro e w2⟨rfl,H4,Tu⟩
 go_wp2
 go_ret;have k:=K1;have f:=Tu;refine⟨w.heap.size,rfl,br _,H4.wide λx p=>p.1,⟨f.os.trans k.os,f.tape.trans k.tape,f.output.trans k.output,xy k.size f.size,λi hi=>(f.block i (by have:=Z1;omega) ae).trans<|k.block i hi⟩⟩
def ki(Γ:jc)x(c:j6):jy (ji (λ_=>none) x c) Γ=ji Γ x c:=by
 funext y;unfold jy ji;by_cases e:y=x
 .simp[e]
 .simp[e]
def xT(h:bU w P b Γ)x(hc:nW w P c v):Cq 319 #[Mv b,.string x,v] w (pO P (ji Γ x c) w):=by
 have jB:= @run_makeMap Tryz.prog;have hc0:=hc;obtain⟨ta,xa,sa,sc,rfl,t1,t2⟩:=hc;have k1:Bq w ((w.alloc<|Cv #[Fv ta xa,Lv sa c.any.length sc] 467).alloc<|.map #[] 0):=(bw _).alloc ag _;have E1:=bU.new (w.alloc<|Cv #[Fv ta xa,Lv sa c.any.length sc] 467)<|λi=>P i/\i<w.heap.size;have C1:=(hc0.move (Q:=λi=>P i/\i<w.heap.size) (br _) (λ_ _ _=>rfl)<|λi p z=>⟨p,z⟩).af k1;have K1:=ai k1;rw[aX]at E1;go_enter func319,ntmps319;go_wp2_with(refine oq rfl _ _ _ (Or.inl rfl) rfl E1 ae C1 x rfl rfl ?_;intro w4 H' O';have S4:=ai H';have O4:=ai O';clear H' O');have o:=uh O4;have k:=uh K1;have kk:Bq w w4:=⟨o.os.trans k.os,o.tape.trans k.tape,o.output.trans k.output,by rw[o.size];exact k.size,λi hi=>(o.block i ae).trans<|k.block i hi⟩;have HW:=Cm (h.af kk)<|S4.wide λi p=>p.1;rw[ki]at HW;refine HW.mono ?_;rintro e w5⟨b5,rfl,hb5,H5,K5⟩;have KK:=ai kk
 go_wp2
 go_ret;have kk:=uh KK;exact⟨b5,rfl,xy kk.size hb5,H5,kk.trans<|K5.mono kk.size⟩
def Tv(h:bU w P b Γ)x:Cq 358 #[Mv b,.string x] w (pO P (qg Γ x) w):=by
 have HC:=Hk h.low;go_enter func358,ntmps358;go_wp2_with fail;refine HC.mono ?_;rintro e w1⟨rfl,⟨L,M1,h2,h3⟩,K1,z1⟩;have Q:=And.intro h2 h3;go_wp2_with(refine Hl Pb ed rfl _ _ rfl rfl M1 x rfl ?_;intro w4 H' O';have S4:=ai H';have O4:=ai O';clear H' O');go_ret;have o:=uh O4;have k:=K1;obtain⟨h2,h3⟩:=Q;have hn:=M1.nodup;refine⟨w.heap.size,rfl,br _,⟨_,S4,λy hy=>?_,λy v hy=>?_⟩,⟨o.os.trans k.os,o.tape.trans k.tape,o.output.trans k.output,by rw[o.size];exact k.size,λi hi=>(o.block i ae).trans<|k.block i hi⟩⟩
 .rw[yB x y hn]at hy;rw[qg];by_cases e:y=x
  .rw[if_pos e]
  .rw[if_neg e];rw[if_neg<|vg e]at hy;exact h2 y hy
 .rw[yB x y hn]at hy;by_cases e:x=y
  .rw[if_pos e]at hy;cases hy
  .rw[if_neg e]at hy;have⟨c,q1,q2⟩:=h3 y v hy;refine⟨c,?_,q2.move LS (λi p _=>o.block i ae)<|λi p _=>p.1⟩;rw[qg];rw[if_neg<|vg e];exact q1
def aiI(l:List Nat)v w gk c(wr:World):=
 ∃j:Nat,Hid (gk=l.length-j)/\j<=l.length/\c=Nv j/\wr=w/\Hid (∀i(hi:i<l.length),i<j->l[i]≠v)
def Xj(h:rq w P sa l)(hl:l.length<=1000000000000)v:Cq 373 #[.slice sa l.length sc,Nv v] w λe w'=>∃k,e=.returned (Iv k)/\decide (0<=k)=decide (v∈l)/\w'=w:=by
 go_enter func373,ntmps373
 go_wp2
 go_loopg[8] l.length (λgk c wr=>aiI l v w gk c wr)
 case atStart=>exact⟨0,ai ag,zh _,rfl,rfl,ai<|λi _ hi=>absurd hi ae⟩
 case round=>
  obtain⟨j,dv,hj,rfl,rfl,nM⟩:=hrel;by_cases bq:j<l.length
  .have hd:(j:Int)<(l.length:Int):=ae;obtain⟨g,rfl,_,lh,b8⟩:=h.resolve_left<|λe=>qBs;have cg:=b8 j bq;by_cases HV:v=l[j]
   .generalize hx:l[j]=x at*;subst HV
    go_wp2
    go_ret;refine⟨j,rfl,?_,rfl⟩;have:v∈l:=by rw[<-hx];exact xh bq
    simp[this]
   .have df:((v:Int)==(l[j]:Int))=false:=bP;generalize hx:l[j]=x at*
    go_wp2
    go_roundg(l.length-(j+1))
    case measure=>rw[uh dv];omega
    case rel=>
     refine⟨j+1,ai rfl,ae,jT,rfl,ai<|λi hi hij=>?_⟩;by_cases e:i=j
     .subst e;rw[hx];exact vg HV
     .exact nM i hi ae
  .have hd:decide ((j:Int)<(l.length:Int))=false:=bP;have ej:j=l.length:=ae;subst ej
   go_wp2
   go_ret;refine⟨-1,rfl,?_,rfl⟩;have:v∉l:=λq=>by
    have⟨i,hi,e⟩:=xm q;exact nM i hi hi e
   simp[this]
def Hn(h:rq w P sa l)(hl:l.length<=1000000000000)v:Cq 369 #[.slice sa l.length sc,Nv v] w λe w'=>e=.returned (.bool<|decide (v∈l))/\w'=w:=by
 have HC:=Xj (sc:=sc) h hl v;go_enter func369,ntmps369;go_wp2_with fail;refine HC.mono ?_;rintro e w1⟨k,rfl,HK,rfl⟩
 go_wp2
 go_ret;refine⟨?_,rfl⟩;rw[<-HK];rfl
def Xk{l V:List BA}(h:l.Nodup)(hs:∀x,x∈l->x∈V):l.length<=V.length:=by
 have key:∀(l V:List (List UInt8)),l.Nodup->(∀x,x∈l->x∈V)->l.length<=V.length:=by
  intro l
  induction l with
  |nil=>intro V _ _;simp|cons a l ih=>
   intro V h hs;have ha:=hs a ag;have hn:=List.nodup_cons.1 h;have:=ih (V.erase a) hn.2 λx hx=>(List.mem_erase_of_ne<|λe=>hn.1 (by rw[<-e];exact hx)).2 (hs x<|by simp[hx]);rw[List.length_erase_of_mem ha]at this;have:0<V.length:=List.length_pos_of_mem ha;simp only[ot];omega
 have:=key (l.map ByteArray.toList) (V.map ByteArray.toList) (by
  rw[List.Nodup,List.pairwise_map];exact h.imp λnX q=>nX<|toList_inj q) (λx hx=>by
  obtain⟨y,hy,rfl⟩:=List.mem_map.1 hx
  exact List.mem_map_of_mem<|hs y hy)
 simpa using this
def CM w b(F:Nat->Prop)r:=∃L,MG qI w b L/\(∀n:Nat,aZ (n:Int) L=none->¬F n)/\∀(n:Nat)u,aZ (n:Int) L=some u->F n/\∃k:Nat,u=Nv k/\1<=k/\k<=r
def yC:Tryz.prog.underlying 171=some (.map 98 3):=qkr
def CM.same(h:CM w b F r)(hb:w'.heap[b]? =w.heap[b]?):CM w' b F r:=qAs
def CM.lt(h:CM w b F r):b<w.heap.size:=qAr
def CM.new(w:World):CM (w.alloc<|.map #[] 0) w.heap.size (λ_=>False) 0:=⟨[],MG.new _ w,λ_ _ q=>q,λn u h=>qBg⟩
def CM.look(h:CM w b F r)n:∃k:Nat,(vf 171 (Mv b) (Nv n) false).run xq w=.ok (Nv k) w/\k<=r/\(0<k↔F n):=by
 obtain⟨L,h1,h2,h3⟩:=h;have hl:=h1.ms.look KLV yC (yD w) (n:Int) trivial (λ_ _=>trivial) false
 cases hg:aZ (n:Int) L with
 |none=>grind|some u=>
  rw[hg]at hl;obtain⟨q1,k,rfl,q2,q3⟩:=h3 n u hg;exact⟨k,by simpa using hl,q3,⟨λ_=>q1,λ_=>ae⟩⟩
def Ho{a}{Q}(hg:o.guard=none)m x v(r_:o.op=Op.insert 171 m x v\/o.op=Op.mapUpdate 171 m x v)(hm:a.eval m=Mv b)(h:CM w b F r)n k(hk:k<=r)(hx:a.eval x=Nv n)(hv:a.eval v=Iv ((k:Int)+1))(hK:∀w',CM w' b (λi=>F i\/i=n) (r+1)->One b w w'->wpList xq ops Q rest (a.put o.dst undef) w'):
 wpList xq ops Q (o::rest) a w:=by
 obtain⟨L,h1,h2,h3⟩:=h;refine cu KLV yC hg m x v r_ hm h1 (n:Int) _ hx hv λw' hM o=>hK w' ⟨_,hM,λi hi=>?_,λi u hi=>?_⟩ o
 .rw[aM]at hi;by_cases e:(n:Int)=(i:Int)
  .grind
  .grind
 .rw[aM]at hi;by_cases e:(n:Int)=(i:Int)
  .rw[if_pos e]at hi;injection hi with hi;subst hi;exact⟨qz ae,k+1,ag,ae,ae⟩
  .grind
def FxD(Γ:jc)κ(done:List BA)v:=∃y c,y∈done/\Γ y=some c/\aA v (sub κ c.of)/\v∉c.any
def FxR b(Γ:jc)κ L w gk wr:=
 ∃done r,IG zv wr (w.heap.size+1) b L done gk/\CM wr w.heap.size (FxD Γ κ done) r/\done.Nodup/\(∀x,x∈done->Γ x≠none)/\r<=done.length*1000000000000/\Bq w wr
def FyR cm(F:Nat->Prop)r(l any:List Nat)w3 gk v wr:=
 ∃j:Nat,Hid (gk=l.length-j)/\j<=l.length/\v=Nv j/\CM wr cm (λi=>F i\/(i∈l.take j/\i∉any)) (r+j)/\Fr (λi=>i=cm) w3 wr
def CM.le{G}{r'}(h:CM w b F r)(hf:∀n,F n↔G n)(hr:r<=r'):CM w b G r':=by grind[CM]
def Tw(Γ:jc)κ w(e:Ending)w':=∃cm r,e=.returned (Mv cm)/\w.heap.size<=cm/\r<=1000000000000000000/\CM w' cm (qr Γ κ) r/\Bq w w'
def acE(h:bU w P b Γ)(hk:KW w P kb κ)(hkb:P kb)(hf:vN κ){NL:List BA}(hNL:∀x,Γ x≠none->x∈NL)(hNl:NL.length<=1000000)(afW:∀x c,Γ x=some c->c.any.length<=1000000000000):
 Cq 364 #[Mv b,Mv kb] w (Tw Γ κ w):=by
 have jB:= @run_makeMap Tryz.prog;have l1:=h.lt;have lk:=hk.lt;obtain⟨L,m1,q1,q2⟩:=h;have k1:Bq w (w.alloc<|.map #[] 0):=bw _;have⟨o,cnt,hrg,lY⟩:=(m1.af k1).range ed;rw[aX]at hrg lY;have k2:Bq w ((w.alloc<|.map #[] 0).alloc o):=k1.alloc ag _;have HI:=ai lY;have K2:=ai k2;have C0:=(CM.new w).same (w':=(w.alloc<|.map #[] 0).alloc o)<|(MapKept.heap_alloc _ _).2 _ ag;have Q:=And.intro q1 q2;have HK:=ai hk;clear lY k1 k2 m1 q1 q2 hk;go_enter func364,ntmps364
 go_wp2
 go_loopg[] cnt (λgk wr=>FxR b Γ κ L w gk wr)
 case atStart=>exact⟨[],0,HI,C0.le (λn=>⟨λq=>q.elim,λ⟨y,c,q,_⟩=>by simp at q⟩) (br _),xg,(λx hx=>by simp at hx),ag,K2⟩
 case round=>
  clear C0 HI hrg;obtain⟨done,r,HI,hC,HN,HD,hr,HB⟩:=hrel;have HC:=ai hC;have Xh:=HI.lt;have zr:=HB.size;have hdl:=xy (Xk HN λx hx=>hNL x<|HD x hx) hNl;have HR:=ai hr;have HDL:=ai hdl;clear hC hr hdl;rcases HI.next (P:=xq) str_inj with⟨ha,DX⟩|⟨x,u,w2,aE,hxd,Pc,DX,Hi,bz,xS,fW,hen⟩
  .go_wp2
   go_ret;refine⟨w.heap.size,done.length*1000000000000,rfl,br _,by have:=uh HDL;omega,HC.le (λn=>⟨λ⟨y,c,_,p1,p2,p3⟩=>⟨y,c,p1,p2,p3⟩,λ⟨y,c,p1,p2,p3⟩=>⟨y,c,?_,p1,p2,p3⟩⟩) HR,HB⟩
   cases hg:aZ y L with
   |none=>rw[Q.1 y hg]at p1;cases p1|some v=>exact ha y v hg
  .have⟨c,EC,hc⟩:=Q.2 x u Pc;have amc:wr.heap.size<=w2.heap.size:=ae;have amd:w2.heap.size<=wr.heap.size:=ae;clear fW;have F1:=xS;have kb2:∀i,i<w.heap.size->w2.heap[i]? =w.heap[i]? :=λi hi=>(F1.block i ae ae).trans<|HB.block i hi;have hB2:Bq w w2:=⟨F1.os.trans HB.os,F1.tape.trans HB.tape,F1.output.trans HB.output,ae,kb2⟩;obtain⟨ta,xa,sa,sc,rfl,t1,t2⟩:=hc;have⟨k3,B3⟩:=ul w2 #[Fv ta xa,Lv sa c.any.length sc] 467;have Pd:Bq w (w2.alloc<|Cv #[Fv ta xa,Lv sa c.any.length sc] 467):=hB2.alloc ae _;have T2:=t2.move (w':=w2.alloc<|Cv #[Fv ta xa,Lv sa c.any.length sc] 467) Pd.size (λi _ hi=>Pd.block i hi)<|λi p z=>(⟨p,z⟩:P i/\i<w.heap.size);have CC3:=(HC.same<|F1.block _ ae ae).same (w':=w2.alloc<|Cv #[Fv ta xa,Lv sa c.any.length sc] 467)<|k3.block _ ae;have I3:=Hi.same (k3.block b ae)<|k3.block (w.heap.size+1) ae;have HO:=uo (HK.af Pd) hkb hf (br _)<|t1.af Pd;have hal:=afW x c EC;have hzz:=t1.Xl hf<|br _;have GW:=cr _ t1.wh λn _=>hf.wh n;have K3:=ai Pd;have⟨c3,f3,z3⟩:=uh B3;clear Hi k3 hB2 Pd kb2 F1 xS t1 t2 HC HI HB;go_wp2_with fail;refine HO.mono ?_;rintro e w4⟨u4,rfl,hu4,K4⟩;have HV:=fE hu4 hzz;obtain⟨tu,xu,rfl⟩:=hu4.iface;have z4:=K4.size;simp only[aX]at z4;clear hu4 HO c3 f3 z3;go_wp2_with fail;refine HV.mono ?_;rintro e w5⟨V,rfl,HO5,k5⟩;rw[gX]at HO5
   have yE:(vars []<|sub κ c.of).length<=1000000000000:=by
    have h1:=gX<|sub κ c.of;rw[<-h1,cD];have h2:=dh (occs<|bK<|sub κ c.of) [];have h3:=di<|bK<|sub κ c.of;simp only[uq]at h2;omega
   generalize Cn:vars [] (sub κ c.of)=l at*;obtain⟨va,vc,rfl⟩:=dP HO5 (n:=l.length)<|eZ l;have Mi:=K4.trans<|k5.mono K4.size;have z45:=Mi.size;simp only[aX]at z45;have T5:=T2.move (Q:=λi=>P i/\i<w.heap.size) Mi.size (λi p z=>Mi.block i z)<|λ_ p _=>p;have B5:=ai<|B3.below Mi;have CC5:=CC3.same<|Mi.block _ bP;have I5:=I3.same (Mi.block b bP)<|Mi.block (w.heap.size+1) bP;have K5:=K3.trans (Mi.mono (by have:=K3.size;omega));clear k5 Mi HV K4 T2 B3 CC3 I3 K3
   go_wp2
   go_loopg[23] l.length (λgk v wq=>FyR w.heap.size (FxD Γ κ done) r l c.any w5 gk v wq)
   case atStart=>exact⟨0,ai ag,zh _,rfl,CC5.le (λn=>ag) ae,Fr.refl _ _⟩
   case round=>
    obtain⟨j,dv,hj,rfl,HC6,HF6⟩:=hrel;have zq:=HF6.size;have B6:=B5.fr HF6 ae;by_cases bq:j<l.length
    .have hd:(j:Int)<(l.length:Int):=ae;have hjv:j<(ox l).length:=by rw[eZ];exact bq
     have⟨gv,cpv,mv,hv,hgv,lh,_⟩:=iB HO5 ae;injection hv with Mk Tx hv3;subst Mk;have cg0:=lZ HO5 j hjv;rw[show(ox l)[j]=Nv (l[j]) by simp[ox]]at cg0;have cg:=(zu (a:=⟨gv,j,none⟩)<|HF6.block gv lh ae).trans cg0;have V6:=T5.move (w':=wr) (Q:=λi=>P i/\i<w.heap.size) zq (λi p z=>HF6.block i z ae)<|λ_ p _=>p;have HCo:=Hn (sc:=sc) V6 hal l[j];have HM6:∀i,i∈l.take (j+1)↔i∈l.take j\/i=l[j]:=λi=>by rw[xd bq,xo,xn]
     have⟨kk,xU,Xm,_⟩:=HC6.look l[j];generalize hx:l[j]=xx at*;have HRR:Hid (r<=1000000000000000000):=ai (by have h1:=uh HR;have h2:=uh HDL;have h3:done.length*1000000000000<=1000000*1000000000000:=Nat.mul_le_mul_right _ h2;exact xy h1<|xy h3 aH);have hkb:(kk:Int)+1<=9000000000000000000:=by have:=uh HRR;omega
     obtain⟨c6,f6,z6⟩:=B6;clear V6 hx cg0 Tx hv3 DX hen Pc jB;by_cases ru:xx∈c.any
     .rw[decide_eq_true ru]at HCo;go_wp2_with fail;refine HCo.mono ?_;rintro e w7⟨rfl,rfl⟩;clear HCo
      go_wp2
      go_roundg(l.length-(j+1))
      case measure=>rw[uh dv];omega
      case rel=>
       refine⟨j+1,ai rfl,ae,jT,HC6.le (λn=>?_) ae,HF6⟩;rw[HM6 n];constructor
       .rintro(q|⟨q1,q2⟩)
        .exact q9 q
        .exact qz ⟨q9 q1,q2⟩
       .rintro(q|⟨q1|q1,q2⟩)
        .exact q9 q
        .exact qz ⟨q1,q2⟩
        .exact absurd (q1▸ru) q2
     .rw[decide_eq_false ru]at HCo;go_wp2_with fail;refine HCo.mono ?_;rintro e w7⟨rfl,rfl⟩;clear HCo;go_wp2_with(refine Ho rfl _ _ _ (qz rfl) rfl HC6 xx kk Xm rfl rfl ?_;intro w8 H' O';have S8:=ai H';have O8:=ai O';clear H' O');go_roundg(l.length-(j+1))
      case measure=>rw[uh dv];omega
      case rel=>
       have o:=uh O8;refine⟨j+1,ai rfl,ae,jT,S8.le (λn=>?_) ae,HF6.trans ⟨o.os,o.tape,o.output,LS,λi _ hi=>o.block i hi⟩⟩;rw[HM6 n];constructor
       .rintro((q|⟨q1,q2⟩)|q)
        .exact q9 q
        .exact qz ⟨q9 q1,q2⟩
        .exact qz ⟨qz q,by rw[q];exact ru⟩
       .rintro(q|⟨q1|q1,q2⟩)
        .exact q9 (q9 q)
        .exact q9 (qz ⟨q1,q2⟩)
        .exact qz q1
    .have hd:decide ((j:Int)<(l.length:Int))=false:=bP;have ej:j=l.length:=ae;subst ej;clear B6
     go_wp2
     go_roundg aE
     case measure=>exact bz
     case rel=>
      have f:=HF6;have k5:=K5;refine⟨x::done,r+l.length,I5.same (f.block b ae ae)<|f.block _ ae ae,HC6.le (λn=>?_)<|br _,List.nodup_cons.2 ⟨hxd,HN⟩,?_,by have:=uh HR;simp only[ot];omega,⟨f.os.trans k5.os,f.tape.trans k5.tape,f.output.trans k5.output,by have:=k5.size;omega,λi hi=>(f.block i (by have:=k5.size;omega) ae).trans<|k5.block i hi⟩⟩
      .rw[xf];have hm:n∈l↔aA n (sub κ c.of):=by rw[<-Cn];simpa using bE (sub κ c.of) [] n
       constructor
       .rintro(⟨y,c',p1,p2,p3,p4⟩|⟨p1,p2⟩)
        .exact⟨y,c',xk _ p1,p2,p3,p4⟩
        .exact⟨x,c,ag,EC,hm.1 p1,p2⟩
       .rintro⟨y,c',p1,p2,p3,p4⟩;obtain q|q:=List.mem_cons.1 p1
        .subst q;rw[EC]at p2;injection p2 with p2;subst p2;exact qz ⟨hm.2 p3,p4⟩
        .exact q9 ⟨y,c',q,p2,p3,p4⟩
      .intro y hy;obtain q|q:=List.mem_cons.1 hy
       .rw[q,EC];simp
       .exact HD y q
abbrev kept(p:Nat->Bool)(l:List Nat):List Nat:=l.filter λn=> !p n
def Co p(l:List Nat)j(h:j<l.length):kept p (l.take<|j+1)=kept p (l.take j)++(if p l[j]then[]else[l[j]]):=by
 rw[kept];rw[xd h,List.filter_append];congr 1
 cases hp:p l[j]<;>simp[hp]
def afX g(l:List Nat)p w gk vi vj wr:=
 ∃(i j:Nat)(C:Array Value),Hid (gk=l.length-j)/\i<j/\j<=l.length/\vi=Nv i/\vj=Nv j/\Hid (i=(kept p<|l.take j).length)/\Bx wr g C/\Hid (l.length<=C.size)/\Hid (∀k(h:k<(kept p<|l.take j).length),C[k]? =some (Nv<|(kept p<|l.take j)[k]))/\Hid (∀k(h:k<l.length),j<=k->C[k]? =some (Nv<|l[k]))/\Fr (λb=>b=g) w wr
section
variable {p:Nat->Bool} {g:Nat}
def afY f cs(l:List Nat)(p:Nat->Bool)g w:=∀(W:World)(n:Nat),n∈l->Fr (λb=>b=g) w W->Cq f (#[Nv n]++cs) W λe w'=>e=.returned (.bool<|p n)/\w'=W
def afZ{w}{e}{base}{g c:Nat}{xs}(h:gG w e base (.slice (some ⟨g,0,none⟩) n c) xs):∃C:Array Value,Bx w g C/\xs.length<=C.size/\(∀k(hk:k<xs.length),C[k]? =some xs[k])/\n=xs.length/\n<=c/\c<=maxLen:=by
 have h':=h;obtain⟨h1,h2⟩:=h;obtain⟨q,_⟩|⟨g',cap,l7,q,hg,hh,r1,r2,r3,r4⟩:=h2
 .cases q
 .injection q with q1 q2 q3;injection q1 with q1;injection q1 with q1;subst q1 q2 q3;have hz:=(Array.getElem?_eq_some_iff.1 hh).1;refine⟨l7,⟨λo=>by simp[World.cell?,hh],λo=>by simp[World.frozen?,hh],hz⟩,ae,λk hk=>?_,rfl,r1,r2⟩;have e1:(List.take (xs.length*1) l7.toList)[k]? =xs[k]? :=by rw[r4]
  rw[List.getElem?_take_of_lt ae]at e1;rw[<-Array.getElem?_toList,e1,List.getElem?_eq_getElem hk]
def vO(g:Nat):∀(vs:List Value)(o:Nat)(w:World),Fr (λb=>b=g) w<|w.setCells g o vs
 |[],o,w=>Fr.refl _ _|v::vs,o,w=>((Fr.refl (λb=>b=g) w).set (b:=g) (q9 rfl) o v).trans<|vO g vs (o+1) _
def Xn w:(zeroValue 98).run xq w=.ok (Iv 0) w:=qkr
def DY l p g w(e:Ending)w':=∃sa sc,e=.returned (.slice sa (kept p l).length sc)/\rq w' (λb=>b=g) sa (kept p l)/\Fr (λb=>b=g) w w'
def DZ(eg:∀args w,(callFunc f args).run xq w=.ok (.enter f args) w){c:Nat}(ho:gG w 98 base (.slice (some ⟨g,0,none⟩) n c) (ox l))(hl:l.length<=1000000000000)(hp:afY f cs l p g w):
 Cq 365 #[.slice (some ⟨g,0,none⟩) n c,.func (.func f) #[] cs] w (DY l p g w):=by
 have HI:=oA (p:=p) eg ho hl<|λW n hn hb=>(hp W n hn<|Fr.of hb).mono λe w'⟨h1,h2⟩=>⟨h1,h2▸zx _ _⟩;have⟨C,hx,Hu,hcv,hn,hnc,LU⟩:=afZ ho;rw[eZ]at Hu hn;subst hn;have akN:∀k(h:k<l.length),C[k]? =some (Nv<|l[k]):=λk h=>by rw[hcv k (by rw[eZ];exact h)];simp[ox]
 have HX:=ai hx;have HV:=ai akN;have ame:c<=9223372036854775807:=by rw[maxLen]at LU;omega
 go_enter func365,ntmps365;go_wp2_with fail;refine HI.mono ?_;rintro e w1⟨k,rfl,hk,K1⟩;have X1:=HX.below K1;obtain⟨rfl,Tz⟩|⟨k0,hk0,rfl,hpk,nM⟩:=hk
 .have HA:=ai Tz
  go_wp2
  go_ret;have e:kept p l=l:=List.filter_eq_self.2 λx hx=>by simp[uh HA x hx]
  rw[DY];rw[e];exact⟨_,_,rfl,qz ⟨g,rfl,rfl,X1.z,λi hi=>by rw[X1.c i];exact HV i hi⟩,Fr.of K1⟩
 .have df:((k0:Int)== -1)=false:=beq_eq_false_iff_ne.2 ae;have hkl:kept p (l.take k0)=l.take k0:=List.filter_eq_self.2 λx hx=>by
   have⟨i,hi,e⟩:=xm hx;rw[List.getElem_take]at e;rw[<-e,nM i Hv Hv];rfl
  have HK:kept p (l.take<|k0+1)=l.take k0:=by rw[Co p l k0 hk0,hkl,hpk];simp
  go_wp2
  go_loopg[5,6] (l.length-(k0+1)) (λgk vi vj wr=>afX g l p w gk vi vj wr)
  case atStart=>
   refine⟨k0,k0+1,C,ai rfl,ae,ae,rfl,jT,ai (by rw[HK];simp;omega),X1,Hu,ai<|λk h=>?_,ai<|λk h _=>HV k h,Fr.of K1⟩;simp only[HK]at h⊢;rw[List.length_take]at h;rw[uh HV k ae,List.getElem_take]
  case round=>
   obtain⟨i,j,C1,dv,hij,bq,rfl,rfl,hi,X2,hC1,nN,hhi,F2⟩:=hrel;by_cases bz:j<l.length
   .have hd:(j:Int)<(l.length:Int):=ae;have hdi:(i:Int)<(l.length:Int):=ae;have cj:wr.cell? ⟨g,j,none⟩=some (Nv<|l[j]):=by rw[X2.c j];exact hhi j bz<|br _
    have hiC:i<C1.size:=by have:=uh hC1;omega
    have ci:wr.cell? ⟨g,i,none⟩=some C1[i]:=by rw[X2.c i];exact vd hiC
    have fi:=X2.f i;have HC:=hp wr l[j] (xh bz) F2;have HKS:=Co p l j bz
    cases hq:p l[j]with
    |true=>
     rw[hq]at HC;generalize hxx:l[j]=xx at*;go_wp2_with(go_at_fn f;refine HC.mono ?_;rintro e w2⟨rfl,rfl⟩);go_roundg(l.length-(j+1))
     case measure=>rw[uh dv];omega
     case rel=>
      have ek:kept p (l.take<|j+1)=kept p (l.take j):=by rw[HKS,hq];simp
      refine⟨i,j+1,C1,ai rfl,ae,ae,rfl,jT,ai (by rw[ek];exact hi),X2,hC1,ai<|λk h=>?_,ai<|λk h hk=>hhi k h ae,F2⟩;simp only[ek]at h⊢;exact nN k h
    |false=>
     rw[hq]at HC;have X3:=X2.aP i (Nv<|l[j]) (C1.setIfInBounds i<|Nv<|l[j]) rfl hiC;generalize hxx:l[j]=xx at*;go_wp2_with(go_at_fn f;refine HC.mono ?_;rintro e w2⟨rfl,rfl⟩);go_roundg(l.length-(j+1))
     case measure=>rw[uh dv];omega
     case rel=>
      have ek:kept p (l.take<|j+1)=kept p (l.take j)++[xx]:=by rw[HKS,hq];simp
      have ei:=uh hi;refine⟨i+1,j+1,C1.setIfInBounds i<|Nv xx,ai rfl,ae,ae,jT,jT,ai (by rw[ek];simp[ei]),X3,ai (by simp;exact hC1),ai<|λk h=>?_,ai<|λk h hk=>?_,F2.set (q9 rfl) i _⟩
      .simp only[ek]at h⊢;rw[ug,List.length_singleton]at h;by_cases e:k=i
       .subst e;rw[List.getElem_append_right ae];simp[hiC]
       .rw[z9<|vg e,List.getElem_append_left ae];exact nN k ae
      .rw[z9 ae];exact hhi k h ae
   .have ej:j=l.length:=ae;subst ej;have hd:¬(l.length:Int)<(l.length:Int):=ae;have hic:¬c=i:=ae;have hcl:∀ty,(Builtin.clear_ #[464] ty #[Lv (some ⟨g,i,none⟩) (l.length-i)<|c-i]).run xq wr=.ok (.tuple #[]) (wr.setCells g i<|List.replicate (l.length-i)<|Iv 0):=λty=>
     Lib.run_clear_slice wr _ _ ty _ Cp Xn rfl rfl g i _ _ ae (λt ht=>by rw[X2.c<|i+t,vd (by have:=uh hC1;omega)];rfl) (λt _=>X2.f<|i+t)
    go_wp2
    go_ret;have ei:=uh hi;have F3:=vO g (List.replicate (l.length-i)<|Iv 0) i wr;rw[xf]at ei;have akO:∀k(h:k<(kept p l).length),C1[k]? =some (Nv<|(kept p l)[k]):=by
     have:=uh nN;simp only[xf]at this;exact this
    rw[DY];refine⟨some ⟨g,0,none⟩,c,by rw[<-ei];rfl,qz ⟨g,rfl,rfl,zd X2.z F3.size,λk hk=>?_⟩,F2.trans F3⟩;rw[World.cell?_setCells_out g _ i wr ⟨g,k,none⟩<|λ_ _=>q9 (by show k<i;omega),X2.c k];exact akO k hk
end
def yF(eg:∀args w,(callFunc f args).run xq w=.ok (.enter f args) w)(ho:gG w 98 base v (ox [])):
 Cq 365 #[v,.func (.func f) #[] cs] w λe w'=>∃sa sc,e=.returned (.slice sa 0 sc)/\Bq w w':=by
 have HI:=oA (p:=λ_=>false) (cs:=cs) eg ho ag (λW n hn _=>by simp at hn);obtain⟨va,vc,rfl⟩:=dP ho (n:=0) (by simp[ox]);go_enter func365,ntmps365;go_wp2_with fail;refine HI.mono ?_;rintro e w1⟨k,rfl,hk,K1⟩;have ek:k= -1:=by
  obtain⟨q,_⟩|⟨i,hi,_⟩:=hk
  .exact q
  .simp at hi
 subst ek
 go_wp2
 go_ret;exact⟨va,vc,rfl,K1⟩
open Classical in
noncomputable def fxB (Γ:jc) (κ:Nat->Ty) (v:Nat):Bool:=decide (qr Γ κ v)
def Ml{cm}(h1:Bx W cb #[Mv cm])(h2:CM W cm (qr Γ κ) r)n:Cq 366 #[Nv n,Pv cb] W λe w'=>e=.returned (.bool<|fxB Γ κ n)/\w'=W:=by
 obtain⟨c1,f1,z1⟩:=h1;have⟨k,hl,_,hk⟩:=h2.look n;have HK:=ai hk;clear hk h2;go_enter func366,ntmps366
 go_wp2
 go_ret;refine⟨?_,rfl⟩;have:decide (0<k)=fxB Γ κ n:=by
  rw[fxB];rw[decide_eq_decide];exact HK
 rw[<-this];rfl
def Mm T:jt Γ κ T=kept (fxB Γ κ) (vars [] T):=by
 rw[jt,kept];congr 1;funext v;by_cases h:qr Γ κ v
 .simp[fxB,h]
 .simp[fxB,h]
def pP P l w(e:Ending)w':=∃sa sc,e=.returned (.slice sa l.length sc)/\rq w' P sa l/\Bq w w'
def acF(h:bU w P b Γ)(hk:KW w P kb κ)(hkb:P kb)(hf:vN κ){NL:List BA}(hNL:∀x,Γ x≠none->x∈NL)(hNl:NL.length<=1000000)(afW:∀x c,Γ x=some c->c.any.length<=1000000000000)(ht:de w Q (bK T) v)(hz:size (bK T)<=1000000000000):
 Cq 359 #[Mv b,Mv kb,v] w (pP (λi=>w.heap.size<=i) (jt Γ κ T) w):=by
 have HF:=acE h hk hkb hf hNL hNl afW;obtain⟨ta,xa,rfl⟩:=ht.iface;go_enter func359,ntmps359;go_wp2_with fail;refine HF.mono ?_;rintro e w1⟨cm,r,rfl,LU,hr,hC,k1⟩;have⟨k2,B2⟩:=sd w1 #[Mv cm] 171;have K2:=k1.trans<|k2.mono k1.size;have C2:=hC.same<|k2.block cm hC.lt;have zc:=hC.lt;have z1:=k1.size;have HV:=fE (ht.af K2) hz;go_wp2_with fail;refine HV.mono ?_;rintro e w3⟨V,rfl,ho,k3⟩;rw[gX]at ho;have yE:(vars [] T).length<=1000000000000:=by
  have h1:=gX T;rw[<-h1,cD];have h2:=dh (occs<|bK T) [];have h3:=di<|bK T;simp only[uq]at h2;omega
 have e0:=Mm (Γ:=Γ) (κ:=κ) T;have K3:=K2.trans<|k3.mono K2.size;have z3:=k3.size;rw[aX]at z3;have B3:=B2.below k3;have C3:=C2.same (k3.block cm (by rw[aX];omega));have fS:=iQ ho;rw[aX]at fS;by_cases hl:vars [] T=[]
 .rw[hl]at ho e0;have HD:=yF (cs:=#[Pv w1.heap.size]) (enters_of xw qkr rfl) ho;obtain⟨va,vc,rfl⟩:=dP ho (n:=0) (by simp[ox]);go_wp2_with fail;refine HD.mono ?_;rintro e w4⟨sa,sc,rfl,K4⟩
  go_wp2
  go_ret;have k:=K3;rw[pP];rw[e0];exact⟨sa,sc,rfl,q9 rfl,k.trans<|K4.mono k.size⟩
 .have acG:0<(ox<|vars [] T).length:=by rw[eZ];exact zo<|λe=>hl<|xj e
  obtain⟨g,cp,m,rfl,hg,lh,_⟩:=iB ho acG;rw[aX]at hg;have HD:=DZ (p:=fxB Γ κ) (enters_of xw qkr rfl) ho yE (cs:=#[Pv w1.heap.size])<|λW n hn hF=>Ml (B3.fr hF ae) (C3.same<|hF.block cm ae ae) n;go_wp2_with fail;refine HD.mono ?_;rintro e w4⟨sa,sc,rfl,HV4,F4'⟩
  go_wp2
  go_ret;have f:=F4';have k:=K3;rw[pP];rw[e0];refine⟨sa,sc,rfl,?_,⟨f.os.trans k.os,f.tape.trans k.tape,f.output.trans k.output,xy k.size f.size,λi hi=>(f.block i (by have:=k.size;omega) ae).trans<|k.block i hi⟩⟩;exact HV4.move (br _) (λ_ _ _=>rfl) (λi p _=>by show w.heap.size<=i;omega)
structure WC where
 (eb cb rb mb nb fX:Nat)
 mks:jm
 nl:List BA
abbrev af0(c:WC):Array Value:=#[.func (.func 47) #[] #[Pv c.cb],Mv c.rb,Mv c.mb,Mv c.nb]
def ur w b:=∃L,MG zv w b L/\aZ kq L=some (.func (.func 124) #[] #[])/\aZ fe L=some (.func (.func 124) #[] #[])/\aZ gM L=some (.func (.func 124) #[] #[])/\aZ eQ L=some (.func (.func 125) #[] #[])
def Xo w P(sa:Option Addr)l:=l=[]\/∃(g:Nat)(vs:Nat->Value),sa=some ⟨g,0,none⟩/\P g/\g<w.heap.size/\∀i(h:i<l.length),w.cell? ⟨g,i,none⟩=some (vs i)/\dW w P l[i] (vs i)
def WD w P tk m(v:Value):=∃sa sc ta xa,v=.agg #[.slice sa tk.length sc,.iface ta xa]/\Xo w P sa tk/\dW w P m (.iface ta xa)
def mS w P b(mk:jm):=∃L,MG zv w b L/\(∀x,aZ x L=none->mk x=none)/\∀x v,aZ x L=some v->∃tk m,mk x=some (tk,m)/\WD w P tk m v
abbrev dB(c:WC)i:=i≠c.cb
structure WE w c cnt:Prop where
 bx:Bx w c.eb (af0 c)
 ct:Bx w c.cb #[Nv cnt]
 rs:ur w c.rb
 ms:mS w (λi=>i≠c.cb/\i<c.fX) c.mb c.mks
 d:c.eb≠c.cb/\c.rb≠c.cb/\c.mb≠c.cb
 l:c.eb<c.fX/\c.cb<c.fX/\c.rb<c.fX/\c.mb<c.fX/\c.fX<=w.heap.size
section
variable {c:WC} {cnt:Nat}
theorem Xo.move{sa}{l}(h:Xo w P sa l)(hs:w.heap.size<=w'.heap.size)(hb:∀b,P b->b<w.heap.size->w'.heap[b]? =w.heap[b]?)(hq:∀b,P b->b<w.heap.size->Q b):Xo w' Q sa l:=by
 obtain h|⟨g,vs,h1,h2,h3,h4⟩:=h
 .exact q9 h
 .exact qz ⟨g,vs,h1,hq g h2 h3,zd h3 hs,λi hi=>⟨(zu (a:=⟨g,i,none⟩)<|hb g h2 h3).trans (h4 i hi).1,(h4 i hi).2.move hs hb hq⟩⟩
theorem mS.move{b}{mk}(h:mS w P b mk)(hs:w.heap.size<=w'.heap.size)(cz:w'.heap[b]? =w.heap[b]?)(hb:∀b,P b->b<w.heap.size->w'.heap[b]? =w.heap[b]?)(hq:∀b,P b->b<w.heap.size->Q b):mS w' Q b mk:=by
 obtain⟨L,h1,h2,h3⟩:=h;refine⟨L,h1.same cz,h2,λx v hx=>?_⟩;obtain⟨tk,m,e,sa,sc,ta,xa,rfl,q1,q2⟩:=h3 x v hx;exact⟨tk,m,e,sa,sc,ta,xa,rfl,q1.move hs hb hq,q2.move hs hb hq⟩
def mS.lt{b}{mk}(h:mS w P b mk):b<w.heap.size:=qAr
def ur.same{b}(h:ur w b)(hb:w'.heap[b]? =w.heap[b]?):ur w' b:=qAs
def ur.lt{b}(h:ur w b):b<w.heap.size:=qAr
def WE.fr(h:WE w c cnt)(hf:Fr (λi=>i=c.cb\/c.fX<=i) w w'){aE}(hc:Bx w' c.cb #[Nv aE]):WE w' c aE:=by
 have⟨l1,l2,l3,l4,l5⟩:=h.l;have⟨d1,d2,d3⟩:=h.d;exact⟨h.bx.fr hf ae,hc,h.rs.same<|hf.block _ h.rs.lt ae,h.ms.move hf.size (hf.block _ h.ms.lt ae) (λb p z=>hf.block b z ae)<|λ_ p _=>p,h.d,⟨l1,l2,l3,l4,xy l5 hf.size⟩⟩
def Fr.fX{S T}(h:Fr S w w')(hs:∀i,S i->T i):Fr T w w':=⟨h.os,h.tape,h.output,h.size,λk hk hn=>h.block k hk λq=>hn<|hs k q⟩
def WE.frc(h:WE w c cnt)(hf:Fr (λi=>i=c.cb) w w')(hc:Bx w' c.cb #[Nv aE]):WE w' c aE:=h.fr (hf.fX λ_ q=>q9 q) hc
def WE.one{b}(h:WE w c cnt)(o:One b w w')(hb:c.fX<=b):WE w' c cnt:=h.fr ⟨o.os,o.tape,o.output,LS,λi _ hi=>o.block i λe=>hi<|qz<|e▸hb⟩ (h.ct.one o (by have:=h.l;omega))
def WE.af(h:WE w c cnt)(hb:Bq w w'):WE w' c cnt:=h.frc (Fr.of hb)<|h.ct.below hb
def WE.dx(h:WE w c cnt):c.cb<w.heap.size:=h.ct.z
end
def us cnt n:=1<=n/\n<=cnt
section
variable {c:WC} {cnt:Nat}
def oB n(hn:n<=1000000)(h:Bx w cb #[Nv n]):Cq 47 #[Pv cb] w λe w'=>e=.returned (Iv<|(n:Int)+1)/\w'=w.setCell ⟨cb,0,none⟩ (Iv<|(n:Int)+1):=by
 obtain⟨c,f,z⟩:=h;go_enter func47,ntmps47
 go_wp2
 go_ret;exact⟨rfl,rfl⟩
def WE.fresh(h:WE w c cnt):WE (w.setCell ⟨c.cb,0,none⟩<|Iv<|(cnt:Int)+1) c (cnt+1)/\Fr (λi=>i=c.cb) w (w.setCell ⟨c.cb,0,none⟩<|Iv<|(cnt:Int)+1):=by
 have F:Fr (λi=>i=c.cb) w (w.setCell ⟨c.cb,0,none⟩<|Iv<|(cnt:Int)+1):=(Fr.refl (λi=>i=c.cb) w).set (b:=c.cb) (q9 rfl) 0 _;have:=h.ct.aP 0 (Iv<|(cnt:Int)+1) #[Iv<|(cnt:Int)+1] rfl ag;exact⟨h.frc F<|by simpa using this,F⟩
def qS cnt(l:List Nat)v:=if v∈l then some (cnt+1+l.idxOf v)else none
def anD(cnt:Nat)(l:List Nat)(j:Nat)(v:Nat):Option Ty:=if v∈l.take j then some (.var<|cnt+1+l.idxOf v)else none
def Hw{v v'}(hv:v∈l)(Mn:v'∈l)(e:l.idxOf v=l.idxOf v'):v=v':=by
 have h1:=List.getElem_idxOf<|List.idxOf_lt_length_iff.2 hv;have h2:=List.getElem_idxOf<|List.idxOf_lt_length_iff.2 Mn;simp only[e]at h1;exact h1.symm.trans h2
def Cr(cnt:Nat)(l:List Nat)(hn:l.Nodup){u:Nat->Prop}(hu:∀n,u n->us cnt n):qs l qi (qS cnt l) u (λn=>u n\/(cnt<n/\n<=cnt+l.length)) where
 eR v n h:=Mo
 out v h:=by simp[qS,h,qi]
 all v h:=by simp[qS,h]
 new v n _ h q:=by
  have:=hu n q;rw[qS]at h;split at h
  .injection h with h;rw[us]at this;omega
  .cases h
 one v v' n _ h1 h2:=by
  rw[qS]at h1 h2;split at h1<;>split at h2
  .injection h1 with h1;injection h2 with h2;rename_i a b;exact Hw a b ae
  .cases h2
  .cases h1
  .cases h1
 use n:=by
  constructor
  .rintro(h|h)
   .exact q9 h
   .right;have hi:n-cnt-1<l.length:=ae;refine⟨l[n-cnt-1],rfl,?_⟩;rw[qS];rw[if_pos<|xh hi,hn.idxOf_getElem (n-cnt-1) hi];congr 1;omega
  .rintro(h|⟨v,_,h⟩)
   .exact q9 h
   .rw[qS]at h;split at h
    .rename_i hv;injection h with h;have:=List.idxOf_lt_length_iff.2 hv;exact qz ae
    .cases h
def aiJ c cnt l w gk v wr:=
 ∃j:Nat,Hid (gk=l.length-j)/\j<=l.length/\v=Nv j/\WE wr c (cnt+j)/\fh wr (λi=>i≠c.cb/\i≠w.heap.size) w.heap.size (anD cnt l j)/\Fr (λi=>i=c.cb) w wr/\Hid (w.heap.size<wr.heap.size)
def H8 c cnt l w(e:Ending)w':=
 ∃b,e=.returned (Mv b)/\w.heap.size<=b/\WE w' c (cnt+l.length)/\fh w' (dB c) b (λv=>(qS cnt l v).map Ty.var)/\Fr (λi=>i=c.cb) w w'
def Xp(h:WE w c cnt)(hv:rq w (dB c) sa l)(hn:l.Nodup)(hz:cnt+l.length<=1000000):Cq 349 #[Pv c.eb,.slice sa l.length sc] w (H8 c cnt l w):=by
 have jB:= @run_makeMap Tryz.prog;have k1:Bq w (w.alloc<|.map #[] 0):=bw _;have zc:=h.dx;have W1:=h.af k1;have akP:=ai h.l.2.2.2.2;have S1:=fh.new w<|λi=>i≠c.cb/\i≠w.heap.size;have K1:=ai k1;go_enter func349,ntmps349
 go_wp2
 go_loopg[11] l.length (λgk v wr=>aiJ c cnt l w gk v wr)
 case atStart=>
  refine⟨0,ai ag,zh _,rfl,W1,?_,Fr.of K1,ai ag⟩;have e:anD cnt l 0=λ_=>none:=by funext v;simp[anD]
  rw[e];exact S1
 case round=>
  obtain⟨j,dv,hj,rfl,HW,HS,HF,hzz⟩:=hrel;by_cases bq:j<l.length
  .have hd:(j:Int)<(l.length:Int):=ae;obtain⟨g,rfl,hg,lh,b8⟩:=hv.resolve_left<|λe=>qBs;have cg:=(zu (a:=⟨g,j,none⟩)<|HF.block g lh hg).trans<|b8 j bq;obtain⟨m,hm⟩:∃m,Hid<|m=cnt+j:=⟨_,ai rfl⟩;rw[<-uh hm]at HW;have HC:=oB m (by have:=uh hm;omega) HW.ct;have⟨HW2,F2⟩:=HW.fresh;have S3:=HS.fr F2 (λe=>ae)<|λi p _=>p.1;have⟨c1,f1,z1⟩:=HW.bx;have Bi:=HF.trans F2;have nz:=HW.d.1;have ZZ:w.heap.size<(wr.setCell ⟨c.cb,0,none⟩<|Iv<|(m:Int)+1).heap.size:=(by have:=uh hzz;simp[World.setCell];exact this);have T3:de (wr.setCell ⟨c.cb,0,none⟩<|Iv<|(m:Int)+1) (λi=>i≠c.cb/\i≠w.heap.size) (.var<|m+1) (Fv 98<|Iv<|(m:Int)+1):=(by have:=de.var (w:=wr.setCell ⟨c.cb,0,none⟩<|Iv<|(m:Int)+1) (P:=λi=>i≠c.cb/\i≠w.heap.size)<|m+1;simpa using this);generalize hx:l[j]=xx at*;go_wp2_with fail;refine HC.mono ?_;rintro e w3⟨rfl,rfl⟩;go_wp2_with(refine lp iC rfl _ _ _ (qz rfl) rfl S3 (λq=>q.2 rfl) T3 xx rfl rfl ?_;intro w4 H' O';have S4:=ai H';have O4:=ai O';clear H' O');go_roundg(l.length-(j+1))
   case measure=>rw[uh dv];omega
   case rel=>
    have o:=uh O4;have em:=uh hm;have fo:Fr (λi=>i=w.heap.size) (wr.setCell ⟨c.cb,0,none⟩<|Iv<|(m:Int)+1) w4:=⟨o.os,o.tape,o.output,LS,λi _ hi=>o.block i hi⟩;refine⟨j+1,ai rfl,ae,jT,?_,?_,?_,ai (by rw[o.size];exact ZZ)⟩
    .have hw:=HW2;have e:cnt+(j+1)=m+1:=ae;rw[e];exact hw.one o akP
    .have e:anD cnt l (j+1)=eh (anD cnt l j) xx (some<|.var<|m+1):=by
      funext v;rw[anD,eh];have af1:v∈l.take (j+1)↔v∈l.take j\/v=xx:=by rw[xd bq,hx,xo,xn]
      by_cases q:v=xx
      .subst q;have:l.idxOf v=j:=by rw[<-hx];exact hn.idxOf_getElem j bq
       rw[if_pos<|af1.2<|qz rfl,if_pos rfl,this,em];congr 2;omega
      .rw[if_neg q];by_cases r:v∈l.take j
       .rw[if_pos<|af1.2<|q9 r];exact(if_pos r).symm
       .rw[if_neg<|λh=>(af1.1 h).elim r q];exact(if_neg r).symm
     rw[e];exact S4
    .have f:=Bi;exact⟨o.os.trans f.os,o.tape.trans f.tape,o.output.trans f.output,by rw[o.size];exact f.size,λi hi hni=>(o.block i ae).trans<|f.block i hi hni⟩
  .have hd:decide ((j:Int)<(l.length:Int))=false:=bP;have ej:j=l.length:=ae;subst ej
   go_wp2
   go_ret;refine⟨w.heap.size,rfl,br _,HW,?_,HF⟩;have e:anD cnt l l.length=λv=>(qS cnt l v).map Ty.var:=by
    funext v;rw[anD,qS];rw[xf];by_cases q:v∈l
    .rw[if_pos q,if_pos q];rfl
    .rw[if_neg q,if_neg q];rfl
   rw[<-e];exact HS.wide λi p=>p.1
structure WK w c cnt(s:jd)kb:Prop where
 k:KW w (dB c) kb s.k
 n:kb≠c.cb
 u:∀n,s.u n->us cnt n
 ok:In.Ok s
 wh:∀n,Whole<|s.k n
def Mp{cnt}(hn:l.Nodup)(h:∀n,n∈l->us cnt n):l.length<=cnt:=by
 have:=D5 (V:=(List.range cnt).map (·+1)) hn λx hx=>by
  have q:=h x hx;rw[us]at q;exact List.mem_map.2 ⟨x-1,List.mem_range.2 ae,ae⟩
 simpa using this
def WK.D6(h:WK w c cnt s kb)(hc:cnt<=1000000)(h1:1<=cnt\/True):vN s.k where
 wh:=h.wh
 len n:=by
  by_cases q:s.u n
  .refine xy (Mp (dG _ xg) λm hm=>?_) hc;exact h.u m (h.ok.use n m q<|by simpa using(bE (s.k n) [] m).1 hm)
  .rw[h.ok.out n q];simp[vars,Un.seen]
structure WG w c s Λ(Γ:jc)gb:Prop where
 e:bU w (dB c) gb Γ
 n:gb≠c.cb
 i:j8 Λ s Γ
 nd:∀y d,Γ y=some d->d.any.Nodup
 dm:∀x,Γ x≠none->x∈c.nl
def ku w:(zeroValue 467).run xq w=.ok (.agg #[.nilIface,.slice none 0 0]) w:=qkr
def Xq c(d:j6)f t(s:jd)cnt w(e:Ending)w':=Fr (λi=>i=c.cb) w w'/\
 ((48<size (sub s.k d.of)/\WE w' c cnt/\e=.panicked [{v:=guW ⟨7,f,t⟩ .nilIface .nilIface,recovered:=false}])\/
  (size (sub s.k d.of)<=48/\WE w' c (cnt+d.any.length)/\∃ta xa,e=.returned (.iface ta xa)/\de w' (dB c) (sub (jo<|qS cnt d.any)<|sub s.k d.of) (.iface ta xa)))
def Pe cnt l:D7 (λv=>(qS cnt l v).map Ty.var)=jo (qS cnt l):=by
 funext v;show((qS cnt l v).map Ty.var).getD (.var v)=_;rw[jo]
 cases qS cnt l v<;>rfl
mutual
def iD(ρ:ju):∀t,size (sub (jo ρ) t)=size t
 |.var n=>by simp only[sub,jo];split<;>simp[size]|.aK c l=>by simp only[sub,size,Cs ρ l]
def Cs(ρ:ju):∀l,ah (aT (jo ρ) l)=ah l
 |[]=>rfl|t::l=>by simp only[aT,ah,iD ρ t,Cs ρ l]
end
def pQ(ρ:ju)t(h:Whole t):Whole (sub (jo ρ) t):=cr t h λn _=>by rw[jo];split<;>trivial
end
abbrev Ct(f:Fl)(vl vr:Value):Ending:=.panicked [{v:=guW f vl vr,recovered:=false}]
def af2(c:WC)(S:Nat)(s:jd)(cnt:Nat)(w':World)(aE:Nat)(e:Ending)(o:Except qm (Ty×jd)):Prop:=match o with
 |.ok (T,s')=>(∀n,s'.u n->s.u n\/(cnt<n/\n<=aE))/\(∀n,Whole<|s'.k n)/\∃ta xa kb,e=.returned (.tuple #[.iface ta xa,Mv kb])/\kb≠c.cb/\KW w' (dB c) kb s'.k/\TW w' (dB c) S T (.iface ta xa)|.error z=>∃vl vr,e=Ct z.f vl vr/\sf w' (dB c) z vl vr
def aY c S D(p:jh Ty)(s:jd)cnt w e w':=Fr (λi=>i=c.cb) w w'/\∃aE o,cnt<=aE/\aE<=cnt+D/\WE w' c aE/\p s o/\af2 c S s cnt w' aE e o
structure Fit(c:WC)cnt n:Prop where
 a:cnt+1000*n<=850000
 b:n<=805
 l:c.nl.length<=1000000
def Fit.le{c:WC}{cnt n'}(h:Fit c cnt n)(h1:aE+1000*n'<=cnt+1000*n)(h2:n'<=n):Fit c aE n':=⟨by have:=h.a;omega,by have:=h.b;omega,h.l⟩
section
variable {c:WC} {cnt:Nat}
def WG.fr{s'}(h:WG w c s Λ Γ gb)(hf:Fr (λi=>i=c.cb) w w')(hr:In.LV Λ s s'):WG w' c s' Λ Γ gb:=⟨h.e.fr hf h.n<|λ_ p _=>p,h.n,h.i.run hr,h.nd,h.dm⟩
def WG.af(h:WG w c s Λ Γ gb)(hb:Bq w w'):WG w' c s Λ Γ gb:=⟨h.e.af hb,h.n,h.i,h.nd,h.dm⟩
def WK.af(h:WK w c cnt s kb)(hb:Bq w w'):WK w' c cnt s kb:=⟨h.k.af hb,h.n,h.u,h.ok,h.wh⟩
structure D8(w w1:World)c al(s s1:jd)(Λ:Nat->Prop)iY:Prop where
 k:WK w1 c al s1 iY
 n:∀n,¬s1.u n->Λ n
 p:ql Λ s s1
def Xr(hk:WK w c cnt s kb)(hn:∀n,¬s.u n->Λ n)(hg:WG w c s Λ Γ gb)(hp:jf mk x Γ s (.ok (T,s1)))(hu:∀n,s1.u n->s.u n\/(cnt<n/\n<=al))(qT:cnt<=al)(hw:∀n,Whole<|s1.k n)(h4:iY≠c.cb)(h5:KW w1 (dB c) iY s1.k):D8 w w1 c al s s1 Λ iY/\jj Λ s1 T:=by
 have⟨g1,g2⟩:=In.l8 mk x Γ s Λ hk.ok hn hg.i T s1 hp;exact⟨⟨⟨h5,h4,λn q=>by obtain r|r:=hu n q;have:=hk.u n r;unfold us at*;omega;rw[us];omega,g1.ok,hw⟩,g1.new,g1⟩,g2⟩
def mT c cnt(s:jd)Λ x y f t w e w':=Bq w w'/\∃o,jp x y f t s o/\match o with
 |.ok (_,s')=>ql Λ s s'/\∃b,e=.returned (Mv b)/\WK w' c cnt s' b|.error z=>∃vl vr,e=Ct z.f vl vr/\sf w' (dB c) z vl vr
def D9{p:Prop}(h:p:=by
 obtain⟨_,q'⟩|⟨_,_,⟨θ,_,q'⟩|⟨_,q'⟩⟩:=ho
 .cases q'
 .grind
 .cases q'):p:=h
def aiK(h:WE w c cnt)(hk:WK w c cnt s kb)(hn:∀n,¬s.u n->Λ n)(hc:cnt<=1000000)(hS:S<=900000){x:Ty}(hx:TW w (dB c) S x v)(hy:TW w (dB c) S y u)(tx:jj Λ s x)(ty:jj Λ s y)f t:
 Cq 324 #[Mv kb,v,u,.agg #[Nv f,Nv t]] w (mT c cnt s Λ x y f t w):=by
 have zc:=h.dx;refine(H9 hk.k hk.n (hk.D6 hc<|qz trivial) hS hx hy f t s.u).mono ?_;rintro e w1⟨k1,o,ho,hm⟩;refine⟨k1,o,ho,?_⟩
 cases o with
 |ok q=>
  obtain⟨b,rfl,hb,hK,hW⟩:=hm;have⟨g1,_⟩:=In.fk (s:=s) hk.ok hn tx ty f t q.1 q.2 ho;have hu:q.2.u=s.u:=by
   exact D9
  exact⟨g1,b,rfl,⟨hK.wide λi p=>by obtain p|p:=p;exact p;show i≠c.cb;omega,ae,λn q=>hk.u n<|hu▸q,g1.ok,hW⟩⟩
 |error z=>
  obtain⟨vl,vr,rfl,hF⟩:=hm;refine⟨vl,vr,rfl,hF.pN,λq=>?_,hF.k⟩;have wd:∀i,(dB c i\/w.heap.size<=i)->dB c i:=λi p=>by obtain p|p:=p;exact p;show i≠c.cb;omega
  exact⟨(hF.apart q).1.wide wd,(hF.apart q).2.wide wd⟩
def af3(s:jd)x y:=size (sub s.k x)<=48/\size (sub s.k y)<=48/\∃σ,sub σ (sub s.k x)=sub σ (sub s.k y)
def Bw c cnt(s:jd)Λ x y f t w(e:Ending)w':=∃b,e=.returned (Mv b)/\Bq w w'/\∃s',jp x y f t s (.ok ((),s'))/\ql Λ s s'/\WK w' c cnt s' b/\s'.u=s.u
def Xs c(s:jd)x y f t w e w':=∃fl vl vr,e=Ct fl vl vr/\Bq w w'/\∃z,z.f=fl/\jp x y f t s (.error z)/\sf w' (dB c) z vl vr
def mT.ok{x y}{f t}{e}(h:mT c cnt s Λ x y f t w e w')(hc:af3 s x y):Bw c cnt s Λ x y f t w e w':=by
 obtain⟨k1,o,ho,hm⟩:=h;obtain⟨a1,a2,σ,a3⟩:=hc
 cases o with
 |ok q=>
  obtain⟨g,b,rfl,hk⟩:=hm;refine⟨b,rfl,k1,q.2,ho,g,hk,?_⟩;exact D9
 |error z=>
  exfalso;obtain⟨r,_⟩|⟨_,_,⟨θ,_,q'⟩|⟨r,_⟩⟩:=ho
  .omega
  .cases q'
  .exact r σ a3
def mT.no{x:Ty}(h:mT c cnt s Λ x y f t w e w')(hc:¬af3 s x y):Xs c s x y f t w e w':=by
 obtain⟨k1,o,ho,hm⟩:=h
 cases o with
 |ok q=>
  exfalso;obtain⟨_,q'⟩|⟨a1,a2,⟨θ,vP,q'⟩|⟨_,q'⟩⟩:=ho
  .cases q'
  .exact hc ⟨a1,a2,θ,vP.one⟩
  .cases q'
 |error z=>
  obtain⟨vl,vr,rfl,hF⟩:=hm;exact⟨z.f,vl,vr,rfl,k1,z,rfl,ho,hF⟩
end
mutual
def pR:Nd->List BA
 |.mk k s _ L _ _ _=>if k=1 then[s]else mU L
def mU:List Nd->List BA
 |[]=>[]|x::l=>pR x++mU l
end
inductive sg(mk:jm)(nl:List BA):Nd->Prop where
 |leaf(k:Nat)(s:BA)(n f t a:Nat)(h:k=15\/k=3\/k=4\/k=5):sg mk nl (.mk k s n [] f t a)
 |low(s:BA)(n f t a:Nat)(h:s∈nl):sg mk nl (.mk 1 s n [] f t a)
 |pr(s:BA)(n:Nat)(x y:Nd)(f t a:Nat)(hx:sg mk nl x)(hy:sg mk nl y):sg mk nl (.mk 6 s n [x,y] f t a)
 |up(s:BA)(n:Nat)(L:List Nd)(f t a:Nat)(tk:List Ty)(m:Ty)(h:mk s=some (tk,m))(hl:L.length=tk.length)(hr:∀i(h:i<L.length),sg mk nl L[i]):sg mk nl (.mk 2 s n L f t a)
inductive ScE(mk:jm)(nl:List BA):(BA->Prop)->Nd->Prop where
 |low(dom:BA->Prop)(s:BA)(n f t a:Nat)(h:dom s):ScE mk nl dom (.mk 1 s n [] f t a)
 |up(dom:BA->Prop)(s:BA)(n f t a:Nat)(tk:List Ty)(m:Ty)(h:mk s=some (tk,m)):ScE mk nl dom (.mk 2 s n [] f t a)
 |leaf(dom:BA->Prop)(k:Nat)(s:BA)(n f t a:Nat)(h:k=3\/k=4\/k=5):ScE mk nl dom (.mk k s n [] f t a)
 |two(dom:BA->Prop)(k:Nat)(s:BA)(n:Nat)(x y:Nd)(f t a:Nat)(h:k=6\/k=7\/k=8)(hx:ScE mk nl dom x)(hy:ScE mk nl dom y):ScE mk nl dom (.mk k s n [x,y] f t a)
 |of(dom:BA->Prop)(s:BA)(n:Nat)(x y:Nd)(f t a:Nat)(hx:ScE mk nl dom x)(hv:vars [] (bt []<|es y).1=[])(hz:size (bt []<|es y).1<=1000)(hw:Whole (bt []<|es y).1):ScE mk nl dom (.mk 14 s n [x,y] f t a)
 |fn(dom:BA->Prop)(s:BA)(n:Nat)(x:Nd)(f t a:Nat)(hs:s∈nl)(hx:ScE mk nl (λv=>dom v\/v=s) x):ScE mk nl dom (.mk 9 s n [x] f t a)
 |lt(dom:BA->Prop)(c:Nat)(s:BA)(n:Nat)(x z:Nd)(f t a:Nat)(hs:s∈nl)(hc:c=10\/c=11)(hx:ScE mk nl (λv=>dom v\/(c=11/\v=s)) x)(hz:ScE mk nl (λv=>dom v\/v=s) z):ScE mk nl dom (.mk c s n [x,z] f t a)
 |ite(dom:BA->Prop)(s:BA)(n:Nat)(x y z:Nd)(f t a:Nat)(hx:ScE mk nl dom x)(hy:ScE mk nl dom y)(hz:ScE mk nl dom z):ScE mk nl dom (.mk 12 s n [x,y,z] f t a)
 |mt(dom:BA->Prop)(s:BA)(n:Nat)(x:Nd)(A:List (Nd×Nd))(f t a:Nat)(hx:ScE mk nl dom x)(hp:∀i(h:i<A.length),sg mk nl A[i].1)(he:∀i(h:i<A.length),ScE mk nl (λv=>dom v\/v∈pR A[i].1) A[i].2):ScE mk nl dom (.mk 13 s n (x::aU A) f t a)
structure MkFine(mk:jm):Prop where
 sz:∀x tk m,mk x=some (tk,m)->size (jv tk m)<=1000
 wh:∀x tk m,mk x=some (tk,m)->Whole (jv tk m)
 vs:∀x tk m,mk x=some (tk,m)->∀n,aA n (jv tk m)->aA n m
structure Cu nd c w cnt(s:jd)kb(Λ:Nat->Prop)(Γ:jc)gb Q dom v:Prop where
 we:WE w c cnt
 wk:WK w c cnt s kb
 hn:∀n,¬s.u n->Λ n
 wg:WG w c s Λ Γ gb
 pe:PE w Q nd v
 hq:∀b,Q b->b≠c.cb
 sc:ScE c.mks c.nl dom nd
 hd:∀x,dom x->Γ x≠none
 ft:Fit c cnt (nn nd)
 mf:MkFine c.mks
def Bj nd:=∀(c:WC)(w:World)(cnt:Nat)(s:jd)(kb:Nat)(Λ:Nat->Prop)(Γ:jc)(gb:Nat)(Q:Nat->Prop)(dom:BA->Prop)(v:Value),Cu nd c w cnt s kb Λ Γ gb Q dom v->
 Cq 323 #[Pv c.eb,Mv kb,Mv gb,v] w (aY c (1100*nn nd) (1000*nn nd) (jf c.mks nd Γ) s cnt w)
section
variable {c:WC} {cnt:Nat}
def Cu.part(h:Cu nd c w cnt s kb Λ Γ gb Q dom v)(hb:Bq w w1)(hp:PE w Q x u)(hs:ScE c.mks c.nl dom x)(hx:nn x<=nn nd):Cu x c w1 cnt s kb Λ Γ gb Q dom u:=
 ⟨h.we.af hb,h.wk.af hb,h.hn,h.wg.af hb,hp.af hb,h.hq,hs,h.hd,h.ft.le ae hx,h.mf⟩
end
section
variable {c:WC} {cnt:Nat}
def H_(mk:jm)s n x y f t a(Γ:jc):jf mk (.mk 8 s n [x,y] f t a) Γ=ja (jf mk x Γ) λa=>ja (jf mk y Γ) λb=>ja jz λv=>ja (jp a (qh b<|.var v) f t) λ_=>jk<|.var v:=by simp[jf,jx,qf,j7]
def yG(h:WK w c cnt s kb)(hn:∀n,¬s.u n->Λ n)(hf:Fr (λi=>i=c.cb) w w1):jz s (.ok (cnt+1,⟨s.k,λn=>s.u n\/n=cnt+1⟩))/\D8 w w1 c (cnt+1) s ⟨s.k,λn=>s.u n\/n=cnt+1⟩ Λ kb/\jj Λ ⟨s.k,λn=>s.u n\/n=cnt+1⟩ (.var<|cnt+1):=by
 have hm:jz s (.ok (cnt+1,⟨s.k,λn=>s.u n\/n=cnt+1⟩)):=⟨cnt+1,λq=>by have:=h.u _ q;rw[us]at this;omega,rfl⟩;have⟨g1,g2,_⟩:=In.ij h.ok hn _ _ hm;exact⟨hm,⟨⟨h.k.fr hf h.n<|λ_ p _=>p,h.n,λn q=>by obtain q|q:=q;have:=h.u n q;unfold us at*;omega;rw[us];omega,g1.ok,h.wh⟩,g1.new,g1⟩,g2⟩
def aeW:CN qJ:=q9 rfl
def Xt:qJ≠si:=by grind[si]
def Xu:nO≠si:=by grind[si]
def TW.fn{a b}(ha:TW w (dB c) S1 a va)(hb:TW w (dB c) S2 b vb)(hc:c.cb<w.heap.size):TW (w.alloc<|.cells #[va,vb] 67) (dB c) (1+S1+S2) (qh a b) (.iface 169<|.agg #[.string<|pn qJ,.slice (some ⟨w.heap.size,0,none⟩) 2 2]):=by
 obtain⟨⟨x1,y1,e1,z1⟩,wx⟩:=ha;obtain⟨⟨x2,y2,e2,z2⟩,wy⟩:=hb;exact⟨⟨.aK qJ [x1,x2],mV.ty aeW y1 y2 (by show w.heap.size≠c.cb;omega),dD.af4 qJ Xt e1 e2,by simp only[size,ah];omega⟩,⟨Xt,wx,wy,trivial⟩⟩
def acH{s}{a b}(ha:jj Λ s a)(hb:jj Λ s b):jj Λ s (qh a b):=by
 refine⟨λn q=>?_,λn q=>?_⟩
 .simp only[aA,bY,or_false]at q;exact q.elim (ha.use n)<|hb.use n
 .simp only[sub,aT,aA,bY,or_false]at q;exact q.elim (ha.loc n)<|hb.loc n
def mT.or{x}(h:mT c cnt s Λ x y f t w e w'):Xs c s x y f t w e w'\/Bw c cnt s Λ x y f t w e w':=by
 by_cases hc:af3 s x y
 .exact qz (h.ok hc)
 .exact q9 (h.no hc)
end
section
variable {c:WC} {cnt:Nat}
def Mq(mk:jm)s n x f t a(Γ:jc):jf mk (.mk 9 s n [x] f t a) Γ=ja jz λv=>ja (jf mk x<|ji Γ s<|qp<|.var v) λa=>jk<|qh (.var v) a:=by simp[jf,jx,qf,j7]
def pS w c n S(h:1<=S):TW w (dB c) S (.var<|n+1) (.iface 98<|Iv<|(n:Int)+1):=TW.of (x:=.var<|n+1) (by have:=de.var (w:=w) (P:=dB c)<|n+1;simpa using this) trivial (by simpa[size]using h)
def Ia(h:TW w (dB c) S T (.iface ta xa))(hS:S<=900000):nW w (dB c) (qp T) (.agg #[.iface ta xa,.slice none 0 0]):=⟨ta,xa,none,0,rfl,h.le hS,q9 rfl⟩
def WG.set{w':World}{Xv:Nat}{d:j6}{x:BA}(h:WG w c s Λ Γ gb)(he:bU w' (dB c) Xv (ji Γ x d))(hn:Xv≠c.cb)(hi:In.nQ Λ s d)(hd:d.any.Nodup)(hx:x∈c.nl):WG w' c s Λ (ji Γ x d) Xv where
 e:=he
 n:=hn
 i:=h.i.set x hi
 nd y d' q:=by
  rw[ji]at q;split at q
  .grind
  .exact h.nd y d' q
 dm y q:=by
  rw[ji]at q;split at q
  .rename_i e;rw[e];exact hx
  .exact h.dm y q
def D_{x}(h:∀y,dom y->Γ y≠none):∀y,(dom y\/y=x)->ji Γ x d y≠none:=λy q=>by
 rw[ji];split
 .simp
 .grind
end
structure acI(c:WC)S D(m:jh Ty)(s:jd)cnt w(al:Nat)(T:Ty)(s1:jd)(ta:TypeId)(xa:Value)(iY:Nat)(w':World):Prop where
 F:Fr (λi=>i=c.cb) w w'
 c1:cnt<=al
 c2:al<=cnt+D
 we:WE w' c al
 m:m s (.ok (T,s1))
 u:∀n,s1.u n->s.u n\/(cnt<n/\n<=al)
 wh:∀n,Whole<|s1.k n
 n:iY≠c.cb
 k:KW w' (dB c) iY s1.k
 t:TW w' (dB c) S T (.iface ta xa)
structure af5{α:Type}(c:WC)D(m:jh α)(s:jd)cnt w(al:Nat)(z:qm)(vl vr:Value)(w':World):Prop where
 F:Fr (λi=>i=c.cb) w w'
 c1:cnt<=al
 c2:al<=cnt+D
 we:WE w' c al
 m:m s (.error z)
 f:sf w' (dB c) z vl vr
section
variable {c:WC} {cnt:Nat} {m:jh α} {g:α->jh Ty} {a:α}
def Pg{p:Prop}(h:p:=by
 split
 .obtain⟨q1,q2⟩:=h5;refine⟨λn q=>?_,q2⟩;obtain r|r:=q1 n q
  .grind
  .omega
 .exact h5):p:=h
def aY.and(h:aY c S D1 (g a) s1 al w1 e w')(hm:m s (.ok (a,s1)))(hf:Fr (λi=>i=c.cb) w w1)(hc:cnt<=al)(hu:∀n,s1.u n->s.u n\/(cnt<n/\n<=al))(hD:al+D1<=cnt+D):aY c S D (ja m g) s cnt w e w':=by
 obtain⟨F,aE,o,h1,h2,h3,h4,h5⟩:=h;refine⟨hf.trans F,aE,o,ae,ae,h3,qz ⟨a,s1,hm,h4⟩,?_⟩;unfold af2 at*;exact Pg
def Pf{p:Prop}(h:p:=by
 obtain⟨vl,vr,rfl,hF⟩:=h5
 exact q9 ⟨aE,z,vl,vr,rfl,F,h1,h2,h3,h4,hF⟩):p:=h
def aY.split{m}(h:aY c S D m s cnt w e w'):(∃al z vl vr,e=Ct z.f vl vr/\af5 c D m s cnt w al z vl vr w')\/(∃al T s1 ta xa iY,e=.returned (.tuple #[.iface ta xa,Mv iY])/\acI c S D m s cnt w al T s1 ta xa iY w'):=by
 obtain⟨F,aE,o,h1,h2,h3,h4,h5⟩:=h;obtain z|⟨T,s1⟩:=o
 .exact Pf
 .obtain⟨q1,q2,ta,xa,kb,rfl,q3,q4,q5⟩:=h5;exact qz ⟨aE,T,s1,ta,xa,kb,rfl,F,h1,h2,h3,h4,q1,q2,q3,q4,q5⟩
def af5.post(h:af5 c D1 m s cnt w0 al z vl vr w')(hf:Fr (λi=>i=c.cb) w w0)(hD:D1<=D):aY c S D (ja m g) s cnt w (Ct z.f vl vr) w':=⟨hf.trans h.F,al,.error z,h.c1,by have:=h.c2;omega,h.we,q9 ⟨z,h.m,rfl⟩,vl,vr,rfl,h.f⟩
def Pj(hw:WE w c cnt)(hk:WK w c cnt s kb)(ht:TW w (dB c) S T (.iface ta xa))(hb:Fr (λi=>i=c.cb) w0 w):aY c S D (jk T) s cnt w0 (.returned<|.tuple #[.iface ta xa,Mv kb]) w:=⟨hb,cnt,.ok (T,s),br _,ae,hw,rfl,λn q=>q9 q,hk.wh,ta,xa,kb,rfl,hk.n,hk.k,ht⟩
def Xs.post{x:Ty}(h:Xs c s x y f t w0 e w')(hw:WE w0 c cnt)(hf:Fr (λi=>i=c.cb) w w0){g}:∃fl vl vr,e=Ct fl vl vr/\aY c S D (ja (jp x y f t) g) s cnt w e w':=by
 obtain⟨fl,vl,vr,rfl,k6,z,rfl,he,hF⟩:=h;exact⟨z.f,vl,vr,rfl,hf.trans<|Fr.of k6,cnt,.error z,br _,ae,hw.af k6,q9 ⟨z,he,rfl⟩,vl,vr,rfl,hF⟩
def Bw.up{x:Ty}(h:Bw c cnt s Λ x y f t w0 e w')(hb:Bq w w0):Bw c cnt s Λ x y f t w e w':=by
 obtain⟨b,h1,h2,h3⟩:=h;exact⟨b,h1,hb.trans<|h2.mono hb.size,h3⟩
def D8.and{w2}{cN kb2}{s2}(h:D8 w w1 c al s s1 Λ iY)(k:D8 w1 w2 c cN s1 s2 Λ kb2):D8 w w2 c cN s s2 Λ kb2:=⟨k.k,k.n,h.p.trans k.p⟩
def acI.step{mk}{x}{T}{ta}{xa}(q:acI c S D (jf mk x Γ) s cnt w0 al T s1 ta xa iY w1)(hk:WK w c cnt s kb)(hn:∀n,¬s.u n->Λ n)(hg:WG w c s Λ Γ gb):D8 w w1 c al s s1 Λ iY/\jj Λ s1 T:=Xr hk hn hg q.m q.u q.c1 q.wh q.n q.k
def Cl c S D(p:jh Ty)(s:jd)cnt w D1(p1:jh Ty)(s1:jd)al w1:=∀e w',aY c S D1 p1 s1 al w1 e w'->aY c S D p s cnt w e w'
def Cl.refl c S D(p:jh Ty)(s:jd)cnt w:Cl c S D p s cnt w D p s cnt w:=λ_ _ h=>h
def Cl.and{p}{w2}{cN}{s2}(h:Cl c S D p s cnt w D1 (ja m g) s1 al w1)(hm:m s1 (.ok (a,s2)))(hf:Fr (λi=>i=c.cb) w1 w2)(hc:al<=cN)(hu:∀n,s2.u n->s1.u n\/(al<n/\n<=cN)){D2}(hD:cN+D2<=al+D1):Cl c S D p s cnt w D2 (g a) s2 cN w2:=λe w' hh=>h e w'<|hh.and hm hf hc hu hD
def vQ(hu:nY k)w c S(h:1<=S):TW w (dB c) S (.aK k []) (.iface 169<|.agg #[.string k,.slice none 0 0]):=by
 have q:=de.aK (w:=w) (P:=dB c) k [] none 0 (λ_=>Zv) (q9<|qz<|qz hu) (q9 rfl)<|λi h=>vR;rw[eS hu]at q;exact TW.of q ⟨λe=>by obtain⟨a,r,h1,h2⟩:=hu;rw[e,show si.toList=[116,111,111,32,108,97,114,103,101]from toList_mk _]at h1;injection h1 with h1 _;subst h1;revert h2;decide,trivial⟩ (by simpa[size,ah]using h)
def uv k:jj Λ s (.aK k []):=⟨λn q=>by simp[aA,bY]at q,λn q=>by simp[sub,aT,aA,bY]at q⟩
end
section
variable {c:WC} {cnt:Nat}
def Pk(mk:jm)s n x y z f t a(Γ:jc):jf mk (.mk 12 s n [x,y,z] f t a) Γ=ja (jf mk x Γ) λa=>ja (jp a In.oC (j5 x)<|j9 x) λ_=>ja (jf mk y Γ) λb=>ja (jf mk z Γ) λc=>ja (jp b c (j5 z)<|j9 z) λ_=>jk b:=by simp[jf,jx,qf,j7,qw]
end
def Xw(w:World)R u v b(h:b≠R):((w.setCell ⟨R,0,none⟩ u).setCell ⟨R,1,none⟩ v).heap[b]? =w.heap[b]? :=(zy _ _ _ _ h).trans<|zy _ _ _ _ h
def TA(w:World)R u v:((w.setCell ⟨R,0,none⟩ u).setCell ⟨R,1,none⟩ v).heap.size=w.heap.size:=by simp_all
section
variable {c:WC} {cnt:Nat}
def Xx(hk:WK w c cnt s kb)(ht:∀n,aA n T->s.u n):(vars []<|sub s.k T).length<=cnt:=by
 refine Mp (dG _ xg) λm hm=>?_;have q:=(bE (sub s.k T) [] m).1 hm;simp only[List.not_mem_nil,false_or]at q;have⟨n,q1,q2⟩:=(l9 T).1 q;exact hk.u m<|hk.ok.use n m (ht n q1) q2
def acJ(hk:WK w c cnt s kb)(hg:WG w c s Λ Γ gb){x}(h:Γ x=some d):d.any.length<=cnt:=
 Mp (hg.nd x d h) λn hn=>hk.u n<|(hg.i x d h).use n<|(hg.i x d h).sub n hn
noncomputable def lT (rc:Bool) (st:BA) (Γ:jc):jc:=if rc then qg Γ st else Γ
def Ib{z}(h:lT rc st Γ z=some d):Γ z=some d:=by
 cases rc
 .simpa[lT]using h
 .simp[lT,qg]at h;exact h.2
def Mr(mk:jm)rc s n x z f t a(Γ:jc):jf mk (.mk (if rc then 11 else 10) s n [x,z] f t a) Γ=ja (qe rc s x (jf mk x) Γ) λt=>λs1=>jf mk z (ji Γ s<|jq (lT rc s Γ) s1.k t<|qx x) s1:=by
 cases rc<;>simp[jf,jx,qf,j7,qw,In.li,lT]
def SoP c(d:j6)w(e:Ending)w':=∃u,e=.returned u/\nW w' (dB c) d u/\Bq w w'
abbrev PSo c(w:World)x:=(dB c x/\x<w.heap.size)\/w.heap.size+2<=x
def yH(hl:d.any=l){w4}(hz:c.cb<w.heap.size)(h4:Bq w w4)(ht:TW w4 (PSo c w) 900000 d.of (.iface ta xa))(hv:rq w4 (PSo c w) sa l):SoP c d w (.returned<|.agg #[.iface ta xa,.slice sa l.length sc]) ((w4.setCell ⟨w.heap.size+1,0,none⟩<|.iface ta xa).setCell ⟨w.heap.size+1,1,none⟩<|.slice sa l.length sc):=by
 subst hl;have hs:=TA w4 (w.heap.size+1) (.iface ta xa)<|.slice sa d.any.length sc;have hb:∀b,PSo c w b->b<w4.heap.size->((w4.setCell ⟨w.heap.size+1,0,none⟩<|.iface ta xa).setCell ⟨w.heap.size+1,1,none⟩<|.slice sa d.any.length sc).heap[b]? =w4.heap[b]? :=λb p _=>Xw _ _ _ _ _ (by obtain p|p:=p<;>omega);have hq:∀b,PSo c w b->b<w4.heap.size->dB c b:=λb p _=>by obtain p|p:=p;exact p.1;show b≠c.cb;omega
 exact⟨_,rfl,⟨ta,xa,sa,sc,rfl,ht.move ae hb hq,hv.move ae hb hq⟩,(h4.setCell ag _).setCell ag _⟩
def Ms{y}(hw:WE w c cnt)(hk:WK w c cnt s kb)(hg:WG w c s Λ Γ gb)(hp:PE w Q x vx)(hS:S<=900000)(ht:TW w (dB c) S T v)(TB:jj Λ s T)(hc:cnt<=850000)(hl:c.nl.length<=1000000):
 Cq 352 #[Mv kb,Mv gb,.agg #[.bool rc,Nv a,Nv y,.string st,vx],v] w (SoP c (jq (lT rc st Γ) s.k T<|qx x) w):=by
 have hf:=hk.D6 ae<|qz trivial;have WH:=cr _ ht.wh λn _=>hf.wh n;have fW:=ku;have Mt:size (bK<|sub s.k T)<=900000:=by have:=fq WH (xy (Xx hk TB.use) hc) ae;omega
 have zc:=hw.dx;have k0:Bq w ((w.alloc<|Cv #[.bool rc,Nv a,Nv y,Sv st,vx] 142).alloc<|Cv #[Zv,Lv none 0 0] 467):=(bw _).alloc ag _;have B1:=(Bx.new w #[.bool rc,Nv a,Nv y,Sv st,vx] 142).below<|bw<|Cv #[Zv,Lv none 0 0] 467;have R1:Hid (Bx ((w.alloc<|Cv #[.bool rc,Nv a,Nv y,Sv st,vx] 142).alloc<|Cv #[Zv,Lv none 0 0] 467) (w.heap.size+1) #[Zv,Lv none 0 0]):=by
  have:=Bx.new (w.alloc<|Cv #[.bool rc,Nv a,Nv y,Sv st,vx] 142) #[Zv,Lv none 0 0] 467;rw[aX]at this;exact ai this
 have kl:KW w (λi=>dB c i/\i<w.heap.size) kb s.k:=hk.k.move (br _) rfl (λ_ _ _=>rfl) (λi p z=>⟨p,z⟩);have GL:=hg.e.low;have HO:=uo (kl.af k0) ⟨hk.n,hk.k.lt⟩ hf hS<|ht.af k0;have HL:∀(W:World)(b:Nat)(tu:TypeId)(xu:Value)(Qu:Nat->Prop),Bq w W->bU W (PSo c w) b (lT rc st Γ)->de W Qu (bK<|sub s.k T) (Fv tu xu)->Cq 359 #[Mv b,Mv kb,Fv tu xu] W (pP (λi=>W.heap.size<=i) (jt (lT rc st Γ) s.k<|sub s.k T) W):=λW b tu xu Qu hb he hu=>
  acF he ((kl.af hb).wide λi p=>q9 p) (q9 ⟨hk.n,hk.k.lt⟩) hf (NL:=c.nl) (λz q=>hg.dm z λe=>by cases hh:lT rc st Γ z with|none=>exact q hh|some d=>rw[Ib hh]at e;cases e) hl (λz d q=>by
   have:=acJ hk hg<|Ib q
   omega) hu ae
 have HWo:∀W:World,Bq w W->Cq 358 #[Mv gb,Sv st] W (pO (λi=>dB c i/\i<w.heap.size) (In.lH Γ st) W):=λW hb=>Tv (GL.af hb) st;have K0:=ai k0;obtain⟨tx,ax,rfl⟩:=hp.iface;obtain⟨tv,xv,rfl⟩:=ht.iface;go_enter func352,ntmps352;go_wp2_with fail;refine HO.mono ?_;rintro e w1⟨u,rfl,hu,k1⟩;have z0:=(uh K0).size;obtain⟨tu,xu,rfl⟩:=hu.iface;have LW:de w1 (PSo c w) (bK<|sub s.k T) (Fv tu xu):=hu.wide λi p=>by obtain p|p:=p;exact Or.inl p;simp only[aX]at p;exact Or.inr ae
 have K1:=K0.trans<|k1.mono K0.size;have B2:=ai<|B1.below k1;have R2:=R1.below k1;have T1:TW w1 (PSo c w) 900000 (sub s.k T) (Fv tu xu):=⟨⟨_,LW,(dD.refl _).cut WH,Mt⟩,WH⟩;have U1:=ai LW;have HI:=pT x w1 Q _<|hp.af K1;have⟨b1,b2,b3⟩:=uh B2;go_wp2_with fail;refine HI.mono ?_;rintro e w2⟨rfl,k2⟩;have K2:=K1.trans<|k2.mono K1.size;have B3:=ai<|B2.below k2;have R3:=ai<|R2.below k2;have T2:=T1.af k2;have U2:=U1.af k2;have⟨b1,b2,b3⟩:=uh B3;have⟨r1,r2,r3⟩:=uh R3
 cases hv:qx x with
 |false=>
  go_wp2_with fail;refine bodyPost_ret (v:=Av #[Fv tu xu,Lv none 0 0]) (by simp[results,xt,go_sem,r1]) rfl ?_;rw[hv];exact yH (d:=jq (lT rc st Γ) s.k T false) (l:=[]) (by simp[jq]) (sa:=none) (sc:=0) zc K2 T2<|q9 rfl
 |true=>
  cases rc with
  |false=>
   have HLo:=HL w2 gb tu xu _ K2 (by
    have e:lT false st Γ=Γ:=by simp[lT]
    rw[e];exact(GL.af K2).wide λi p=>q9 p) U2
   go_wp2_with fail;refine HLo.mono ?_;rintro e w4⟨sa,sc,rfl,hv4,k4⟩;have K4:=K2.trans<|k4.mono K2.size;have T4:=T2.af k4;have V4:Hid (rq w4 (PSo c w) sa<|jt (lT false st Γ) s.k<|sub s.k T):=ai (hv4.move (br _) (λ_ _ _=>rfl)<|λi p _=>qz (by have:=r3;omega));have⟨q1,q2,q3⟩:=(uh R3).below k4;go_wp2_with fail;refine bodyPost_ret (v:=Av #[Fv tu xu,Lv sa (jt (lT false st Γ) s.k<|sub s.k T).length sc]) (by simp[results,xt,go_sem,q1]) rfl ?_;rw[hv];exact yH (d:=jq (lT false st Γ) s.k T true) (by simp[jq]) (sc:=sc) zc K4 T4<|uh V4
  |true=>
   have HWi:=HWo w2 K2;go_wp2_with fail;refine HWi.mono ?_;rintro e w3⟨bn,rfl,zn,hn,k3⟩;have K3:=K2.trans<|k3.mono K2.size
   have HLo:=HL w3 bn tu xu _ K3 (by
    have e:lT true st Γ=qg Γ st:=by simp[lT]
    rw[e];exact hn.wide λi p=>q9 p) (U2.af k3)
   have T3:=T2.af k3;have R4:=R3.below k3;have z3:=k3.size;go_wp2_with fail;refine HLo.mono ?_;rintro e w4⟨sa,sc,rfl,hv4,k4⟩;have K4:=K3.trans<|k4.mono K3.size;have T4:=T3.af k4;have V4:Hid (rq w4 (PSo c w) sa<|jt (lT true st Γ) s.k<|sub s.k T):=ai (hv4.move (br _) (λ_ _ _=>rfl)<|λi p _=>qz (by have:=r3;omega));have⟨q1,q2,q3⟩:=R4.below k4;go_wp2_with fail;refine bodyPost_ret (v:=Av #[Fv tu xu,Lv sa (jt (lT true st Γ) s.k<|sub s.k T).length sc]) (by simp[results,xt,go_sem,q1]) rfl ?_;rw[hv];exact yH (d:=jq (lT true st Γ) s.k T true) (by simp[jq]) (sc:=sc) zc K4 T4<|uh V4
def ScE.af6{nl}{K}{z}(h:ScE mk nl dom (.mk K st n [x,z] f t a))(hK:K=10\/K=11):st∈nl/\ScE mk nl (λv=>dom v\/(K=11/\v=st)) x/\ScE mk nl (λv=>dom v\/v=st) z:=by
 generalize Bk:Nd.mk K st n [x,z] f t a=nd at h
 cases h
 case lt c s n x z f t a hs hc hx hz=>
  injection Bk with e1 e2 e3 e4;injection e4 with e4 e5;injection e5 with e5;subst e1 e2 e4 e5;exact⟨hs,hx,hz⟩
 all_goals
  exfalso;injection Bk with e1;omega
end
section
variable {c:WC} {cnt:Nat} {p:jh Ty}
def aY.below(h:aY c S D p s cnt w0 e w')(hb:Bq w w0):aY c S D p s cnt w e w':=⟨(Fr.of hb).trans h.1,h.2⟩
def Dsp w c cnt(s:jd)kb gb S D(p:jh Ty)fn T xs:=
 (∀W:World,Bq w W->Cq fn #[Pv c.eb,Mv kb,Mv gb,.agg xs] W (aY c S D p s cnt W))->
  Cq 323 #[Pv c.eb,Mv kb,Mv gb,.iface T<|.agg xs] w (aY c S D p s cnt w)
def Ic:
 (∀{tx ty ax ay},Dsp w c cnt s kb gb S D p 336 309 #[Nv f,Nv t,.iface tx ax,.iface ty ay])/\
 (∀{tx ty ax ay},Dsp w c cnt s kb gb S D p 337 311 #[Nv f,Nv t,.iface tx ax,.iface ty ay])/\
 (∀{tx ty ax ay},Dsp w c cnt s kb gb S D p 343 319 #[Nv f,Nv t,.iface tx ax,.iface ty ay])/\
 (∀{a y:Nat}{st tx ax},Dsp w c cnt s kb gb S D p 338 313 #[Nv f,Nv t,Nv a,Nv y,.string st,.iface tx ax])/\
 (∀{a y:Nat}{rc st tx tz ax az},Dsp w c cnt s kb gb S D p 339 315 #[Nv f,Nv t,.bool rc,Nv a,Nv y,.string st,.iface tx ax,.iface tz az])/\
 (∀{tx ty tz ax ay az},Dsp w c cnt s kb gb S D p 340 317 #[Nv f,Nv t,.iface tx ax,.iface ty ay,.iface tz az])/\
 (∀{n sc sa tx ax},Dsp w c cnt s kb gb S D p 341 201 #[Nv f,Nv t,.iface tx ax,.slice sa n sc])/\
 (∀{st tx ty ax ay},Dsp w c cnt s kb gb S D p 342 297 #[Nv f,Nv t,.string st,.iface tx ax,.iface ty ay]):=by
 refine⟨?_,?_,?_,?_,?_,?_,?_,?_⟩;all_goals
  intros;intro H;go_enter func323,ntmps323;go_wp2_with fail;refine(H _<|bw _).mono ?_;intro e w1 hp;have HP:=ai<|hp.below<|bw _;obtain⟨al,zz,vl,vr,rfl,q⟩|⟨al,T1,s1,yI,yJ,iY,rfl,q⟩:=hp.split
  .go_wp2
   exact⟨rfl,HP⟩
  .go_wp2
   go_ret2;exact HP
def Xy(hw:WE w c cnt)(hk:WK w c cnt s kb)(hS:1<=S):
 (∀n:Nat,Cq 323 #[Pv c.eb,Mv kb,Mv gb,.iface 326<|.agg #[Nv f,Nv t,Nv n]] w<|aY c S D (jk<|.aK ry []) s cnt w)/\
 (∀n:Bool,Cq 323 #[Pv c.eb,Mv kb,Mv gb,.iface 321<|.agg #[Nv f,Nv t,.bool n]] w<|aY c S D (jk<|.aK kv []) s cnt w)/\
 Cq 323 #[Pv c.eb,Mv kb,Mv gb,.iface 324<|.agg #[Nv f,Nv t]] w (aY c S D (jk<|.aK iZ []) s cnt w):=by
 have HW:=ai hw;have HK:=ai hk;clear hw hk;refine⟨λn=>?_,λn=>?_,?_⟩;all_goals
  go_enter func323,ntmps323;go_wp2_with fail;first|refine sA.mono ?_|refine oD.mono ?_|refine yK.mono ?_
  rintro e w1⟨rfl,rfl⟩
  go_wp2
  go_ret2;have k0:=(zx w.heap.size w).alloc<|br _;first|exact Pj (HW.af<|k0 _) (HK.af<|k0 _) (vQ mW _ c _ hS) (Fr.of<|k0 _)|exact Pj (HW.af<|k0 _) (HK.af<|k0 _) (vQ lq _ c _ hS) (Fr.of<|k0 _)|exact Pj (HW.af<|k0 _) (HK.af<|k0 _) (vQ sB _ c _ hS)<|Fr.of<|k0 _
end
abbrev qK(c:WC)gv i:=i≠c.cb/\i≠gv
structure Cw w c gv cnt(s:jd)kb:Prop where
 k:KW w (qK c gv) kb s.k
 n:qK c gv kb
 u:∀n,s.u n->us cnt n
 ok:In.Ok s
 wh:∀n,Whole<|s.k n
section
variable {c:WC} {cnt:Nat}
def Cw.wk(h:Cw w c gv cnt s kb):WK w c cnt s kb:=⟨h.k.wide λ_ p=>p.1,h.n.1,h.u,h.ok,h.wh⟩
def Cw.of(h:WK w c cnt s kb)(hg:w.heap.size<=gv):Cw w c gv cnt s kb:=⟨h.k.move (br _) rfl (λ_ _ _=>rfl) (λi p z=>⟨p,ae⟩),⟨h.n,by have:=h.k.lt;omega⟩,h.u,h.ok,h.wh⟩
def Cw.fr(h:Cw w c gv cnt s kb)(hf:Fr (λi=>i=c.cb\/i=gv) w w'):Cw w' c gv cnt s kb:=⟨h.k.fr hf (λq=>q.elim h.n.1 h.n.2)<|λi p _ q=>q.elim p.1 p.2,h.n,h.u,h.ok,h.wh⟩
def Cw.af(h:Cw w c gv cnt s kb)(hb:Bq w w'):Cw w' c gv cnt s kb:=h.fr<|Fr.of hb
def aiL c gv cnt(s:jd)Λ x y f t w(e:Ending)w':=∃b,e=.returned (Mv b)/\Bq w w'/\∃s',jp x y f t s (.ok ((),s'))/\ql Λ s s'/\Cw w' c gv cnt s' b/\s'.u=s.u
def aiM(h:WE w c cnt)(hg:gv<w.heap.size)(hk:Cw w c gv cnt s kb)(hn:∀n,¬s.u n->Λ n)(hc:cnt<=1000000)(hS:S<=900000){x}(hx:TW w (qK c gv) S x v)(hy:TW w (qK c gv) S y u)(tx:jj Λ s x)(ty:jj Λ s y)f t:
 Cq 324 #[Mv kb,v,u,.agg #[Nv f,Nv t]] w (λe w'=>Xs c s x y f t w e w'\/aiL c gv cnt s Λ x y f t w e w'):=by
 have zc:=h.dx;refine(H9 hk.k hk.n (hk.wk.D6 hc<|qz trivial) hS hx hy f t s.u).mono ?_;rintro e w1⟨k1,o,ho,hm⟩
 cases o with
 |ok q=>
  obtain⟨b,rfl,hb,hK,hW⟩:=hm;have⟨g1,_⟩:=In.fk (s:=s) hk.ok hn tx ty f t q.1 q.2 ho;have hu:q.2.u=s.u:=by
   exact D9
  exact qz ⟨b,rfl,k1,q.2,ho,g1,⟨hK.wide λi p=>by obtain p|p:=p;exact p;exact⟨ae,ae⟩,⟨ae,ae⟩,λn q=>hk.u n<|hu▸q,g1.ok,hW⟩,hu⟩
 |error z=>
  obtain⟨vl,vr,rfl,hF⟩:=hm;refine q9 ⟨z.f,vl,vr,rfl,k1,z,rfl,ho,hF.pN,λq=>?_,hF.k⟩;have wd:∀i,(qK c gv i\/w.heap.size<=i)->dB c i:=λi p=>by obtain p|p:=p;exact p.1;show i≠c.cb;omega
  exact⟨(hF.apart q).1.wide wd,(hF.apart q).2.wide wd⟩
end
def aiN(c:WC)(gv S:Nat)(s:jd)(cnt:Nat)(w':World)(aE:Nat)(e:Ending)(o:Except qm ((Ty×jc)×jd)):Prop:=match o with
 |.ok ((T,g'),s')=>(∀n,s'.u n->s.u n\/(cnt<n/\n<=aE))/\(∀n,Whole<|s'.k n)/\∃ta xa kb,e=.returned (.tuple #[.iface ta xa,Mv kb])/\qK c gv kb/\KW w' (qK c gv) kb s'.k/\TW w' (qK c gv) S T (.iface ta xa)/\bU w' (qK c gv) gv g'|.error z=>∃vl vr,e=Ct z.f vl vr/\sf w' (dB c) z vl vr
def eu c gv S D(p:jh (Ty×jc))(s:jd)cnt w e w':=Fr (λi=>i=c.cb\/i=gv) w w'/\∃aE o,cnt<=aE/\aE<=cnt+D/\WE w' c aE/\p s o/\aiN c gv S s cnt w' aE e o
structure PaA nd c w cnt(s:jd)kb(Λ:Nat->Prop)g gv Q v:Prop where
 we:WE w c cnt
 wk:Cw w c gv cnt s kb
 hn:∀n,¬s.u n->Λ n
 e:bU w (qK c gv) gv g
 i:j8 Λ s g
 l:c.fX<=gv
 pp:PP w Q nd v
 hq:∀b,Q b->b≠c.cb/\b≠gv
 sc:sg c.mks c.nl nd
 ft:Fit c cnt (nn nd)
 mf:MkFine c.mks
def Xz nd:=∀(c:WC)(w:World)(cnt:Nat)(s:jd)(kb:Nat)(Λ:Nat->Prop)(g:jc)(gv:Nat)(Q:Nat->Prop)(v:Value),PaA nd c w cnt s kb Λ g gv Q v->
 Cq 353 #[Pv c.eb,Mv kb,Mv gv,v] w (eu c gv (1100*nn nd) (1000*nn nd) (jl c.mks nd g) s cnt w)
section
variable {c:WC} {cnt:Nat}
def aeX(hw:WE w c cnt)(hk:Cw w c gv cnt s kb)(ht:TW w (qK c gv) S T (.iface ta xa))(he:bU w (qK c gv) gv g)(hb:Fr (λi=>i=c.cb\/i=gv) w0 w):eu c gv S D (jk (T,g)) s cnt w0 (.returned<|.tuple #[.iface ta xa,Mv kb]) w:=⟨hb,cnt,.ok ((T,g),s),br _,ae,hw,rfl,λn q=>q9 q,hk.wh,ta,xa,kb,rfl,hk.n,hk.k,ht,he⟩
def aiO(hu:nY k)w c gv S(h:1<=S):TW w (qK c gv) S (.aK k []) (.iface 169<|.agg #[.string k,.slice none 0 0]):=TW.of (Ie w _ hu) ⟨λe=>by obtain⟨a,r,h1,h2⟩:=hu;rw[e,show si.toList=[116,111,111,32,108,97,114,103,101]from toList_mk _]at h1;injection h1 with h1 _;subst h1;revert h2;decide,trivial⟩ (by simpa[size,ah]using h)
def Ea w c gv n S(h:1<=S):TW w (qK c gv) S (.var<|n+1) (.iface 98<|Iv<|(n:Int)+1):=TW.of (x:=.var<|n+1) (by have:=de.var (w:=w) (P:=qK c gv)<|n+1;simpa using this) trivial (by simpa[size]using h)
end
def Eb{k}{cn}(hq:k=3/\cn=ry\/k=4/\cn=kv\/k=5/\cn=iZ)st n f t a:Xz (.mk k st n [] f t a):=by
 intro c w cnt s kb Λ g gv Q v h;have hu:nY cn:=by obtain⟨-,rfl⟩|⟨-,rfl⟩|⟨-,rfl⟩:=hq;exact mW;exact lq;exact sB
 have en:nn (.mk k st n [] f t a)=1:=qBi;have ep:jl c.mks (.mk k st n [] f t a) g=jk (.aK cn [],g):=by obtain⟨rfl,rfl⟩|⟨rfl,rfl⟩|⟨rfl,rfl⟩:=hq<;>simp[jl,qn]
 rw[en,ep];have hp:=h.pp;obtain⟨T,xs,rfl,hv⟩:∃T xs,v=Fv T (Av xs)/\(T=326/\cn=ry/\(∃n:Nat,xs=#[Nv f,Nv t,Nv n])\/T=321/\cn=kv/\(∃n:Bool,xs=#[Nv f,Nv t,.bool n])\/T=324/\cn=iZ/\xs=#[Nv f,Nv t]):=by
  obtain⟨rfl,rfl⟩|⟨rfl,rfl⟩|⟨rfl,rfl⟩:=hq
  .cases hp;exact⟨_,_,rfl,q9 ⟨rfl,rfl,_,rfl⟩⟩
  .cases hp;exact⟨_,_,rfl,qz<|q9 ⟨rfl,rfl,_,rfl⟩⟩
  .cases hp;exact⟨_,_,rfl,qz<|qz ⟨rfl,rfl,rfl⟩⟩
 have k0:=(zx w.heap.size w).alloc (br _)<|Cv xs T;have HW:=h.we.af k0;have HK:=h.wk.af k0;have HE:=h.e.af k0;have K0:=ai k0;clear hq hp ep;obtain⟨rfl,rfl,n,rfl⟩|⟨rfl,rfl,n,rfl⟩|⟨rfl,rfl,rfl⟩:=hv;all_goals
  go_enter func353,ntmps353;go_wp2_with fail;first|refine sA.mono ?_|refine oD.mono ?_|refine yK.mono ?_
  rintro e w1⟨rfl,rfl⟩
  go_wp2
  go_ret2;exact aeX HW HK (aiO hu _ c gv _ ae) HE<|Fr.of K0
def af7 st n f t a:Xz (.mk 15 st n [] f t a):=by
 intro c w cnt s kb Λ g gv Q v h;have en:nn (.mk 15 st n [] f t a)=1:=qBi;have ep:jl c.mks (.mk 15 st n [] f t a) g=ja jz λv=>jk (.var v,g):=by simp[jl,qn]
 rw[en,ep];obtain⟨-,rfl⟩:∃_:Unit,v=Fv 337 (Av #[Nv f,Nv t]):=by cases h.pp;exact⟨(),rfl⟩
 have k0:Bq w (w.alloc<|Cv #[Nv f,Nv t] 337):=bw _;have zc:=h.we.dx;have WI:=h.ft.a;rw[en]at WI;have W0:=ai<|h.we.af k0;have⟨e1,e2,e3⟩:=h.we.bx;have HF:=oB cnt ae (h.we.af k0).ct;have HA:=ai h;have K0:=ai k0;have lg:=h.e.lt;have ll:=h.l;have lc:=h.we.l;clear h k0;go_enter func353,ntmps353;go_wp2_with fail;refine HF.mono ?_;rintro e w3⟨rfl,XC⟩;have⟨uw,F3⟩:=W0.fresh;rw[<-XC]at uw F3;clear XC HF e1 e2 e3;have h:=uh HA;have LX:=(Fr.of (S:=λi=>i=c.cb) K0).trans F3;have⟨Bz,pU,ty3⟩:=yG h.wk.wk h.hn LX;have FG:=LX.fX (T:=λi=>i=c.cb\/i=gv) λ_ q=>Or.inl q;have HW3:=ai uw;have FF:=ai FG;have HNW:=ai Bz;have af8:=ai LX;clear h F3 LX FG Bz pU ty3 uw
 go_wp2
 go_ret2;have h:=uh HA;have k3:=h.wk.fr FF;exact⟨FF,cnt+1,.ok ((.var<|cnt+1,g),⟨s.k,λn=>s.u n\/n=cnt+1⟩),ae,ae,HW3,qz ⟨cnt+1,_,HNW,rfl⟩,λn q=>q.imp id λq=>ae,h.wk.wh,_,_,kb,rfl,k3.n,k3.k,Ea _ c gv cnt _ ae,h.e.move FF.size (af8.block _ h.e.lt ae) (λb p z=>FF.block b z<|λq=>q.elim p.1 p.2)<|λ_ p _=>p⟩
def af9 st n f t a:Xz (.mk 1 st n [] f t a):=by
 intro c w cnt s kb Λ g gv Q v h;have en:nn (.mk 1 st n [] f t a)=1:=qBi;have ep:jl c.mks (.mk 1 st n [] f t a) g=ja jz λv=>jk (.var v,ji g st<|qp<|.var v):=by simp[jl,qn]
 have fW:=ku;rw[en,ep];obtain⟨-,rfl⟩:∃_:Unit,v=Fv 356 (Av #[Nv f,Nv t,Sv st]):=by cases h.pp;exact⟨(),rfl⟩
 have⟨k0,B0⟩:=sd w #[Nv f,Nv t,Sv st] 356;have zc:=h.we.dx;have WI:=h.ft.a;rw[en]at WI;have W0:=h.we.af k0;have⟨e1,e2,e3⟩:=h.we.bx;have HF:=oB cnt ae (h.we.af k0).ct;have HA:=ai h;have K0:=ai k0;have lg:=h.e.lt;have ll:=h.l;have lc:=h.we.l;clear h k0;go_enter func353,ntmps353;go_wp2_with fail;refine HF.mono ?_;rintro e w3⟨rfl,XC⟩;have⟨HW3,F3⟩:=W0.fresh;rw[<-XC]at HW3 F3;clear XC HF e1 e2 e3;have h:=uh HA;have LX:=(Fr.of (S:=λi=>i=c.cb) K0).trans F3;have⟨HNW,pU,ty3⟩:=yG h.wk.wk h.hn LX;have FF:=LX.fX (T:=λi=>i=c.cb\/i=gv) λ_ q=>Or.inl q;have E3:=h.e.move (Q:=qK c gv) LX.size (LX.block _ h.e.lt ae) (λb p z=>LX.block b z p.1)<|λ_ p _=>p;have C3:nW w3 (qK c gv) (In.mono<|.var<|cnt+1) (Av #[Fv 98<|Iv<|(cnt:Int)+1,Lv none 0 0]):=⟨_,_,none,0,rfl,Ea w3 c gv cnt _ ae,Or.inl rfl⟩;have⟨b1,b2,b3⟩:=B0.fr F3 ae;clear h F3 LX pU ty3 B0;go_wp2_with(refine oq rfl _ _ _ (Or.inr rfl) rfl E3 (λq=>q.2 rfl) C3 st rfl rfl ?_;intro w4 H' O';have S4:=ai H';have O4:=ai O';clear H' O');go_ret2;have h:=uh HA;have o:=uh O4;have F4:Fr (λi=>i=c.cb\/i=gv) w3 w4:=⟨o.os,o.tape,o.output,LS,λi _ hi=>o.block i λe=>hi<|Or.inr e⟩;have k3:=h.wk.fr<|FF.trans F4
 exact⟨FF.trans F4,cnt+1,.ok ((.var<|cnt+1,ji g st<|qp<|.var<|cnt+1),⟨s.k,λn=>s.u n\/n=cnt+1⟩),ae,ae,HW3.one o ae,qz ⟨cnt+1,_,HNW,rfl⟩,λn q=>q.imp id λq=>ae,h.wk.wh,_,_,kb,rfl,k3.n,k3.k,Ea _ c gv cnt _ ae,S4⟩
structure acK(c:WC)gv S D(m:jh (Ty×jc))(s:jd)cnt w(al:Nat)(T:Ty)(g1:jc)(s1:jd)(ta:TypeId)(xa:Value)(iY:Nat)(w':World):Prop where
 F:Fr (λi=>i=c.cb\/i=gv) w w'
 c1:cnt<=al
 c2:al<=cnt+D
 we:WE w' c al
 m:m s (.ok ((T,g1),s1))
 u:∀n,s1.u n->s.u n\/(cnt<n/\n<=al)
 wh:∀n,Whole<|s1.k n
 n:qK c gv iY
 k:KW w' (qK c gv) iY s1.k
 t:TW w' (qK c gv) S T (.iface ta xa)
 e:bU w' (qK c gv) gv g1
structure acL{α:Type}(c:WC)gv D(m:jh α)(s:jd)cnt w(al:Nat)(z:qm)(vl vr:Value)(w':World):Prop where
 F:Fr (λi=>i=c.cb\/i=gv) w w'
 c1:cnt<=al
 c2:al<=cnt+D
 we:WE w' c al
 m:m s (.error z)
 f:sf w' (dB c) z vl vr
section
variable {c:WC} {cnt:Nat} {m:jh α} {gg:α->jh (Ty×jc)} {a:α}
def eu.split{m}(h:eu c gv S D m s cnt w e w'):(∃al z vl vr,e=Ct z.f vl vr/\acL c gv D m s cnt w al z vl vr w')\/(∃al T g1 s1 ta xa iY,e=.returned (.tuple #[.iface ta xa,Mv iY])/\acK c gv S D m s cnt w al T g1 s1 ta xa iY w'):=by
 obtain⟨F,aE,o,h1,h2,h3,h4,h5⟩:=h;obtain z|⟨⟨T,g1⟩,s1⟩:=o
 .exact Pf
 .obtain⟨q1,q2,ta,xa,kb,rfl,q3,q4,q5,q6⟩:=h5;exact qz ⟨aE,T,g1,s1,ta,xa,kb,rfl,F,h1,h2,h3,h4,q1,q2,q3,q4,q5,q6⟩
def acL.post(h:acL c gv D1 m s cnt w0 al z vl vr w')(hf:Fr (λi=>i=c.cb\/i=gv) w w0)(hD:D1<=D):eu c gv S D (ja m gg) s cnt w (Ct z.f vl vr) w':=⟨hf.trans h.F,al,.error z,h.c1,by have:=h.c2;omega,h.we,q9 ⟨z,h.m,rfl⟩,vl,vr,rfl,h.f⟩
def eu.and(h:eu c gv S D1 (gg a) s1 al w1 e w')(hm:m s (.ok (a,s1)))(hf:Fr (λi=>i=c.cb\/i=gv) w w1)(hc:cnt<=al)(hu:∀n,s1.u n->s.u n\/(cnt<n/\n<=al))(hD:al+D1<=cnt+D):eu c gv S D (ja m gg) s cnt w e w':=by
 obtain⟨F,aE,o,h1,h2,h3,h4,h5⟩:=h;refine⟨hf.trans F,aE,o,ae,ae,h3,qz ⟨a,s1,hm,h4⟩,?_⟩;unfold aiN at*;exact Pg
def PCl c gv S D(p:jh (Ty×jc))(s:jd)cnt w D1(p1:jh (Ty×jc))(s1:jd)al w1:=∀e w',eu c gv S D1 p1 s1 al w1 e w'->eu c gv S D p s cnt w e w'
def PCl.refl c gv S D(p:jh (Ty×jc))(s:jd)cnt w:PCl c gv S D p s cnt w D p s cnt w:=λ_ _ h=>h
def PCl.and{p}{w2}{cN}{s2}(h:PCl c gv S D p s cnt w D1 (ja m gg) s1 al w1)(hm:m s1 (.ok (a,s2)))(hf:Fr (λi=>i=c.cb\/i=gv) w1 w2)(hc:al<=cN)(hu:∀n,s2.u n->s1.u n\/(al<n/\n<=cN)){D2}(hD:cN+D2<=al+D1):PCl c gv S D p s cnt w D2 (gg a) s2 cN w2:=λe w' hh=>h e w'<|hh.and hm hf hc hu hD
end
section
variable {c:WC} {cnt:Nat}
def PaA.part(h:PaA nd c w cnt s kb Λ g gv Q v)(hb:Bq w w1)(hp:PP w Q x u)(hs:sg c.mks c.nl x)(hx:nn x<=nn nd):PaA x c w1 cnt s kb Λ g gv Q u:=
 ⟨h.we.af hb,h.wk.af hb,h.hn,h.e.af hb,h.i,h.l,hp.af hb,h.hq,hs,h.ft.le ae hx,h.mf⟩
structure aiP w1 c gv al(s s1:jd)(Λ:Nat->Prop)iY(g1:jc)T:Prop where
 k:Cw w1 c gv al s1 iY
 n:∀n,¬s1.u n->Λ n
 p:ql Λ s s1
 i:j8 Λ s1 g1
 t:jj Λ s1 T
def acK.step{mk}{w0}{T}{ta}{xa}(q:acK c gv S D (jl mk x g) s cnt w0 al T g1 s1 ta xa iY w1)(hk:Cw w c gv cnt s kb)(hn:∀n,¬s.u n->Λ n)(hi:j8 Λ s g):aiP w1 c gv al s s1 Λ iY g1 T:=by
 have⟨g1',g2,g3⟩:=In.ux mk x g s Λ hk.ok hn hi _ s1 q.m;exact⟨⟨q.k,q.n,λn p=>by obtain r|r:=q.u n p;have:=hk.u n r;have:=q.c1;unfold us at*;omega;rw[us];omega,g1'.ok,q.wh⟩,g1'.new,g1',g3,g2⟩
end
section
variable {c:WC} {cnt:Nat}
def PaA.next(h:PaA nd c w cnt s kb Λ g gv Q v)(hf:Fr (λi=>i=c.cb\/i=gv) w w1)(hw:WE w1 c al)(st:aiP w1 c gv al s0 s1 Λ iY g1 T)(he:bU w1 (qK c gv) gv g1)(hp:PP w Q x u)(hs:sg c.mks c.nl x)(hz:al+1000*nn x<=cnt+1000*nn nd)(hx:nn x<=nn nd):PaA x c w1 al s1 iY Λ g1 gv Q u:=
 ⟨hw,st.k,st.n,he,st.i,h.l,hp.move hf.size (λb p z=>hf.block b z λq=>q.elim (h.hq b p).1 (h.hq b p).2)<|λ_ p _=>p,h.hq,hs,h.ft.le hz hx,h.mf⟩
def XD(mk:jm)s n x y f t a(g:jc):jl mk (.mk 6 s n [x,y] f t a) g=ja (jl mk x g) λa=>ja (jl mk y a.2) λb=>jk (qt a.1 b.1,b.2):=by simp[jl,qn,qu,j7]
end
def aiQ st n f t a{y}(Hx:Xz x)(Hy:Xz y):Xz (.mk 6 st n [x,y] f t a):=by
 intro c w cnt s kb Λ g gv Q v h;have en:nn (.mk 6 st n [x,y] f t a)=1+nn x+nn y:=yL;rw[XD];obtain⟨sx,sy⟩:sg c.mks c.nl x/\sg c.mks c.nl y:=by
  cases h.sc with
  |pr _ _ _ _ _ _ _ hx hy=>exact⟨hx,hy⟩
 obtain⟨vx,vy,rfl,hx,HY⟩:∃vx vy,v=Fv 328 (Av #[Nv f,Nv t,vx,vy])/\PP w Q x vx/\PP w Q y vy:=by cases h.pp with|pr _ _ _ _ _ _ _ vx vy hx hy=>exact⟨vx,vy,rfl,hx,hy⟩
 have⟨k0,B0⟩:=sd w #[Nv f,Nv t,vx,vy] 328;have H1:=Hx c _ cnt s kb Λ g gv Q vx<|h.part k0 hx sx Ec;have zc:=h.we.dx;have lg:=h.e.lt;have HA:=ai h;have C0:=PCl.refl c gv (1100*(1+nn x+nn y)) (1000*(1+nn x+nn y)) (In.andM (In.du c.mks x g) λa=>In.andM (In.du c.mks y a.2) λb=>In.cU (In.tPr a.1 b.1,b.2)) s cnt w;rw[en];have K0:=ai k0;obtain⟨tx,ax,rfl⟩:=hx.iface;obtain⟨ty,ay,rfl⟩:=HY.iface;go_enter func353,ntmps353;go_wp2_with fail;refine H1.mono ?_;intro e w1 hp;obtain⟨al,zz,vl,vr,rfl,q⟩|⟨al,T1,g1,s1,yI,yJ,iY,rfl,q⟩:=hp.split
 .have HP:=q.post (S:=1100*(1+nn x+nn y)) (D:=1000*(1+nn x+nn y)) (gg:=λa=>ja (jl c.mks y a.2) λb=>jk (qt a.1 b.1,b.2)) (Fr.of K0) ae
  go_wp2
  exact⟨rfl,HP⟩
 have h:=uh HA;have F01:=(Fr.of (S:=λi=>i=c.cb\/i=gv) K0).trans q.F;have c1:=q.c1;have c2:=q.c2;have ST1:=q.step h.wk h.hn h.i;have C1:=C0.and q.m F01 q.c1 q.u (D2:=1000*(1+nn y)) ae;have H2:=Hy c w1 al s1 iY Λ g1 gv Q _<|h.next F01 q.we ST1 q.e HY sy Ec Ec;have B1:=B0.fr q.F ae;obtain⟨b1,b2,b3⟩:=B1;have TD:=ai q.t;go_wp2_with fail;refine H2.mono ?_;intro e w2 hp;obtain⟨cN,zz,vl,vr,rfl,q⟩|⟨cN,T2,g2,s2,ta2,xa2,kb2,rfl,q⟩:=hp.split
 .have HP:=q.post (S:=1100*(1+nn x+nn y)) (D:=1000*(1+nn y)) (gg:=λb=>jk (qt T1 b.1,b.2)) (Fr.refl _ _) ae
  go_wp2
  exact⟨rfl,C1 _ _ HP⟩
 have c3:=q.c1;have c4:=q.c2;have C2:=C1.and q.m q.F q.c1 q.u (D2:=1000) ae;have gF:=q.step ST1.k ST1.n ST1.i;have T12:=TD.move q.F.size (λb p z=>q.F.block b z λr=>r.elim p.1 p.2)<|λ_ p _=>p;have T2':=ai q.t;have K2':=ai gF.k;have E2:=ai q.e;have W2':=ai q.we;have z2:=q.we.dx;have lg2:=q.e.lt;have HP:=Pl (w:=w2) yI ta2 yJ xa2;go_wp2_with fail;refine HP.mono ?_;rintro e w3⟨rfl,rfl⟩
 go_wp2
 go_ret2;have k3:Bq w2 (w2.alloc<|Cv #[Fv yI yJ,Fv ta2 xa2] 67):=bw _;obtain⟨⟨x1,y1,e1,z1⟩,wx⟩:=T12;have⟨⟨x2,y2,e2,z2'⟩,wy⟩:=uh T2';refine C2 _ _ (aeX (W2'.af k3) (K2'.af k3) ⟨⟨.aK nO [x1,x2],mV.ty (qz<|q9 rfl) y1 y2 ⟨ae,ae⟩,dD.af4 nO (by rw[nO,si];intro e;simp at e) e1 e2,?_⟩,?_⟩ (E2.af k3) (Fr.of k3))
 .simp only[size,ah];omega
 .exact⟨by rw[nO,si];intro e;simp at e,wx,wy,trivial⟩
section
variable {c:WC} {cnt:Nat}
def af_(h:WE w c cnt)(hk:WK w c cnt s kb)(hd:nW w (dB c) d v)(Bk:d.any.Nodup)(hct:cnt<=1000000)(hz:size (sub s.k d.of)<=48->cnt+d.any.length<=1000000)f t:
 Cq 333 #[Pv c.eb,Mv kb,v,.agg #[Nv f,Nv t]] w (Xq c d f t s cnt w):=by
 have hf:=hk.D6 ae<|qz trivial;obtain⟨ta,xa,sa,sc,rfl,t1,T2⟩:=hd;have GW:Whole (sub s.k d.of):=cr _ t1.wh λn _=>hf.wh n;have k0:Bq w ((w.alloc<|Cv #[Fv ta xa,Lv sa d.any.length sc] 467).alloc<|Cv #[Nv f,Nv t] 131):=(bw _).alloc ag _;have B1:=(Bx.new w #[Fv ta xa,Lv sa d.any.length sc] 467).below<|bw<|Cv #[Nv f,Nv t] 131;have B2:Hid (Bx ((w.alloc<|Cv #[Fv ta xa,Lv sa d.any.length sc] 467).alloc<|Cv #[Nv f,Nv t] 131) (w.heap.size+1) #[Nv f,Nv t]):=by
  have:=Bx.new (w.alloc<|Cv #[Fv ta xa,Lv sa d.any.length sc] 467) #[Nv f,Nv t] 131;rw[aX]at this;exact ai this
 have HO:=uo (hk.k.af k0) hk.n hf (br _)<|t1.af k0;have hcz:=t1.Xl hf<|br _;have zc:=h.dx;have K0:=ai k0;clear hk t1 k0;go_enter func333,ntmps333;go_wp2_with fail;refine HO.mono ?_;rintro e w1⟨u,rfl,hu,k1⟩;have HS:=pV _ w1 _ _ hu hcz;obtain⟨n1,LY⟩:∃n,n=sz (bK<|sub s.k d.of):=⟨_,rfl⟩;rw[<-LY]at HS;have E1:=Ed (sub s.k d.of) GW;rw[<-LY]at E1;obtain⟨tu,xu,rfl⟩:=hu.iface;have z0:=K0.size;simp only[aX]at z0;have KK1:=K0.trans<|k1.mono K0.size;have U1:=hu.wide (Q:=dB c) λi p=>by obtain p|p:=p;exact p;simp only[aX]at p;show i≠c.cb;omega
 have B3:=B1.below k1;have B4:=B2.below k1;clear hu k1 HO LY B1 B2;go_wp2_with fail;refine HS.mono ?_;rintro e w2⟨rfl,k2⟩;have XE:=KK1.trans<|k2.mono KK1.size;have⟨c3,f3,z3⟩:=B3.below k2;have⟨c4,f4,z4⟩:=B4.below k2;have U2:=U1.af k2;clear k2 HS U1 B3 B4;by_cases XG:48<n1
 .have hm:(48:Int)<(n1:Int):=ae;have HT:=mX (w:=w2) (f:Int) (t:Int);go_wp2_with fail;refine HT.mono ?_;rintro e w3⟨rfl,K3⟩;clear HT;go_wp2_with fail;have Xm:=XE.trans<|K3.mono XE.size;exact⟨rfl,Fr.of Xm,q9 ⟨E1.1.1 XG,h.af Xm,rfl⟩⟩
 .have hm:¬(48:Int)<(n1:Int):=ae;have hs:size (sub s.k d.of)<=48:=by have:=E1.1;omega
  have HA:=Xp (sc:=sc) (h.af XE) (T2.move XE.size (λi _ hi=>XE.block i hi)<|λ_ p _=>p) Bk<|hz hs;have Mt:=E1.2 hs;rw[Mt]at U2;go_wp2_with fail;refine HA.mono ?_;rintro e w3⟨b,rfl,hb,W3,hs3,F3⟩;have ev:=Pe cnt d.any;have hu3:=U2.fr F3<|λi p _=>p;have Ig:=Ih hs3 (show dB c b by have:=XE.size;show b≠c.cb;omega) hu3 ae (by rw[ev,iD];omega);rw[ev]at Ig;have hcut:bK (sub (jo<|qS cnt d.any)<|sub s.k d.of)=sub (jo<|qS cnt d.any) (sub s.k d.of):=yM (by rw[iD];exact hs)<|pQ _ _ GW;rw[hcut]at Ig;have HF3:=(Fr.of XE).trans F3;clear hs3 F3 HA ev hu3 hcut Mt;go_wp2_with fail;refine Ig.mono ?_;rintro e w4⟨u4,rfl,U4,k4⟩;obtain⟨tu4,xu4,rfl⟩:=U4.iface;have K4:=ai k4;clear k4 Ig
  go_wp2
  go_ret;have k4:=uh K4;have f3:=HF3;refine⟨f3.trans<|Fr.of k4,qz ⟨hs,W3.af k4,tu4,xu4,rfl,U4.wide λi p=>?_⟩⟩;obtain p|p:=p
  .exact p
  .show i≠c.cb;have:=f3.size;omega
end
section
variable {c:WC} {cnt:Nat}
def bU.look{P}{b}(h:bU w P b Γ){x}{d}(hx:Γ x=some d):∃v,nW w P d v/\(vf 216 (Mv b) (.string x) false).run xq w=.ok v w:=by
 obtain⟨L,h1,h2,h3⟩:=h;have hl:=h1.ms.look Pb ed (ku w) x trivial (λ_ _=>trivial) false
 cases hg:aZ x L with
 |none=>grind|some v=>
  rw[hg]at hl;have⟨d',e,hs⟩:=h3 x v hg;rw[hx]at e;injection e with e;subst e;exact⟨v,hs,by simpa using hl⟩
def XH(h:In.nQ Λ s d)(hn:d.any.Nodup):d.any.length<=size (sub s.k d.of):=by
 have h1:=D5 (V:=vars []<|sub s.k d.of) hn λv hv=>(bE (sub s.k d.of) [] v).2 (qz<|(l9 d.of).2 ⟨v,h.sub v hv,by rw[(h.fix v hv).1];simp[aA]⟩);rw[cD]at h1;have h2:=dh (occs<|sub s.k d.of) [];have h3:=di<|sub s.k d.of;simp only[uq]at h2;omega
def acM(mk:jm)x n f t a{Γ}(h:Γ x=some d):jf mk (.mk 1 x n [] f t a) Γ=λs o=>(48<size (sub s.k d.of)/\o=.error (qy f t))\/(size (sub s.k d.of)<=48/\∃ρ s',In.oE d.any qi s (.ok (ρ,s'))/\o=.ok (sub (jo ρ)<|sub s.k d.of,s')):=by
 simp[jf,jx,In.qL,h]
def XI{x}(h:Cu (.mk 1 x n [] f t a) c w cnt s kb Λ Γ gb Q dom (.iface 356<|.agg #[Nv f,Nv t,.string x])):
 Cq 323 #[Pv c.eb,Mv kb,Mv gb,.iface 356<|.agg #[Nv f,Nv t,.string x]] w (aY c (1100*nn (.mk 1 x n [] f t a)) (1000*nn (.mk 1 x n [] f t a)) (jf c.mks (.mk 1 x n [] f t a) Γ) s cnt w):=by
 have en:nn (.mk 1 x n [] f t a)=1:=qBi;have hx:dom x:=by
  cases h.sc with
  |low _ _ _ _ _ _ hx=>exact hx|leaf _ _ _ _ _ _ _ hk=>omega
 obtain⟨d,hd⟩:∃d,Γ x=some d:=by
  cases hg:Γ x with
  |none=>exact absurd hg (h.hd x hx)|some d=>exact⟨d,rfl⟩
 rw[en,acM c.mks x n f t a hd];have WI:=h.ft.a;rw[en]at WI;have Bk:=h.wg.nd x d hd;have fW:=XH (h.wg.i x d hd) Bk;have k0:Bq w (w.alloc<|Cv #[Nv f,Nv t,Sv x] 356):=bw _;have⟨v,hv,xU⟩:=(h.wg.af k0).e.look hd;have H1:=af_ (h.we.af k0) (h.wk.af k0) hv Bk ae (λq=>ae) f t;obtain⟨ta,xa,sa,sc,rfl,Mk,Tx⟩:=hv;have HA:=ai h;have K0:=ai k0;have HWD:=ai Mk.wh;go_enter func323,ntmps323;go_wp2_with fail;refine H1.mono ?_;rintro e w1⟨F1,hp⟩;obtain⟨hb,HW,rfl⟩|⟨hs,HW,tb,xb,rfl,HT⟩:=hp
 .have FF:=ai F1
  go_wp2
  exact⟨rfl,(Fr.of K0).trans FF,cnt,.error<|qy f t,br _,ae,HW,q9 ⟨hb,rfl⟩,Zv,Zv,rfl,λ_=>⟨rfl,rfl⟩,λq=>by simp[qy]at q,qz rfl⟩
 .have FF:=(Fr.of (S:=λi=>i=c.cb) K0).trans F1
  go_wp2
  go_ret2;have h:=uh HA;refine⟨FF,cnt+d.any.length,.ok (sub (jo<|qS cnt d.any)<|sub s.k d.of,⟨s.k,λn=>s.u n\/(cnt<n/\n<=cnt+d.any.length)⟩),ae,ae,HW,qz ⟨hs,_,_,⟨_,_,Cr cnt d.any Bk h.wk.u,rfl⟩,rfl⟩,λn q=>q,h.wk.wh,tb,xb,kb,rfl,h.wk.n,h.wk.k.fr FF h.wk.n<|λ_ p _=>p,TW.of HT ?_ ?_⟩
  .exact pQ _ _ (cr _ HWD λn _=>h.wk.wh n)
  .rw[iD];omega
end
section
variable {c:WC} {cnt:Nat}
def Ii(h:gG w 98 base v (ox l)):∃sa sc,v=.slice sa l.length sc/\rq w (λi=>base<=i) sa l:=by
 by_cases hl:l=[]
 .subst hl;have⟨va,vc,e⟩:=dP h (n:=0) (by simp[ox]);exact⟨va,vc,e,q9 rfl⟩
 .have acG:0<(ox l).length:=by rw[eZ];exact zo<|λe=>hl<|xj e
  obtain⟨g,cp,m,rfl,hg,lh,hm⟩:=iB h acG;have hm:=uh hm;rw[eZ]at hm;subst hm;refine⟨some ⟨g,0,none⟩,cp,rfl,qz ⟨g,rfl,hg,lh,λi hi=>?_⟩⟩;have:=lZ h i (by rw[eZ];exact hi);rw[this];simp[ox]
def Cx(h:WE w c cnt)(hm:de w P m v)(hz:size m<=1000)(hc:cnt<=900000):Cq 334 #[Pv c.eb,v] w (H8 c cnt (vars [] m) w):=by
 have HV:=fE hm ae;have hl:(vars [] m).length<=1000:=by
  rw[cD];have h2:=dh (occs m) [];have h3:=di m;simp only[uq]at h2;omega
 obtain⟨ta,xa,rfl⟩:=hm.iface;have zc:=h.dx;go_enter func334,ntmps334;go_wp2_with fail;refine HV.mono ?_;rintro e w1⟨V,rfl,ho,K1⟩;obtain⟨sa,sc,rfl,hr⟩:=Ii ho;have HA:=Xp (sc:=sc) (h.af K1) (hr.move (br _) (λ_ _ _=>rfl) (Q:=dB c) λi p _=>by show i≠c.cb;omega) (dG m List.nodup_nil) ae;go_wp2_with fail;refine HA.mono ?_;rintro e w2⟨b,rfl,HB,W2,S2,Tu⟩
 go_wp2
 go_ret;exact⟨b,rfl,xy K1.size HB,W2,S2,(Fr.of K1).trans Tu⟩
def aiR P(tk:List Ty)m w gk(v3 v4:Value)wr:=
 ∃j:Nat,Hid (gk=j)/\j<=tk.length/\v4=Iv ((j:Int)-1)/\(∃ta xa,v3=.iface ta xa/\de wr P (jv (tk.drop j) m) (.iface ta xa))/\Bq w wr
def vS{tk}(h:WD w P tk m v)(hl:tk.length<=1000):Cq 335 #[v] w (λe w'=>∃u,e=.returned u/\de w' (λi=>P i\/w.heap.size<=i) (jv tk m) u/\Bq w w'):=by
 obtain⟨sa,sc,ta,xa,rfl,HR,hm⟩:=h;have⟨k0,B0⟩:=sd w #[Lv sa tk.length sc,Fv ta xa] 470;have HM:=hm.w.af k0;have K0:=ai k0;go_enter func335,ntmps335
 go_wp2
 go_loopg[3,4] tk.length (λgk v3 v4 wr=>aiR (λi=>P i\/w.heap.size<=i) tk m w gk v3 v4 wr/\Bx wr w.heap.size #[Lv sa tk.length sc,Fv ta xa])
 case atStart=>
  refine⟨⟨tk.length,ai rfl,br _,jT,⟨ta,xa,rfl,?_⟩,uh K0⟩,B0⟩;rw[xi];exact HM.wide λi p=>q9 p
 case round=>
  obtain⟨⟨j,dv,hj,rfl,⟨tt,xx,rfl,HT⟩,HK⟩,hB⟩:=hrel;obtain⟨b1,b2,b3⟩:=hB;have BB:=show Bx wr w.heap.size #[Lv sa tk.length sc,Fv ta xa]from⟨b1,b2,b3⟩;by_cases hj0:j=0
  .subst hj0;have hd:decide ((0:Int)<=((0:Nat):Int)-1)=false:=aH
   go_wp2
   go_ret;exact⟨_,rfl,by simpa using HT,HK⟩
  .obtain⟨i,rfl⟩:∃i,j=i+1:=⟨j-1,ae⟩;have ei:(((i+1:Nat):Int)-1)=(i:Int):=ae;rw[ei];have Mu:i<tk.length:=ae;obtain⟨g,vs,rfl,hg,lh,b8⟩:=HR.resolve_left (λe=>by subst e;simp at Mu);have⟨cg,tg⟩:=b8 i Mu;have cg':=(zu (a:=⟨g,i,none⟩)<|HK.block g lh).trans cg;have TG:=tg.w.af HK;have⟨tb,xb,evs⟩:=tg.w.iface;rw[evs]at cg' TG;have Ij:(0:Int)<=(i:Int):=ae;have bz:(i:Int)<(tk.length:Int):=ae;go_wp2_with fail;refine(vU (w:=wr) _ _ _ _).mono ?_;rintro e w7⟨rfl,rfl⟩;go_wp2_with fail;have k7:Bq wr (wr.alloc<|Cv #[Fv tb xb,Fv tt xx] 67):=bw _;go_roundg i
   case measure=>rw[uh dv];omega
   case rel=>
    refine⟨⟨i,ai rfl,ae,jT,⟨_,_,rfl,?_⟩,HK.trans<|k7.mono HK.size⟩,BB.below k7⟩;rw[xc Mu];exact mV.ty aeW (TG.wide λi p=>q9 p) HT<|qz HK.size
end
section
variable {c:WC} {cnt:Nat}
def acN tk m n(h:aA n m):aA n (jv tk m):=by
 induction tk with
 |nil=>exact h|cons t tk ih=>
  show aA n<|qh t<|jv tk m;simp only[aA,bY,or_false];exact qz ih
def sC tk m:size m+tk.length<=size (jv tk m):=by
 induction tk with
 |nil=>exact br _|cons t tk ih=>
  show _<=size (qh t<|jv tk m);simp only[size,ah,ot];omega
def Ik{l'}{d_}{u u'}(h:qs l ρ d_ u u')(hl:∀v,v∈l↔v∈l'):qs l' ρ d_ u u':=⟨h.eR,λv q=>h.out v λr=>q<|(hl v).1 r,λv q=>h.all v<|(hl v).2 q,h.new,h.one,h.use⟩
def acO:Tryz.prog.underlying 214=some (.map 9 470):=qkr
def aga w:(zeroValue 470).run xq w=.ok (.agg #[.slice none 0 0,.nilIface]) w:=qkr
def mS.look{P}{b}{mk}(h:mS w P b mk){x}{tk}{m}(hx:mk x=some (tk,m)):∃v,WD w P tk m v/\∀w':World,w'.heap[b]? =w.heap[b]? ->(vf 214 (Mv b) (.string x) false).run xq w'=.ok v w':=by
 obtain⟨L,h1,h2,h3⟩:=h
 cases hg:aZ x L with
 |none=>grind|some v=>
  have⟨tk',m',e,hs⟩:=h3 x v hg;rw[hx]at e;injection e with e;injection e with e1 e2;subst e1 e2;refine⟨v,hs,λw' hb=>?_⟩;have hl:=(h1.same hb).ms.look Pb acO (aga w') x trivial (λ_ _=>trivial) false;rw[hg]at hl;simpa using hl
theorem WD.move{P Q}{w'}{tk}{m}{v}(h:WD w P tk m v)(hs:w.heap.size<=w'.heap.size)(hb:∀b,P b->b<w.heap.size->w'.heap[b]? =w.heap[b]?)(hq:∀b,P b->b<w.heap.size->Q b):WD w' Q tk m v:=by
 obtain⟨sa,sc,ta,xa,rfl,q1,q2⟩:=h;exact⟨sa,sc,ta,xa,rfl,q1.move hs hb hq,q2.move hs hb hq⟩
def XK(mk:jm)x n f t a(Γ:jc){tk}(h:mk x=some (tk,m)):jf mk (.mk 2 x n [] f t a) Γ=ja (qk (jv tk m) qi) λq=>jk q.1:=by
 simp[jf,jx,In.upM,h]
def aiS a n k tb b w:(Instr.field 470 (.agg #[.slice a n k,.iface tb b]) 1).run xq w=.ok (.iface tb b) w:=qkr
structure RnA(c:WC)cnt(l:List Nat)w w' b:Prop where
 z:c.cb<b
 we:WE w' c (cnt+l.length)
 sb:fh w' (dB c) b (λv=>(qS cnt l v).map Ty.var)
 F:Fr (λi=>i=c.cb) w w'
end
open Classical in
noncomputable def gN (R:ju) (D:Nat->Prop):ju:=λv=>if D v then R v else none
def yN(R:ju):gN R (λ_=>False)=qi:=by funext v;simp[gN,qi]
def fG{D:Nat->Prop}{v:Nat}(h:D v):gN R D v=R v:=by simp[gN,h]
def uy{D:Nat->Prop}{v:Nat}(h:¬D v):gN R D v=none:=by simp[gN,h]
def kw{D:Nat->Prop}{v:Nat}(h:gN R D v=some n):D v/\R v=some n:=by grind[gN]
def comes(R:ju)(D:Nat->Prop)t(u:Nat->Prop)n:=u n\/∃v,¬D v/\aA v t/\R v=some n
def TE{D:Nat->Prop}{u:Nat->Prop}{t:Ty}(ht:∀v,aA v t->R v≠none)(hi:∀v v' n,R v=some n->R v'=some n->v=v')(hu:∀v n,¬D v->R v=some n->¬u n):
 qs (vars [] t) (gN R D) (gN R<|λv=>D v\/aA v t) u (comes R D t u) where
 eR v n h:=by have⟨h1,h2⟩:=kw h;rw[fG<|q9 h1];exact h2
 out v h:=by
  have h:¬aA v t:=λq=>h<|In.aC.2 q;by_cases q:D v
  .rw[fG<|q9 q,fG q]
  .rw[uy<|λr=>r.elim q h,uy q]
 all v h:=by
  have h:=In.aC.1 h;rw[fG<|qz h];exact ht v h
 new v n h1 h2:=by
  have⟨h3,h4⟩:=kw h2;by_cases q:D v
  .rw[fG q]at h1;rw[h1]at h4;cases h4
  .exact hu v n q h4
 one v v' n _ h2 h3:=hi v v' n (kw h2).2 (kw h3).2
 use n:=by
  rw[comes];refine⟨λq=>q.imp id ?_,λq=>q.imp id ?_⟩
  .rintro⟨v,h1,h2,h3⟩;exact⟨v,uy h1,by rw[fG<|qz h2];exact h3⟩
  .rintro⟨v,h1,h2⟩;have⟨h3,h4⟩:=kw h2;by_cases q:D v
   .rw[fG q]at h1;rw[h1]at h4;cases h4
   .grind
def Cy{D:Nat->Prop}{t:Ty}(ht:∀v,aA v t->R v≠none)(hi:∀v v' n,R v=some n->R v'=some n->v=v')(hu:∀v n,¬D v->R v=some n->¬s.u n):
 qk t (gN R D) s (.ok ((sub (jo R) t,gN R<|λv=>D v\/aA v t),⟨s.k,comes R D t s.u⟩)):=by
 refine qz ⟨gN R<|λv=>D v\/aA v t,_,⟨_,_,TE ht hi hu,rfl⟩,?_⟩;have e:sub (jo<|gN R<|λv=>D v\/aA v t) t=sub (jo R) t:=sub_congr t λn hn=>by unfold jo;rw[fG (D:=λv=>D v\/aA v t)<|qz hn]
 show Except.ok _=Except.ok _;rw[e]
def ew{β γ:Type}{m}{g:α->jh β}{h:β->jh γ}{o:Except qm (γ×jd)}(q:ja m (λa=>ja (g a) h) s o):ja (ja m g) h s o:=by
 obtain⟨x,q1,rfl⟩|⟨a,s1,q1,⟨x,q2,rfl⟩|⟨b,s2,q2,q3⟩⟩:=q
 .exact q9 ⟨x,q9 ⟨x,q1,rfl⟩,rfl⟩
 .exact q9 ⟨x,qz ⟨a,s1,q1,q2⟩,rfl⟩
 .exact qz ⟨b,s2,qz ⟨a,s1,q1,q2⟩,q3⟩
def XL m(q:jc×ju):=ja (qk m q.2) λi=>jk (i.1,q.1)
def gO(mk:jm)(tk:List Ty)m(L:List Nd)j g(ρ:ju):=ja (In.fH (tk.drop j) (L.drop j) (qu mk<|L.drop j) g ρ)<|XL m
def yO{tk}(h:mk st=some (tk,m))n L f t a g:jl mk (.mk 2 st n L f t a) g=gO mk tk m L 0 g qi:=by
 simp[jl,qn,h,gO];rfl
def uz{tk:List Ty}(hl:L.length=tk.length)(hj:j<L.length){o:Except qm ((Ty×jc)×jd)}(h:ja (jl mk L[j] g) (λq=>ja (qk (tk[j]' ae) ρ) λi=>ja (jp q.1 i.1 (j5 L[j])<|j9 L[j]) λ_=>gO mk tk m L (j+1) q.2 i.2) s o):gO mk tk m L j g ρ s o:=by
 unfold gO at*;rw[xc hj,xc<|show j<tk.length by omega];show ja (ja (jl mk L[j] g) λq=>ja (qk (tk[j]' ae) ρ) λi=>ja (jp q.1 i.1 (j5 L[j])<|j9 L[j]) λ_=>In.fH (tk.drop<|j+1) (L.drop<|j+1) (qu mk<|L.drop<|j+1) q.2 i.2) (XL m) s o;refine ew ?_;obtain⟨x,q1,rfl⟩|⟨a,s1,q1,h⟩:=h
 .exact q9 ⟨x,q1,rfl⟩
 refine qz ⟨a,s1,q1,ew ?_⟩;obtain⟨x,q1,rfl⟩|⟨b,s2,q2,h⟩:=h
 .exact q9 ⟨x,q1,rfl⟩
 exact qz ⟨b,s2,q2,ew h⟩
def Il{tk}(hl:L.length=tk.length){o:Except qm ((Ty×jc)×jd)}(h:XL m (g,ρ) s o):gO mk tk m L L.length g ρ s o:=by
 rw[gO];rw[xi,hl,xi];exact qz ⟨(g,ρ),s,rfl,h⟩
structure MdR(c:WC)cnt(tk:List Ty)m(R:ju):Prop where
 e:R=qS cnt (vars [] m)
 a:∀i(h:i<tk.length)v,aA v tk[i]->aA v m
def MdR.one{c:WC}{cnt}{tk}(h:MdR c cnt tk m R):∀v v' n,R v=some n->R v'=some n->v=v':=λv v' n h1 h2=>by
 rw[h.e]at h1 h2;rw[qS]at h1 h2;split at h1<;>split at h2
 .rename_i q1 q2;injection h1 with h1;injection h2 with h2;exact Hw q1 q2 ae
 .cases h2
 .cases h1
 .cases h1
def MdR.num{c:WC}{cnt}{tk}(h:MdR c cnt tk m R){v:Nat}(q:R v=some n):cnt<n/\n<=cnt+(vars [] m).length:=by
 rw[h.e]at q;rw[qS]at q;split at q
 .rename_i q1;have:=List.idxOf_lt_length_iff.2 q1;injection q with q;omega
 .cases q
def MdR.has{c:WC}{cnt}{tk}(h:MdR c cnt tk m R){v:Nat}(q:aA v m):R v≠none:=by
 rw[h.e];rw[qS];rw[if_pos<|In.aC.2 q];simp
structure MdS(c:WC)gv cnt(s:jd)w(R:ju)(p:jh (Ty×jc))(Λ:Nat->Prop)tk m L j wr cj(sj:jd)kj g D:Prop where
 F:Fr (λi=>i=c.cb\/i=gv) w wr
 we:WE wr c cj
 wk:Cw wr c gv cj sj kj
 n:∀n,¬sj.u n->Λ n
 e:bU wr (qK c gv) gv g
 i:j8 Λ sj g
 r:In.iE Λ sj (gN R D)
 fr:∀v n,¬D v->R v=some n->¬sj.u n
 u:∀n,sj.u n->s.u n\/(cnt<n/\n<=cj)
 c1:cnt+(vars [] m).length<=cj
 c2:cj+1000*ck (L.drop j)<=cnt+1000*(1+ck L)
 p:∀o,gO c.mks tk m L j g (gN R D) sj o->p s o
structure MdT(c:WC)gv cnt(s:jd)w(R:ju)(p:jh (Ty×jc))(Λ:Nat->Prop)tk m L j wr cj(sj:jd)kj g D T U f t:Prop where
 F:Fr (λi=>i=c.cb\/i=gv) w wr
 we:WE wr c cj
 wk:Cw wr c gv cj sj kj
 n:∀n,¬sj.u n->Λ n
 e:bU wr (qK c gv) gv g
 i:j8 Λ sj g
 r:In.iE Λ sj (gN R D)
 fr:∀v n,¬D v->R v=some n->¬sj.u n
 u:∀n,sj.u n->s.u n\/(cnt<n/\n<=cj)
 c1:cnt+(vars [] m).length<=cj
 c2:cj+1000*ck (L.drop<|j+1)<=cnt+1000*(1+ck L)
 ti:jj Λ sj T
 ui:jj Λ sj U
 p:∀o,ja (jp T U f t) (λ_=>gO c.mks tk m L (j+1) g<|gN R D) sj o->p s o
section
variable {wr:World} {c:WC} {cnt cj c1:Nat} {sj:jd} {kj k1:Nat} {D:Nat->Prop} {p:jh (Ty×jc)} {tk:List Ty}
def MdS.arg{DD:Nat}(hR:MdR c cnt tk m R)(hl:L.length=tk.length)(hj:j<L.length)(jU:∀n,s.u n->us cnt n)(h:MdS c gv cnt s w R p Λ tk m L j wr cj sj kj g D)(q:acK c gv S (1000*nn L[j]) (jl c.mks L[j] g) sj cj wr c1 T g1 s1 ta xa k1 w1):∃s2,MdT c gv cnt s w R p Λ tk m L j w1 c1 s2 k1 g1 (λv=>D v\/aA v (tk[j]' ae)) T (sub (jo R)<|tk[j]' ae) (j5 L[j])<|j9 L[j]:=by
 have st:=q.step h.wk h.n h.i;have xS:∀v n,¬D v->R v=some n->¬s1.u n:=λv n a b z=>by
  have hb:=hR.num b;obtain r|r:=q.u n z
  .exact h.fr v n a b r
  .have:=h.c1;omega
 have ru:=Cy (R:=R) (s:=s1) (t:=tk[j]' ae) (λv o=>hR.has<|hR.a j ae v o) hR.one xS;have⟨g1',g2,g3⟩:=In.sD st.k.ok st.n (h.r.run st.p.run) (tk[j]' ae) _ _ ru;have hd:ck (L.drop j)=nn L[j]+ck (L.drop<|j+1):=by rw[xc hj];rfl
 have c2:=h.c2;have qc1:=q.c1;have qc2:=q.c2;have hc1:=h.c1;have akQ:∀v n,R v=some n->cnt<n/\n<=c1:=λv n r=>by have:=hR.num r;omega
 refine⟨⟨s1.k,comes R D (tk[j]' ae) s1.u⟩,h.F.trans q.F,q.we,⟨st.k.k,st.k.n,λn z=>?_,g1'.ok,st.k.wh⟩,g1'.new,q.e,st.i.run g1'.run,g3,λv n a b z=>?_,λn z=>?_,ae,ae,st.t.run g1'.run,g2,λo ho=>h.p o<|uz hl hj<|qz ⟨(T,g1),s1,q.m,qz ⟨_,_,ru,ho⟩⟩⟩
 .obtain z|⟨v,_,_,z⟩:=z
  .exact st.k.u n z
  .have:=akQ v n z;rw[us];omega
 .obtain z|⟨v',z1,z2,z3⟩:=z
  .grind
  .exact a (qz<|hR.one v' v n z3 b▸z2)
 .obtain z|⟨v,_,_,z⟩:=z
  .obtain r|r:=q.u n z
   .exact(h.u n r).imp id λr=>ae
   .omega
  .grind
def MdT.next(h:MdT c gv cnt s w R p Λ tk m L j wr cj sj kj g D T U f t)(hb:Bq wr w1){s'}(he:jp T U f t sj (.ok ((),s')))(hk:ql Λ sj s')(hw:Cw w1 c gv cj s' b)(hu:s'.u=sj.u):MdS c gv cnt s w R p Λ tk m L (j+1) w1 cj s' b g D:=
 ⟨h.F.trans<|Fr.of hb,h.we.af hb,hw,hk.new,h.e.af hb,h.i.run hk.run,h.r.run hk.run,λv n a b z=>h.fr v n a b<|hu▸z,λn z=>h.u n<|hu▸z,h.c1,h.c2,λo ho=>h.p o<|qz ⟨(),s',he,ho⟩⟩
def MdT.no(h:MdT c gv cnt s w R p Λ tk m L j wr cj sj kj g D T U f t)(hb:Bq wr w1)(hD:1000*(1+ck L)<=DD)(he:jp T U f t sj (.error z))(hf:sf w1 (dB c) z vl vr):eu c gv S DD p s cnt w (Ct z.f vl vr) w1:=
 ⟨h.F.trans<|Fr.of hb,cj,.error z,by have:=h.c1;omega,by have:=h.c2;omega,h.we.af hb,h.p _<|q9 ⟨z,he,rfl⟩,vl,vr,rfl,hf⟩
def MdS.no(hl:L.length=tk.length)(hj:j<L.length)(h:MdS c gv cnt s w R p Λ tk m L j wr cj sj kj g D)(hD:1000*(1+ck L)<=DD)(q:acL c gv (1000*nn L[j]) (jl c.mks L[j] g) sj cj wr c1 z vl vr w1):eu c gv S DD p s cnt w (Ct z.f vl vr) w1:=
 ⟨h.F.trans q.F,c1,.error z,by have:=h.c1;have:=q.c1;omega,by
  have hd:ck (L.drop j)=nn L[j]+ck (L.drop<|j+1):=by rw[xc hj];rfl
  have:=h.c2;have:=q.c2;omega,q.we,h.p _<|uz hl hj<|q9 ⟨z,q.m,rfl⟩,vl,vr,rfl,q.f⟩
def MdS.done(hR:MdR c cnt tk m R)(hl:L.length=tk.length)(h:MdS c gv cnt s w R p Λ tk m L L.length wr cj sj kj g D)(hb:Bq wr w1)(hD:1000*(1+ck L)<=DD)(ht:TW w1 (qK c gv) S (sub (jo R) m) (.iface ta xa)):eu c gv S DD p s cnt w (.returned<|.tuple #[.iface ta xa,Mv kj]) w1:=by
 have ru:=Cy (R:=R) (s:=sj) (t:=m) (λv o=>hR.has o) hR.one h.fr;refine⟨h.F.trans<|Fr.of hb,cj,.ok ((sub (jo R) m,g),⟨sj.k,comes R D m sj.u⟩),by have:=h.c1;omega,by have:=h.c2;omega,h.we.af hb,h.p _<|Il hl<|qz ⟨_,_,ru,rfl⟩,λn z=>?_,h.wk.wh,ta,xa,kj,rfl,h.wk.n,h.wk.k.af hb,ht,h.e.af hb⟩;obtain z|⟨v,_,_,z⟩:=z
 .exact h.u n z
 .have:=hR.num z;exact qz ⟨this.1,by have:=h.c1;omega⟩
def fh.bare{R:ju}(h:fh w P b (λv=>(R v).map Ty.var)):fh w Q b (λv=>(R v).map Ty.var):=by
 obtain⟨L,h1,h2,h3,h4⟩:=h;refine⟨L,h1,h2,λn u hu=>?_,h4⟩;have⟨t,e,ht⟩:=h3 n u hu;refine⟨t,e,?_⟩
 cases hr:R n with
 |none=>simp[hr]at e|some k=>
  simp only[hr,Option.map_some,Option.some.injEq]at e;subst e
  cases ht
  exact .var k
end
structure gH n0 M c w0 cnt0(s0:jd)Λ(Γ:jc)gb(Q:Nat->Prop)(dom:BA->Prop)D p(P:World->jd->Prop)(s:jd)cnt kb w:Prop where
 wg:WG w0 c s0 Λ Γ gb
 hq:∀b,Q b->b≠c.cb
 hd:∀x,dom x->Γ x≠none
 ft:Fit c cnt0 n0
 mf:MkFine c.mks
 f:Fr (λi=>i=c.cb) w0 w
 we:WE w c cnt
 st:D8 w0 w c cnt s0 s Λ kb
 cl:Cl c (1100*n0) (1000*n0) M s0 cnt0 w0 D p s cnt w
 lv:∀w' s',Fr (λi=>i=c.cb) w w'->ql Λ s s'->P w' s'
 cn:cnt+D<=cnt0+1000*n0
section
variable {n0:Nat} {M:jh Ty} {c:WC} {cnt0 cnt D2 kb0:Nat} {P P':World->jd->Prop} {post:Ending->World->Prop}
def gH.start(h:Cu nd c w0 cnt0 s0 kb0 Λ Γ gb Q dom v)(e:jf c.mks nd Γ=q):gH (nn nd) (jf c.mks nd Γ) c w0 cnt0 s0 Λ Γ gb Q dom (1000*nn nd) q (λ_ _=>True) s0 cnt0 kb0 w0:=⟨h.wg,h.hq,h.hd,h.ft,h.mf,Fr.refl _ _,h.we,⟨h.wk,h.hn,In.Kp.refl h.wk.ok h.hn⟩,λ_ _ h=>e▸h,λ_ _ _ _=>trivial,br _⟩
def gH.p(H:gH n0 M c w0 cnt0 s0 Λ Γ gb Q dom D q P s cnt kb w):P w s:=H.lv _ _ (Fr.refl _ _)<|In.Kp.refl H.st.k.ok H.st.n
def gH.af(H:gH n0 M c w0 cnt0 s0 Λ Γ gb Q dom D q P s cnt kb w)(k:Bq w w'):gH n0 M c w0 cnt0 s0 Λ Γ gb Q dom D q P s cnt kb w':=
 ⟨H.wg,H.hq,H.hd,H.ft,H.mf,H.f.trans<|Fr.of k,H.we.af k,⟨H.st.k.af k,H.st.n,H.st.p⟩,λe w2 h=>H.cl e w2 ⟨(Fr.of k).trans h.1,h.2⟩,λw2 s2 a b=>H.lv w2 s2 ((Fr.of k).trans a) b,H.cn⟩
def gH.drew(H:gH n0 M c w0 cnt0 s0 Λ Γ gb Q dom D q P s cnt kb w):gH n0 M c w0 cnt0 s0 Λ Γ gb Q dom D q P s cnt kb w.drew:=H.af (zx _ _).drew
def gH.add(H:gH n0 M c w0 cnt0 s0 Λ Γ gb Q dom D q P s cnt kb w)(h:∀w' s',Fr (λi=>i=c.cb) w w'->ql Λ s s'->P' w' s'):gH n0 M c w0 cnt0 s0 Λ Γ gb Q dom D q (λw s=>P w s/\P' w s) s cnt kb w:=⟨H.wg,H.hq,H.hd,H.ft,H.mf,H.f,H.we,H.st,H.cl,λw s a b=>⟨H.lv w s a b,h w s a b⟩,H.cn⟩
def gH.box{C}{t}(H:gH n0 M c w0 cnt0 s0 Λ Γ gb Q dom D q P s cnt kb w):gH n0 M c w0 cnt0 s0 Λ Γ gb Q dom D q (λw' s=>P w' s/\Bx w' w.heap.size C) s cnt kb (w.alloc<|.cells C t):=
 (H.af<|bw _).add λw' _ a _=>(Bx.new w C t).fr a (by have:=H.we.dx;omega)
def gH.asks(H:gH n0 M c w0 cnt0 s0 Λ Γ gb Q dom D q P s cnt kb w)(K:Bq w W)(he:bU W (dB c) b (ji Γ st d))(hz:w.heap.size<=b)(hi:In.nQ Λ s d)(ha:d.any.Nodup)(jU:st∈c.nl)(hx:PE w0 Q x vx)(sx:ScE c.mks c.nl Xg x)(hd:∀y,Xg y->dom y\/y=st)(hD:1000*nn x<=D)(hn:nn x<=n0):Cu x c W cnt s kb Λ (ji Γ st d) b Q Xg vx:=
 ⟨H.we.af K,H.st.k.af K,H.st.n,(H.wg.fr H.f H.st.p.run).set he (by have:=H.we.dx;omega) hi ha jU,(hx.move H.f.size (λb p z=>H.f.block b z<|H.hq b p)<|λ_ p _=>p).af K,H.hq,sx,λy q=>D_ H.hd y<|hd y q,H.ft.le qBw hn,H.mf⟩
def gH.exG{g:Ty->jh Ty}{dL}{Xv}(H:gH n0 M c w0 cnt0 s0 Λ Γ gb Q dom D (ja (jf c.mks x dL) g) P s cnt kb w)(K:Bq w W)(Hx:Bj x)(a:Cu x c W cnt s kb Λ dL Xv Q Xg vx)(ok:∀T ta xa s' aE Mw w',gH n0 M c w0 cnt0 s0 Λ Γ gb Q dom D2 (g T) (λw s=>P w s/\TW w (dB c) (1100*nn x) T (.iface ta xa)/\jj Λ s T) s' aE Mw w'->post (.returned<|.tuple #[.iface ta xa,Mv Mw]) w')(hD:D2+1000*nn x<=D:=by omega)(bad:∀f l r w',aY c (1100*n0) (1000*n0) M s0 cnt0 w0 (Ct f l r) w'->post (Ct f l r) w':=by exact λ_ _ _ _ h=>⟨rfl,h⟩):
 Cq 323 #[Pv c.eb,Mv kb,Mv Xv,vx] W post:=by
 refine(Hx c W cnt s kb Λ dL Xv Q Xg vx a).mono λe w' hp=>?_;obtain⟨al,z,vl,vr,rfl,q⟩|⟨al,T,s1,ta,xa,iY,rfl,q⟩:=hp.split
 .exact bad _ _ _ _ (H.cl _ _<|q.post (Fr.of K) ae)
 .have⟨st,ty⟩:=q.step a.wk a.hn a.wg;have:=q.c1;have:=q.c2;have:=H.cn;have F:=(Fr.of (S:=λi=>i=c.cb) K).trans q.F;exact ok T ta xa s1 al iY w' ⟨H.wg,H.hq,H.hd,H.ft,H.mf,H.f.trans F,q.we,H.st.and ⟨st.k,st.n,st.p⟩,H.cl.and q.m F q.c1 q.u ae,λw2 s2 a b=>⟨H.lv w2 s2 (F.trans a)<|st.p.trans b,q.t.fr a<|λ_ p _=>p,ty.run b.run⟩,ae⟩
def gH.ex{g:Ty->jh Ty}(H:gH n0 M c w0 cnt0 s0 Λ Γ gb Q dom D (ja (jf c.mks x Γ) g) P s cnt kb w)(Hx:Bj x)(hx:PE w0 Q x vx)(sx:ScE c.mks c.nl dom x)(ok:∀T ta xa s' aE Mw w',gH n0 M c w0 cnt0 s0 Λ Γ gb Q dom D2 (g T) (λw s=>P w s/\TW w (dB c) (1100*nn x) T (.iface ta xa)/\jj Λ s T) s' aE Mw w'->post (.returned<|.tuple #[.iface ta xa,Mv Mw]) w')(hD:D2+1000*nn x<=D:=by omega)(hn:nn x<=n0:=by rw[en];omega)(bad:∀f l r w',aY c (1100*n0) (1000*n0) M s0 cnt0 w0 (Ct f l r) w'->post (Ct f l r) w':=by exact λ_ _ _ _ h=>⟨rfl,h⟩):
 Cq 323 #[Pv c.eb,Mv kb,Mv gb,vx] w post:=
 H.exG (zx _ _) Hx ⟨H.we,H.st.k,H.st.n,H.wg.fr H.f H.st.p.run,hx.move H.f.size (λb p z=>H.f.block b z<|H.hq b p)<|λ_ p _=>p,H.hq,sx,H.hd,H.ft.le qBw hn,H.mf⟩ ok hD bad
section
variable {Y:Ty} {g:Unit->jh Ty} {v1 v2:Value}
def gH.eqc(H:gH n0 M c w0 cnt0 s0 Λ Γ gb Q dom D (ja (jp X Y f t) g) P s cnt kb w)(K:Bq w W)(hx:TW W (dB c) S X v1)(hy:TW W (dB c) S Y v2)(tx:jj Λ s X)(ty:jj Λ s Y)(hS:S<=900000:=by omega):
 Cq 324 #[Mv kb,v1,v2,.agg #[Nv f,Nv t]] W λe w'=>(∃fl l r,e=Ct fl l r/\aY c (1100*n0) (1000*n0) M s0 cnt0 w0 e w')\/Bw c cnt s Λ X Y f t w e w':=by
 have:=H.cn;have:=H.ft.a;refine(aiK (H.we.af K) (H.st.k.af K) H.st.n ae hS hx hy tx ty f t).mono λe w' q=>?_;obtain q|q:=q.or
 .obtain⟨fl,l,r,h1,h2⟩:=q.post (H.we.af K)<|Fr.of K;exact .inl ⟨fl,l,r,h1,H.cl _ _ h2⟩
 .exact .inr (q.up K)
def gH.eqd(H:gH n0 M c w0 cnt0 s0 Λ Γ gb Q dom D (ja (jp X Y f t) g) P s cnt kb w)(q:Bw c cnt s Λ X Y f t w (.returned u) w'):∃Mw s',u=Mv Mw/\gH n0 M c w0 cnt0 s0 Λ Γ gb Q dom D (g ()) P s' cnt Mw w':=by
 obtain⟨b,e,k,s',he,kp,wk,hu⟩:=q;injection e with e;exact⟨b,s',e,H.wg,H.hq,H.hd,H.ft,H.mf,H.f.trans<|Fr.of k,H.we.af k,⟨wk,kp.new,H.st.p.trans kp⟩,H.cl.and he (Fr.of k) (br _) (λn q=>q9<|hu▸q)<|br _,λw2 s2 a b=>H.lv w2 s2 ((Fr.of k).trans a)<|kp.trans b,H.cn⟩
def gH.eq(H:gH n0 M c w0 cnt0 s0 Λ Γ gb Q dom D (ja (jp X Y f t) g) P s cnt kb w)(hx:TW w (dB c) S X v1)(hy:TW w (dB c) S Y v2)(tx:jj Λ s X)(ty:jj Λ s Y)(ok:∀Mw s' w',gH n0 M c w0 cnt0 s0 Λ Γ gb Q dom D (g ()) P s' cnt Mw w'->post (.returned<|Mv Mw) w')(hS:S<=900000:=by omega)(bad:∀f l r w',aY c (1100*n0) (1000*n0) M s0 cnt0 w0 (Ct f l r) w'->post (Ct f l r) w':=by exact λ_ _ _ _ h=>⟨rfl,h⟩):Cq 324 #[Mv kb,v1,v2,.agg #[Nv f,Nv t]] w post:=
 (H.eqc (zx _ _) hx hy tx ty hS).mono λe w' q=>by
  obtain⟨fl,l,r,rfl,q⟩|q:=q
  .exact bad _ _ _ _ q
  .have h:=q;obtain⟨b,rfl,-⟩:=q;have⟨Mw,s',e,H⟩:=H.eqd h
   cases e
   exact ok _ _ _ H
end
def gH.new{g}(H:gH n0 M c w0 cnt0 s0 Λ Γ gb Q dom D (ja jz g) P s cnt kb w)(ok:∀s' w',gH n0 M c w0 cnt0 s0 Λ Γ gb Q dom D2 (g<|cnt+1) (λw s=>P w s/\jj Λ s (.var<|cnt+1)) s' (cnt+1) kb w'->post (.returned<|Iv<|(cnt:Int)+1) w')(hD:D2+1<=D:=by omega):Cq 47 #[Pv c.cb] w post:=by
 have cn:=H.cn;have:=H.ft.a;have⟨W,F⟩:=H.we.fresh;have⟨m,st,ty⟩:=yG H.st.k H.st.n F;refine(oB cnt ae H.we.ct).mono ?_;rintro e w'⟨rfl,rfl⟩;exact ok _ _ ⟨H.wg,H.hq,H.hd,H.ft,H.mf,H.f.trans F,W,H.st.and st,H.cl.and m F ae (λn q=>q.imp id λq=>ae) ae,λw2 s2 a b=>⟨H.lv w2 s2 (F.trans a)<|st.p.trans b,ty.run b.run⟩,ae⟩
def XN w c n:TW w (dB c) 1 (.var n) (.iface 98<|Nv n):=TW.of (x:=.var n) (de.var n) trivial (by simp[size])
def TW.pr{a b:Ty}(ha:TW w (dB c) S1 a va)(hb:TW w (dB c) S2 b vb)(hc:c.cb<w.heap.size):TW (w.alloc<|.cells #[va,vb] 67) (dB c) (1+S1+S2) (qt a b) (.iface 169<|.agg #[.string<|pn nO,.slice (some ⟨w.heap.size,0,none⟩) 2 2]):=by
 obtain⟨⟨x1,y1,e1,z1⟩,wx⟩:=ha;obtain⟨⟨x2,y2,e2,z2⟩,wy⟩:=hb;exact⟨⟨.aK nO [x1,x2],mV.ty (qz<|q9 rfl) y1 y2 (by show w.heap.size≠c.cb;omega),dD.af4 nO Xu e1 e2,by simp only[size,ah];omega⟩,⟨Xu,wx,wy,trivial⟩⟩
def aiT{a b:Ty}{tb}{xb}(ha:TW w (dB c) S1 a (.iface ta xa))(hb:TW w (dB c) S2 b (.iface tb xb))(hc:c.cb<w.heap.size):Cq 350 #[.iface ta xa,.iface tb xb] w λe w'=>∃g,e=.returned (.iface 169<|.agg #[.string<|pn qJ,.slice (some ⟨g,0,none⟩) 2 2])/\Bq w w'/\TW w' (dB c) (1+S1+S2) (qh a b) (.iface 169<|.agg #[.string<|pn qJ,.slice (some ⟨g,0,none⟩) 2 2]):=
 (vU _ _ _ _).mono λe w' h=>by
  obtain⟨rfl,rfl⟩:=h;exact⟨_,rfl,bw _,TW.fn ha hb hc⟩
def gH.ret(H:gH n0 M c w0 cnt0 s0 Λ Γ gb Q dom D (jk X) P s cnt kb w)(ht:TW w (dB c) S X (.iface ta xa))(hS:S<=1100*n0:=by rw[en];omega):aY c (1100*n0) (1000*n0) M s0 cnt0 w0 (.returned<|.tuple #[.iface ta xa,Mv kb]) w:=H.cl _ _<|Pj H.we H.st.k (ht.le hS)<|Fr.refl _ _
end
section
variable {c:WC} {cnt:Nat} {y z:Nd} {vy vz:Value}
def Mx(mk:jm)s n x y f t a(Γ:jc):jf mk (.mk 6 s n [x,y] f t a) Γ=ja (jf mk x Γ) λa=>ja (jf mk y Γ) λb=>jk<|qt a b:=by simp[jf,jx,qf,j7]
def ScE.agb{k}(h:ScE c.mks c.nl dom (.mk k st n [x,y] f t a))(hk:k=6\/k=7\/k=8):ScE c.mks c.nl dom x/\ScE c.mks c.nl dom y:=by
 obtain rfl|rfl|rfl:=hk<;>cases h with
 |two _ _ _ _ _ _ _ _ _ _ hx hy=>exact⟨hx,hy⟩|lt _ _ _ _ _ _ _ _ _ _ hc=>omega
def opT s:=if s=eQ then In.oC else qv
def My(mk:jm)s n x y f t a(Γ:jc):jf mk (.mk 7 s n [x,y] f t a) Γ=ja (jf mk x Γ) λa=>ja (jp a qv (j5 x)<|j9 x) λ_=>ja (jf mk y Γ) λb=>ja (jp b qv (j5 y)<|j9 y) λ_=>jk<|opT s:=by simp[jf,jx,qf,j7,qw,opT]
def Im:Tryz.prog.underlying 212=some (.map 9 121):=qkr
def acP w:(zeroValue 121).run xq w=.ok .nilFunc w:=qkr
def ur.look{b}(h:ur w b){k}(hk:k=kq\/k=fe\/k=gM\/k=eQ):(k=eQ/\(vf 212 (Mv b) (.string k) false).run xq w=.ok (.func (.func 125) #[] #[]) w)\/(k≠eQ/\(vf 212 (Mv b) (.string k) false).run xq w=.ok (.func (.func 124) #[] #[]) w):=by
 obtain⟨L,h1,g1,g2,g3,g4⟩:=h;have hl:=λk=>h1.ms.look Pb Im (acP w) k trivial (λ_ _=>trivial) false;obtain rfl|rfl|rfl|rfl:=hk
 .grind
 .grind
 .grind
 .grind
def ur.drew(h:ur w b):ur w.drew b:=h.same rfl
end
structure BdA rc st x c w cnt(s:jd)kb(Λ:Nat->Prop)(Γ:jc)gb Q(dom:BA->Prop)v:Prop where
 we:WE w c cnt
 wk:WK w c cnt s kb
 hn:∀n,¬s.u n->Λ n
 wg:WG w c s Λ Γ gb
 pe:PE w Q x v
 hq:∀b,Q b->b≠c.cb
 sc:ScE c.mks c.nl (λv=>dom v\/(rc=true/\v=st)) x
 hd:∀x,dom x->Γ x≠none
 ft:Fit c cnt (1+nn x)
 mf:MkFine c.mks
 jU:st∈c.nl
section
variable {c:WC} {cnt:Nat}
def BdA.af{rc}{st}{x}{v}{w1}(h:BdA rc st x c w cnt s kb Λ Γ gb Q dom v)(hb:Bq w w1):BdA rc st x c w1 cnt s kb Λ Γ gb Q dom v:=
 ⟨h.we.af hb,h.wk.af hb,h.hn,h.wg.af hb,h.pe.af hb,h.hq,h.sc,h.hd,h.ft,h.mf,h.jU⟩
def XO{y:Nat}(Hx:Bj x)(h:BdA false st x c w cnt s kb Λ Γ gb Q dom vx):
 Cq 313 #[Pv c.eb,Mv kb,Mv gb,.agg #[.bool false,Nv a,Nv y,.string st,vx]] w (aY c (1100*(1+nn x)) (1000*(1+nn x)) (qe false st x (jf c.mks x) Γ) s cnt w):=by
 have k0:Bq w (w.alloc<|Cv #[.bool false,Nv a,Nv y,Sv st,vx] 142):=bw _;have h1:=h.af k0;have H1:=Hx c _ cnt s kb Λ Γ gb Q _ vx ⟨h1.we,h1.wk,h1.hn,h1.wg,h1.pe,h1.hq,h1.sc,λv q=>h1.hd v (q.resolve_right λr=>by cases r.1),h1.ft.le ae ae,h1.mf⟩;have K0:=ai k0;obtain⟨tx,ax,rfl⟩:=h.pe.iface;go_enter func313,ntmps313;go_wp2_with fail;refine H1.mono ?_;intro e w1 hp;obtain⟨al,zz,vl,vr,rfl,q1⟩|⟨al,T1,s1,yI,yJ,iY,rfl,q1⟩:=hp.split
 .clear hp
  go_wp2
  exact⟨rfl,(Fr.of K0).trans q1.F,al,.error zz,q1.c1,by have:=q1.c2;omega,q1.we,q1.m,vl,vr,rfl,q1.f⟩
 .have QQ:=ai q1
  go_wp2
  go_ret2;have q1:=uh QQ;exact⟨(Fr.of K0).trans q1.F,al,.ok (T1,s1),q1.c1,by have:=q1.c2;omega,q1.we,q1.m,q1.u,q1.wh,yI,yJ,iY,rfl,q1.n,q1.k,q1.t.le ae⟩
def Ee st x pe(Γ:jc):qe true st x pe Γ=ja jz λv=>ja (pe<|ji Γ st<|qp<|.var v) λt=>ja (jp (.var v) t (j5 x)<|j9 x) λ_=>jk t:=by simp[qe]
def BdA.at{M}(h:BdA rc st x c w cnt s kb Λ Γ gb Q dom v)(e:M=q):gH (1+nn x) M c w cnt s Λ Γ gb Q dom (1000*(1+nn x)) q (λ_ _=>True) s cnt kb w:=⟨h.wg,h.hq,h.hd,h.ft,h.mf,Fr.refl _ _,h.we,⟨h.wk,h.hn,In.Kp.refl h.wk.ok h.hn⟩,λ_ _ h=>e▸h,λ_ _ _ _=>trivial,br _⟩
def XP{y:Nat}(Hx:Bj x)(h:BdA true st x c w cnt s kb Λ Γ gb Q dom vx):
 Cq 313 #[Pv c.eb,Mv kb,Mv gb,.agg #[.bool true,Nv a,Nv y,.string st,vx]] w (aY c (1100*(1+nn x)) (1000*(1+nn x)) (qe true st x (jf c.mks x) Γ) s cnt w):=by
 have fW:=ku;have fb:=h.ft.b;have jU:=h.jU;have sx:=ai h.sc;obtain⟨tx,ax,rfl⟩:=h.pe.iface;have HX:=ai h.pe;have LZ:=h.pe.place;have H:=h.at<|Ee st x (In.inf c.mks x) Γ;dsimp only[PlF]at LZ;clear h;have⟨e1,e2,e3⟩:=H.we.bx;go_enter func313,ntmps313;go_wp2_with fail;refine H.box.new (D2:=1000*nn x+999) ?_ ae;intro s3 w3 H;clear e1 e2 e3;have⟨⟨_,b1,b2,b3⟩,_⟩:=H.p;go_wp2_with fail;go_cut[11,1]from 12 (λvt vk wc=>∃T6 s6 Io XQ XS WJ,vt=Fv XQ XS/\vk=Mv WJ/\gH (1+nn x) (In.bM true st x (In.inf c.mks x) Γ) c w cnt s Λ Γ gb Q dom 999 (In.andM (In.sv (.var<|cnt+1) T6 (In.gW x)<|In.ue x) λ_=>In.cU T6) (λw' s=>((True/\Bx w' w.heap.size #[.bool true,Nv a,Nv y,Sv st,Fv tx<|Av ax])/\In.cB Λ s (.var<|cnt+1))/\TW w' (dB c) (1100*nn x) T6 (Fv XQ XS)/\In.cB Λ s T6) s6 Io WJ wc)
 case first=>
  go_region_with(first
   |(go_at_call 319;go_loud(refine(xT ((H.wg.fr H.f H.st.p.run).e.af (zx _ _).drew) st<|Ia (pS w3.drew c cnt 1<|br _) ae).mono ?_);rintro e w5⟨b5,rfl,z5,h5,k5⟩;have K5:=ai<|(zx w3.heap.size w3).drew.trans k5;have⟨⟨_,d1,d2,d3⟩,_⟩:=(H.af K5).p;have E5:=ai h5;have Z5:=ai z5;clear k5 h5 z5)
   |(go_at_call 323;go_loud(refine H.exG (D2:=999) K5 Hx (H.asks K5 E5 Z5 H.p.2.mono xg jU HX sx (λ_ q=>q.imp id (·.2)) ae ae) ?_);intro T6 XQ XS s6 Io WJ w6 H6))
  all_goals
   go_wp2_with fail
   go_meet
   case rel=>exact⟨_,_,_,_,_,_,rfl,rfl,H6⟩
 case rest=>
  obtain⟨T6,s6,Io,XQ,XS,WJ,rfl,rfl,H⟩:=hcut;clear b1 b2 b3;have⟨⟨⟨_,b1,b2,b3⟩,_⟩,_⟩:=H.p;go_wp2_with fail;refine(dl _ _).mono ?_;rintro e w7⟨rfl,K7⟩;have H:=H.af K7;go_wp2_with fail;refine H.eq (S:=900000) (pS w7 c cnt _ ae) (H.p.2.1.le ae) H.p.1.2 H.p.2.2 ?_;intro kb8 s8 w8 H
  go_wp2
  go_ret2;exact H.ret H.p.2.1 ae
end
end Go.Proofs.YtfnkchdeheeiiaaGreatDoor

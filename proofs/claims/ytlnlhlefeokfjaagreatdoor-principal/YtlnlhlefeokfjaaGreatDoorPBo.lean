import Derived.Test.YtlnlhlefeokfjaaGreatDoorPBl
import Derived.Test.YtlnlhlefeokfjaaGreatDoorPXk
import Derived.Test.YtlnlhlefeokfjaaGreatDoorPXo
set_option linter.all false
set_option maxRecDepth 100000
set_option maxHeartbeats 8000000
namespace Go.Proofs.YtlnlhlefeokfjaaGreatDoor
open In renaming andM->ja,Env->jc,St->jd,inf->jf,MM->jh,cz->ji,cA->jj,cH->jk,dv->jl,via->jm,sW->jo,Mks->jp,Rn->jq,eU->jt,zL->ju,over->jv,jH->jx,I7->jy,li->jz,bC->j3,ch->j5,dr->j6,kZ->j7,lR->j8,l9->j9,Cd->qe,rj->qf,arr->qg,Kp->qh,Ft->qi,BT->qj,rP->qk,mono->ql,qQ->qm,wZ->qn,Dp->qp,tPr->qr,mA->qs,rK->qt,q_->qu
open Or renaming inr->qv,inl->qw
open _root_.List renaming drop_eq_getElem_cons->qx,take_succ_eq_append_getElem->qy,take_length->qz,nodup_nil->q9,getElem_mem->xc,drop_length->xd,eq_nil_of_length_eq_zero->xf,mem_cons_of_mem->xg,getElem_of_mem->xh,mem_singleton->xi,mem_append->xj
open _root_.Nat renaming le_trans->xk,lt_of_lt_of_le->xm,zero_le->xn,pos_of_ne_zero->xo
open Go.Proofs.Tryz renaming prog->xq
open Go.World renaming cell?_of_block->xt
open Go.Value renaming string->xw
open Go.RowKit.Below renaming refl->xy,heap_setCell->zd
open _root_.Array renaming getElem?_setIfInBounds_ne->zh,getElem?_eq_getElem->zi
open Ne renaming symm->zt
open Go Go.RowKit Go.ChangeMaps Go.MapKept Un Proofs.Tryz
variable {ops:Array Oper} {cs:Array Value} {k st:BA} {dom XV:BA->Prop} {rc:Bool} {e:Ending} {g g1 Γ MY yF:jc} {z:qi} {q:jh Un.Ty} {mk:jp} {R ρ:jq} {c d:jy} {s s0 s1:jd} {NL:List BA} {l:List Nat} {L:List Nd} {rest:List Oper} {D D1 DD S S1 S2 a b b1 b2 base cb aE ak f gb gv j kb jI n r sc t:Nat} {F P Q Λ:Nat->Prop} {κ:Nat->Un.Ty} {nd x:Nd} {o:Oper} {sa:Option Addr} {α:Type} {ta:TypeId} {T U X m y:Un.Ty} {u v vl vr vx xa:Value} {W w w' w0 w1:World}
abbrev UH:KL xq 9 xw (λ_ _=>True):=KL.str Tryz.underlying9
def str_inj:∀x y,xw x=xw y->x=y:=Cc
def rQ(w:World)(P:Nat->Prop)(sa:Option Addr)l:=l=[]\/∃g,sa=some ⟨g,0,none⟩/\P g/\g<w.heap.size/\∀i(h:i<l.length),w.cell? ⟨g,i,none⟩=some (Nv<|l[i])
def oh w P(c:jy)(v:Value):=∃ta xa sa sc,v=.agg #[.iface ta xa,.slice sa c.any.length sc]/\TW w P 900000 c.of (.iface ta xa)/\rQ w P sa c.any
def bS w P b(Γ:jc):=∃L,MG xw w b L/\(∀x,a_ x L=none->Γ x=none)/\∀x v,a_ x L=some v->∃c,Γ x=some c/\oh w P c v
theorem rQ.move(h:rQ w P sa l)(hs:w.heap.size<=w'.heap.size)(hb:∀b,P b->b<w.heap.size->w'.heap[b]? =w.heap[b]?)(hq:∀b,P b->b<w.heap.size->Q b):rQ w' Q sa l:=by
 obtain h|⟨g,h1,h2,h3,h4⟩:=h
 .exact qw h
 .exact qv ⟨g,h1,hq g h2 h3,xm h3 hs,λi hi=>(xt (a:=⟨g,i,none⟩)<|hb g h2 h3).trans<|h4 i hi⟩
theorem oh.move{c}{v}(h:oh w P c v)(hs:w.heap.size<=w'.heap.size)(hb:∀b,P b->b<w.heap.size->w'.heap[b]? =w.heap[b]?)(hq:∀b,P b->b<w.heap.size->Q b):oh w' Q c v:=by
 obtain⟨ta,xa,sa,sc,h1,h2,h3⟩:=h;exact⟨ta,xa,sa,sc,h1,h2.move hs hb hq,h3.move hs hb hq⟩
def oh.af(h:oh w P c v)(hb:Bq w w'):oh w' P c v:=h.move hb.size (λb _ hz=>hb.block b hz)<|λ_ p _=>p
def bS.lt(h:bS w P b Γ):b<w.heap.size:=qAr
theorem bS.move(h:bS w P b Γ)(hs:w.heap.size<=w'.heap.size)(bP:w'.heap[b]? =w.heap[b]?)(hb:∀b,P b->b<w.heap.size->w'.heap[b]? =w.heap[b]?)(hq:∀b,P b->b<w.heap.size->Q b):bS w' Q b Γ:=by
 obtain⟨L,h1,h2,h3⟩:=h;exact⟨L,h1.same bP,h2,λx v hx=>by have⟨c,e,hc⟩:=h3 x v hx;exact⟨c,e,hc.move hs hb hq⟩⟩
def bS.af(h:bS w P b Γ)(hb:Bq w w'):bS w' P b Γ:=h.move hb.size (hb.block b h.lt) (λb _ hz=>hb.block b hz)<|λ_ p _=>p
def bS.wide(h:bS w P b Γ)(hq:∀x,P x->Q x):bS w Q b Γ:=h.move (br _) rfl (λ_ _ _=>rfl) (λb p _=>hq b p)
def bS.fr{S}(h:bS w P b Γ)(hf:Fr S w w')(hb:¬S b)(hS:∀x,P x->x<w.heap.size->¬S x):bS w' P b Γ:=h.move hf.size (hf.block b h.lt hb) (λx p z=>hf.block x z<|hS x p z)<|λ_ p _=>p
def bS.new(w:World)P:bS (w.alloc<|.map #[] 0) P w.heap.size (λ_=>none):=⟨[],MG.new _ w,λ_ _=>rfl,λx v h=>qBg⟩
def oK{a}{F}(hg:o.guard=none)m x v(sG:o.op=Op.insert 190 m x v\/o.op=Op.mapUpdate 190 m x v)(hm:a.eval m=Mv b)(h:bS w P b Γ)(hP:¬P b)(hc:oh w P c u)n(hx:a.eval x=.string n)(hv:a.eval v=u)(hK:∀w',bS w' P b (ji Γ n c)->One b w w'->wpList xq ops F rest (a.put o.dst undef) w'):
 wpList xq ops F (o::rest) a w:=by
 obtain⟨L,h1,h2,h3⟩:=h;refine cr UH dZ hg m x v sG hm h1 n u hx hv λw' hM o=>hK w' ⟨_,hM,λy hy=>?_,λy z hy=>?_⟩ o
 .rw[aO]at hy;by_cases e:n=y
  .grind
  .rw[if_neg e]at hy;simp only[ji,if_neg<|zt e];exact h2 y hy
 .have mv:∀{c v},oh w P c v->oh w' P c v:=λh=>h.move UE (λx p _=>o.block x<|λe=>hP<|e▸p)<|λ_ p _=>p;rw[aO]at hy;by_cases e:n=y
  .rw[if_pos e]at hy;injection hy with hy;subst hy e;exact⟨c,by simp[ji],mv hc⟩
  .rw[if_neg e]at hy;have⟨c',q1,q2⟩:=h3 y z hy;exact⟨c',by simp only[ji,if_neg<|zt e];exact q1,mv q2⟩
open Classical in
noncomputable def ovD (yF MY:jc) (done:List BA) (x:BA):Option jy:=if x∈done then jv yF MY x else MY x
def ai2 P b1 b2(MY yF:jc)L w gk wr:=
 ∃done,IG xw wr w.heap.size b2 L done gk/\bS wr P b1 (ovD yF MY done)/\Fr (λi=>i=b1) w wr
def acU(h1:bS w P b1 MY)(h2:bS w P b2 yF)(hP:¬P b1)(bA:∀x,P x->x<w.heap.size)(hn:b1≠b2):
 Cq 276 #[Mv b1,Mv b2] w λe w'=>e=.returned (.tuple #[])/\bS w' P b1 (jv yF MY)/\Fr (λi=>i=b1) w w':=by
 have l1:=h1.lt;have l2:=h2.lt;obtain⟨L,m2,q1,q2⟩:=h2;obtain⟨o,cnt,hrg,mw⟩:=m2.range dZ;have k1:Bq w (w.alloc o):=bw _;have HI:=ai mw;have H1:=h1.af k1;have K1:=ai k1;have Q:=And.intro q1 q2;go_enter func276,ntmps276
 go_wp2
 go_loopg[] cnt (λgk wr=>ai2 P b1 b2 MY yF L w gk wr)
 case atStart=>
  refine⟨[],HI,?_,Fr.of K1⟩;have e:ovD yF MY []=MY:=by funext x;simp[ovD]
  rw[e];exact H1
 case round=>
  obtain⟨done,HI,HE,hF⟩:=hrel;have HF:=ai hF;have Xv:=HI.lt;have zr:=hF.size;rcases HI.next (P:=xq) str_inj with⟨ha,ET⟩|⟨x,u,w2,aE,hxd,Qf,ET,IY,IX,yv,fK,hen⟩
  .go_wp2
   go_end0;refine⟨rfl,?_,HF⟩;have e:ovD yF MY done=jv yF MY:=by
    funext y;unfold ovD;by_cases q:y∈done
    .rw[if_pos q]
    .rw[if_neg q];have:yF y=none:=by
      cases hg:a_ y L with
      |none=>exact Q.1 y hg|some v=>exact absurd (ha _ v hg) q
     simp only[jv,this]
   rw[<-e];exact HE
  .obtain⟨c,EC,hc⟩:=Q.2 x u Qf;have Ce:=yv;have nP:∀i,P i->¬i=w.heap.size:=λi hi e=>by have:=bA i hi;omega
   have E2:=HE.fr Ce ae<|λi p _=>nP i p;have c2:=(hc.move (w':=wr) zr (λi p z=>HF.block i z<|λe=>hP<|e▸p)<|λ_ p _=>p).move (w':=w2) (Q:=P) ae (λi p z=>Ce.block i z<|nP i p)<|λ_ p _=>p;obtain⟨ta,xa,sa,sc,rfl,t1,t2⟩:=c2;have sJ:Bq w2 (w2.alloc<|.cells #[.iface ta xa,.slice sa c.any.length sc] 393):=bw _;have E3:=E2.af sJ;have C3:=(oh.af ⟨ta,xa,sa,sc,rfl,t1,t2⟩ sJ);have I3:=IY.same (sJ.block b2 ae)<|sJ.block w.heap.size ae;have K3:=ai sJ;go_wp2_with(refine oK rfl _ _ _ (qv rfl) rfl E3 hP C3 x rfl rfl ?_;intro w4 H' O';have S4:=ai H';have O4:=ai O';clear H' O');go_roundg aE
   case measure=>exact IX
   case rel=>
    have o:=uh O4;have k3:=uh K3;have f1:=Ce;refine⟨x::done,I3.same (o.block b2<|zt hn)<|o.block _ ae,?_,?_⟩
    .have e:ovD yF MY (x::done)=ji (ovD yF MY done) x c:=by
      funext y;by_cases q:y=x
      .subst q;simp[ovD,ji,jv,EC]
      .simp only[ovD,ji,if_neg q];by_cases r:y∈done
       .rw[if_pos<|xg _ r,if_pos r]
       .rw[if_neg<|λh=>(List.mem_cons.1 h).elim q r,if_neg r]
     rw[e];exact S4
    .have hF:=uh HF;refine⟨o.os.trans<|k3.os.trans<|f1.os.trans hF.os,o.tape.trans<|k3.tape.trans<|f1.tape.trans hF.tape,o.output.trans<|k3.output.trans<|f1.output.trans hF.output,by rw[o.size];have:=k3.size;omega,λi hi hni=>?_⟩;rw[o.block i hni,k3.block i ae,f1.block i ae ae,hF.block i hi hni]
def I8(h:bS w P b Γ):Cq 275 #[Mv b] w λe w'=>e=.returned (Mv w.heap.size)/\bS w' P w.heap.size Γ/\Bq w w'/\w'.heap.size=w.heap.size+1:=by
 obtain⟨L,h1,h2,h3⟩:=h;refine(XW h1).mono ?_;rintro e w'⟨rfl,m,k,z⟩;exact⟨rfl,⟨L,m,h2,λx v hx=>by have⟨c,q1,q2⟩:=h3 x v hx;exact⟨c,q1,q2.af k⟩⟩,k,z⟩
def pZ P(Γ:jc)w(e:Ending)w':=∃b,e=.returned (Mv b)/\w.heap.size<=b/\bS w' P b Γ/\Bq w w'
def bS.low(h:bS w P b Γ):bS w (λx=>P x/\x<w.heap.size) b Γ:=h.move (br _) rfl (λ_ _ _=>rfl) (λb p z=>⟨p,z⟩)
def Dq(h1:bS w P b1 MY)(h2:bS w P b2 yF):Cq 259 #[Mv b1,Mv b2] w (pZ P (jv yF MY) w):=by
 have HC:=I8 h1.low;have l2:=h2.lt;have H2:=ai h2.low;go_enter func259,ntmps259;go_wp2_with fail;refine HC.mono ?_;rintro e w1⟨rfl,h3,K1,Z1⟩;have HD:=acU h3 (H2.af K1) ae (λx p=>ae) ae;go_wp2_with fail;refine HD.mono ?_;rintro e w2⟨rfl,H4,UI⟩
 go_wp2
 go_ret;have k:=K1;have f:=UI;refine⟨w.heap.size,rfl,br _,H4.wide λx p=>p.1,⟨f.os.trans k.os,f.tape.trans k.tape,f.output.trans k.output,xk k.size f.size,λi hi=>(f.block i (by have:=Z1;omega) ae).trans<|k.block i hi⟩⟩
def kv(Γ:jc)x(c:jy):jv (ji (λ_=>none) x c) Γ=ji Γ x c:=by
 funext y;unfold jv ji;by_cases e:y=x
 .simp[e]
 .simp[e]
def yG(h:bS w P b Γ)x(hc:oh w P c v):Cq 247 #[Mv b,.string x,v] w (pZ P (ji Γ x c) w):=by
 have iZ:= @run_makeMap Tryz.prog;have hc0:=hc;obtain⟨ta,xa,sa,sc,rfl,t1,t2⟩:=hc;have k1:Bq w ((w.alloc<|Cv #[Fv ta xa,Lv sa c.any.length sc] 393).alloc<|.map #[] 0):=(bw _).alloc ag _;have E1:=bS.new (w.alloc<|Cv #[Fv ta xa,Lv sa c.any.length sc] 393)<|λi=>P i/\i<w.heap.size;have C1:=(hc0.move (Q:=λi=>P i/\i<w.heap.size) (br _) (λ_ _ _=>rfl)<|λi p z=>⟨p,z⟩).af k1;have K1:=ai k1;rw[ba]at E1;go_enter func247,ntmps247;go_wp2_with(refine oK rfl _ _ _ (Or.inl rfl) rfl E1 ae C1 x rfl rfl ?_;intro w4 H' O';have S4:=ai H';have O4:=ai O';clear H' O');have o:=uh O4;have k:=uh K1;have kk:Bq w w4:=⟨o.os.trans k.os,o.tape.trans k.tape,o.output.trans k.output,by rw[o.size];exact k.size,λi hi=>(o.block i ae).trans<|k.block i hi⟩;have HW:=Dq (h.af kk)<|S4.wide λi p=>p.1;rw[kv]at HW;refine HW.mono ?_;rintro e w5⟨b5,rfl,hb5,H5,K5⟩;have KK:=ai kk
 go_wp2
 go_ret;have kk:=uh KK;exact⟨b5,rfl,xk kk.size hb5,H5,kk.trans<|K5.mono kk.size⟩
def UJ(h:bS w P b Γ)x:Cq 286 #[Mv b,.string x] w (pZ P (j8 Γ x) w):=by
 have HC:=I8 h.low;go_enter func286,ntmps286;go_wp2_with fail;refine HC.mono ?_;rintro e w1⟨rfl,⟨L,M1,h2,h3⟩,K1,z1⟩;have Q:=And.intro h2 h3;go_wp2_with(refine I9 UH dZ rfl _ _ rfl rfl M1 x rfl ?_;intro w4 H' O';have S4:=ai H';have O4:=ai O';clear H' O');go_ret;have o:=uh O4;have k:=K1;obtain⟨h2,h3⟩:=Q;have hn:=M1.nodup;refine⟨w.heap.size,rfl,br _,⟨_,S4,λy hy=>?_,λy v hy=>?_⟩,⟨o.os.trans k.os,o.tape.trans k.tape,o.output.trans k.output,by rw[o.size];exact k.size,λi hi=>(o.block i ae).trans<|k.block i hi⟩⟩
 .rw[zM x y hn]at hy;rw[j8];by_cases e:y=x
  .rw[if_pos e]
  .rw[if_neg e];rw[if_neg<|zt e]at hy;exact h2 y hy
 .rw[zM x y hn]at hy;by_cases e:x=y
  .rw[if_pos e]at hy;cases hy
  .rw[if_neg e]at hy;have⟨c,q1,q2⟩:=h3 y v hy;refine⟨c,?_,q2.move UE (λi p _=>o.block i ae)<|λi p _=>p.1⟩;rw[j8];rw[if_neg<|zt e];exact q1
def ai3(l:List Nat)v w gk c(wr:World):=
 ∃j:Nat,Hid (gk=l.length-j)/\j<=l.length/\c=Nv j/\wr=w/\Hid (∀i(hi:i<l.length),i<j->l[i]≠v)
def XX(h:rQ w P sa l)(hl:l.length<=1000000000000)v:Cq 301 #[.slice sa l.length sc,Nv v] w λe w'=>∃k,e=.returned (Iv k)/\decide (0<=k)=decide (v∈l)/\w'=w:=by
 go_enter func301,ntmps301
 go_wp2
 go_loopg[8] l.length (λgk c wr=>ai3 l v w gk c wr)
 case atStart=>exact⟨0,ai ag,xn _,rfl,rfl,ai<|λi _ hi=>absurd hi ae⟩
 case round=>
  obtain⟨j,cV,hj,rfl,rfl,mX⟩:=hrel;by_cases bh:j<l.length
  .have hd:(j:Int)<(l.length:Int):=ae;obtain⟨g,rfl,_,iP,bQ⟩:=h.resolve_left<|λe=>qBs;have cg:=bQ j bh;by_cases HV:v=l[j]
   .generalize hx:l[j]=x at*;subst HV
    go_wp2
    go_ret;refine⟨j,rfl,?_,rfl⟩;have:v∈l:=by rw[<-hx];exact xc bh
    simp[this]
   .have cR:((v:Int)==(l[j]:Int))=false:=bD;generalize hx:l[j]=x at*
    go_wp2
    go_roundg(l.length-(j+1))
    case measure=>rw[uh cV];omega
    case rel=>
     refine⟨j+1,ai rfl,ae,i_,rfl,ai<|λi hi hij=>?_⟩;by_cases e:i=j
     .subst e;rw[hx];exact zt HV
     .exact mX i hi ae
  .have hd:decide ((j:Int)<(l.length:Int))=false:=bD;have ej:j=l.length:=ae;subst ej
   go_wp2
   go_ret;refine⟨-1,rfl,?_,rfl⟩;have:v∉l:=λq=>by
    have⟨i,hi,e⟩:=xh q;exact mX i hi hi e
   simp[this]
def I_(h:rQ w P sa l)(hl:l.length<=1000000000000)v:Cq 297 #[.slice sa l.length sc,Nv v] w λe w'=>e=.returned (.bool<|decide (v∈l))/\w'=w:=by
 have HC:=XX (sc:=sc) h hl v;go_enter func297,ntmps297;go_wp2_with fail;refine HC.mono ?_;rintro e w1⟨k,rfl,HK,rfl⟩
 go_wp2
 go_ret;refine⟨?_,rfl⟩;rw[<-HK];rfl
def XY{l V:List BA}(h:l.Nodup)(hs:∀x,x∈l->x∈V):l.length<=V.length:=by
 have key:∀(l V:List (List UInt8)),l.Nodup->(∀x,x∈l->x∈V)->l.length<=V.length:=by
  intro l
  induction l with
  |nil=>intro V _ _;simp|cons a l ih=>
   intro V h hs;have ha:=hs a ag;have hn:=List.nodup_cons.1 h;have:=ih (V.erase a) hn.2 λx hx=>(List.mem_erase_of_ne<|λe=>hn.1 (by rw[<-e];exact hx)).2 (hs x<|by simp[hx]);rw[List.length_erase_of_mem ha]at this;have:0<V.length:=List.length_pos_of_mem ha;simp only[kh];omega
 have:=key (l.map ByteArray.toList) (V.map ByteArray.toList) (by
  rw[List.Nodup,List.pairwise_map];exact h.imp λoj q=>oj<|toList_inj q) (λx hx=>by
  obtain⟨y,hy,rfl⟩:=List.mem_map.1 hx
  exact List.mem_map_of_mem<|hs y hy)
 simpa using this
def CM w b(F:Nat->Prop)r:=∃L,MG qO w b L/\(∀n:Nat,a_ (n:Int) L=none->¬F n)/\∀(n:Nat)u,a_ (n:Int) L=some u->F n/\∃k:Nat,u=Nv k/\1<=k/\k<=r
def zN:Tryz.prog.underlying 155=some (.map 85 3):=qkr
def CM.same(h:CM w b F r)(hb:w'.heap[b]? =w.heap[b]?):CM w' b F r:=qAs
def CM.lt(h:CM w b F r):b<w.heap.size:=qAr
def CM.new(w:World):CM (w.alloc<|.map #[] 0) w.heap.size (λ_=>False) 0:=⟨[],MG.new _ w,λ_ _ q=>q,λn u h=>qBg⟩
def CM.look(h:CM w b F r)n:∃k:Nat,(Instr.lookup 155 (Mv b) (Nv n) false).run xq w=.ok (Nv k) w/\k<=r/\(0<k↔F n):=by
 obtain⟨L,h1,h2,h3⟩:=h;have hl:=h1.ms.look KLV zN (zO w) (n:Int) trivial (λ_ _=>trivial) false
 cases hg:a_ (n:Int) L with
 |none=>grind|some u=>
  rw[hg]at hl;obtain⟨q1,k,rfl,q2,q3⟩:=h3 n u hg;exact⟨k,by simpa using hl,q3,⟨λ_=>q1,λ_=>ae⟩⟩
def I'{a}{Q}(hg:o.guard=none)m x v(sG:o.op=Op.insert 155 m x v\/o.op=Op.mapUpdate 155 m x v)(hm:a.eval m=Mv b)(h:CM w b F r)n k(hk:k<=r)(hx:a.eval x=Nv n)(hv:a.eval v=Iv ((k:Int)+1))(hK:∀w',CM w' b (λi=>F i\/i=n) (r+1)->One b w w'->wpList xq ops Q rest (a.put o.dst undef) w'):
 wpList xq ops Q (o::rest) a w:=by
 obtain⟨L,h1,h2,h3⟩:=h;refine cr KLV zN hg m x v sG hm h1 (n:Int) _ hx hv λw' hM o=>hK w' ⟨_,hM,λi hi=>?_,λi u hi=>?_⟩ o
 .rw[aO]at hi;by_cases e:(n:Int)=(i:Int)
  .grind
  .grind
 .rw[aO]at hi;by_cases e:(n:Int)=(i:Int)
  .rw[if_pos e]at hi;injection hi with hi;subst hi;exact⟨qv ae,k+1,ag,ae,ae⟩
  .grind
def FxD(Γ:jc)κ(done:List BA)v:=∃y c,y∈done/\Γ y=some c/\aB v (sub κ c.of)/\v∉c.any
def FxR b(Γ:jc)κ L w gk wr:=
 ∃done r,IG xw wr (w.heap.size+1) b L done gk/\CM wr w.heap.size (FxD Γ κ done) r/\done.Nodup/\(∀x,x∈done->Γ x≠none)/\r<=done.length*1000000000000/\Bq w wr
def FyR cm(F:Nat->Prop)r(l any:List Nat)w3 gk v wr:=
 ∃j:Nat,Hid (gk=l.length-j)/\j<=l.length/\v=Nv j/\CM wr cm (λi=>F i\/(i∈l.take j/\i∉any)) (r+j)/\Fr (λi=>i=cm) w3 wr
def CM.le{G}{r'}(h:CM w b F r)(hf:∀n,F n↔G n)(hr:r<=r'):CM w b G r':=by grind[CM]
def UK(Γ:jc)κ w(e:Ending)w':=∃cm r,e=.returned (Mv cm)/\w.heap.size<=cm/\r<=1000000000000000000/\CM w' cm (qn Γ κ) r/\Bq w w'
def acV(h:bS w P b Γ)(hk:KW w P kb κ)(hkb:P kb)(hf:wR κ)(hNL:∀x,Γ x≠none->x∈NL)(hNl:NL.length<=1000000)(agk:∀x c,Γ x=some c->c.any.length<=1000000000000):
 Cq 292 #[Mv b,Mv kb] w (UK Γ κ w):=by
 have iZ:= @run_makeMap Tryz.prog;have l1:=h.lt;have lk:=hk.lt;obtain⟨L,m1,q1,q2⟩:=h;have k1:Bq w (w.alloc<|.map #[] 0):=bw _;have⟨o,cnt,hrg,mw⟩:=(m1.af k1).range dZ;rw[ba]at hrg mw;have k2:Bq w ((w.alloc<|.map #[] 0).alloc o):=k1.alloc ag _;have HI:=ai mw;have K2:=ai k2;have C0:=(CM.new w).same (w':=(w.alloc<|.map #[] 0).alloc o)<|(MapKept.heap_alloc _ _).2 _ ag;have Q:=And.intro q1 q2;have HK:=ai hk;clear mw k1 k2 m1 q1 q2 hk;go_enter func292,ntmps292
 go_wp2
 go_loopg[] cnt (λgk wr=>FxR b Γ κ L w gk wr)
 case atStart=>exact⟨[],0,HI,C0.le (λn=>⟨λq=>q.elim,λ⟨y,c,q,_⟩=>by simp at q⟩) (br _),q9,(λx hx=>by simp at hx),ag,K2⟩
 case round=>
  clear C0 HI hrg;obtain⟨done,r,HI,hC,HN,HD,hr,HB⟩:=hrel;have HC:=ai hC;have Xv:=HI.lt;have zr:=HB.size;have hdl:=xk (XY HN λx hx=>hNL x<|HD x hx) hNl;have HR:=ai hr;have HDL:=ai hdl;clear hC hr hdl;rcases HI.next (P:=xq) str_inj with⟨ha,ET⟩|⟨x,u,w2,aE,hxd,Qf,ET,IY,bA,yv,fK,hen⟩
  .go_wp2
   go_ret;refine⟨w.heap.size,done.length*1000000000000,rfl,br _,by have:=uh HDL;omega,HC.le (λn=>⟨λ⟨y,c,_,p1,p2,p3⟩=>⟨y,c,p1,p2,p3⟩,λ⟨y,c,p1,p2,p3⟩=>⟨y,c,?_,p1,p2,p3⟩⟩) HR,HB⟩
   cases hg:a_ y L with
   |none=>rw[Q.1 y hg]at p1;cases p1|some v=>exact ha y v hg
  .have⟨c,EC,hc⟩:=Q.2 x u Qf;have amP:wr.heap.size<=w2.heap.size:=ae;have agl:w2.heap.size<=wr.heap.size:=ae;clear fK;have F1:=yv;have kb2:∀i,i<w.heap.size->w2.heap[i]? =w.heap[i]? :=λi hi=>(F1.block i ae ae).trans<|HB.block i hi;have hB2:Bq w w2:=⟨F1.os.trans HB.os,F1.tape.trans HB.tape,F1.output.trans HB.output,ae,kb2⟩;obtain⟨ta,xa,sa,sc,rfl,t1,t2⟩:=hc;have⟨k3,B3⟩:=nbh w2 #[Fv ta xa,Lv sa c.any.length sc] 393;have hB3:Bq w (w2.alloc<|Cv #[Fv ta xa,Lv sa c.any.length sc] 393):=hB2.alloc ae _;have T2:=t2.move (w':=w2.alloc<|Cv #[Fv ta xa,Lv sa c.any.length sc] 393) hB3.size (λi _ hi=>hB3.block i hi)<|λi p z=>(⟨p,z⟩:P i/\i<w.heap.size);have CC3:=(HC.same<|F1.block _ ae ae).same (w':=w2.alloc<|Cv #[Fv ta xa,Lv sa c.any.length sc] 393)<|k3.block _ ae;have I3:=IY.same (k3.block b ae)<|k3.block (w.heap.size+1) ae;have HO:=uY (HK.af hB3) hkb hf (br _)<|t1.af hB3;have hal:=agk x c EC;have hzz:=t1.Xz hf<|br _;have Iw:=cd _ t1.wh λn _=>hf.wh n;have K3:=ai hB3;have⟨c3,f3,z3⟩:=uh B3;clear IY k3 hB2 hB3 kb2 F1 yv t1 t2 HC HI HB;go_wp2_with fail;refine HO.mono ?_;rintro e w4⟨u4,rfl,hu4,K4⟩;have HV:=fO hu4 hzz;obtain⟨tu,xu,rfl⟩:=hu4.iface;have z4:=K4.size;simp only[ba]at z4;clear hu4 HO c3 f3 z3;go_wp2_with fail;refine HV.mono ?_;rintro e w5⟨V,rfl,HO5,k5⟩;rw[gZ]at HO5
   have zP:(vars []<|sub κ c.of).length<=1000000000000:=by
    have h1:=gZ<|sub κ c.of;rw[<-h1,cC];have h2:=cY (occs<|bK<|sub κ c.of) [];have h3:=cZ<|bK<|sub κ c.of;simp only[qP]at h2;omega
   generalize Dr:vars [] (sub κ c.of)=l at*;obtain⟨va,vc,rfl⟩:=dM HO5 (n:=l.length)<|fk l;have NF:=K4.trans<|k5.mono K4.size;have z45:=NF.size;simp only[ba]at z45;have T5:=T2.move (Q:=λi=>P i/\i<w.heap.size) NF.size (λi p z=>NF.block i z)<|λ_ p _=>p;have B5:=ai<|B3.below NF;have CC5:=CC3.same<|NF.block _ bD;have I5:=I3.same (NF.block b bD)<|NF.block (w.heap.size+1) bD;have K5:=K3.trans (NF.mono (by have:=K3.size;omega));clear k5 NF HV K4 T2 B3 CC3 I3 K3
   go_wp2
   go_loopg[23] l.length (λgk v wq=>FyR w.heap.size (FxD Γ κ done) r l c.any w5 gk v wq)
   case atStart=>exact⟨0,ai ag,xn _,rfl,CC5.le (λn=>ag) ae,Fr.refl _ _⟩
   case round=>
    obtain⟨j,cV,hj,rfl,HC6,HF6⟩:=hrel;have zq:=HF6.size;have B6:=B5.fr HF6 ae;by_cases bh:j<l.length
    .have hd:(j:Int)<(l.length:Int):=ae;have hjv:j<(oM l).length:=by rw[fk];exact bh
     have⟨gv,cpv,mv,hv,hgv,iP,_⟩:=iB HO5 ae;injection hv with NG UL hv3;subst NG;have cg0:=mC HO5 j hjv;rw[show(oM l)[j]=Nv (l[j]) by simp[oM]]at cg0;have cg:=(xt (a:=⟨gv,j,none⟩)<|HF6.block gv iP ae).trans cg0;have V6:=T5.move (w':=wr) (Q:=λi=>P i/\i<w.heap.size) zq (λi p z=>HF6.block i z ae)<|λ_ p _=>p;have HCo:=I_ (sc:=sc) V6 hal l[j];have HM6:∀i,i∈l.take (j+1)↔i∈l.take j\/i=l[j]:=λi=>by rw[qy bh,xj,xi]
     have⟨kk,Ds,XD,_⟩:=HC6.look l[j];generalize hx:l[j]=xx at*;have HRR:Hid (r<=1000000000000000000):=ai (by have h1:=uh HR;have h2:=uh HDL;have h3:done.length*1000000000000<=1000000*1000000000000:=Nat.mul_le_mul_right _ h2;exact xk h1<|xk h3 aw);have hkb:(kk:Int)+1<=9000000000000000000:=by have:=uh HRR;omega
     obtain⟨c6,f6,z6⟩:=B6;clear V6 hx cg0 UL hv3 ET hen Qf iZ;by_cases E_:xx∈c.any
     .rw[decide_eq_true E_]at HCo;go_wp2_with fail;refine HCo.mono ?_;rintro e w7⟨rfl,rfl⟩;clear HCo
      go_wp2
      go_roundg(l.length-(j+1))
      case measure=>rw[uh cV];omega
      case rel=>
       refine⟨j+1,ai rfl,ae,i_,HC6.le (λn=>?_) ae,HF6⟩;rw[HM6 n];constructor
       .rintro(q|⟨q1,q2⟩)
        .exact qw q
        .exact qv ⟨qw q1,q2⟩
       .rintro(q|⟨q1|q1,q2⟩)
        .exact qw q
        .exact qv ⟨q1,q2⟩
        .exact absurd (q1▸E_) q2
     .rw[decide_eq_false E_]at HCo;go_wp2_with fail;refine HCo.mono ?_;rintro e w7⟨rfl,rfl⟩;clear HCo;go_wp2_with(refine I' rfl _ _ _ (qv rfl) rfl HC6 xx kk XD rfl rfl ?_;intro w8 H' O';have S8:=ai H';have O8:=ai O';clear H' O');go_roundg(l.length-(j+1))
      case measure=>rw[uh cV];omega
      case rel=>
       have o:=uh O8;refine⟨j+1,ai rfl,ae,i_,S8.le (λn=>?_) ae,HF6.trans ⟨o.os,o.tape,o.output,UE,λi _ hi=>o.block i hi⟩⟩;rw[HM6 n];constructor
       .rintro((q|⟨q1,q2⟩)|q)
        .exact qw q
        .exact qv ⟨qw q1,q2⟩
        .exact qv ⟨qv q,by rw[q];exact E_⟩
       .rintro(q|⟨q1|q1,q2⟩)
        .exact qw (qw q)
        .exact qw (qv ⟨q1,q2⟩)
        .exact qv q1
    .have hd:decide ((j:Int)<(l.length:Int))=false:=bD;have ej:j=l.length:=ae;subst ej;clear B6
     go_wp2
     go_roundg aE
     case measure=>exact bA
     case rel=>
      have f:=HF6;have k5:=K5;refine⟨x::done,r+l.length,I5.same (f.block b ae ae)<|f.block _ ae ae,HC6.le (λn=>?_)<|br _,List.nodup_cons.2 ⟨hxd,HN⟩,?_,by have:=uh HR;simp only[kh];omega,⟨f.os.trans k5.os,f.tape.trans k5.tape,f.output.trans k5.output,by have:=k5.size;omega,λi hi=>(f.block i (by have:=k5.size;omega) ae).trans<|k5.block i hi⟩⟩
      .rw[qz];have hm:n∈l↔aB n (sub κ c.of):=by rw[<-Dr];simpa using bJ (sub κ c.of) [] n
       constructor
       .rintro(⟨y,c',p1,p2,p3,p4⟩|⟨p1,p2⟩)
        .exact⟨y,c',xg _ p1,p2,p3,p4⟩
        .exact⟨x,c,ag,EC,hm.1 p1,p2⟩
       .rintro⟨y,c',p1,p2,p3,p4⟩;obtain q|q:=List.mem_cons.1 p1
        .subst q;rw[EC]at p2;injection p2 with p2;subst p2;exact qv ⟨hm.2 p3,p4⟩
        .exact qw ⟨y,c',q,p2,p3,p4⟩
      .intro y hy;obtain q|q:=List.mem_cons.1 hy
       .rw[q,EC];simp
       .exact HD y q
abbrev kept(p:Nat->Bool)(l:List Nat):List Nat:=l.filter λn=> !p n
def Dt p(l:List Nat)j(h:j<l.length):kept p (l.take<|j+1)=kept p (l.take j)++(if p l[j]then[]else[l[j]]):=by
 rw[kept];rw[qy h,List.filter_append];congr 1
 cases hp:p l[j]<;>simp[hp]
def agm g(l:List Nat)p w gk vi vj wr:=
 ∃(i j:Nat)(C:Array Value),Hid (gk=l.length-j)/\i<j/\j<=l.length/\vi=Nv i/\vj=Nv j/\Hid (i=(kept p<|l.take j).length)/\Bx wr g C/\Hid (l.length<=C.size)/\Hid (∀k(h:k<(kept p<|l.take j).length),C[k]? =some (Nv<|(kept p<|l.take j)[k]))/\Hid (∀k(h:k<l.length),j<=k->C[k]? =some (Nv<|l[k]))/\Fr (λb=>b=g) w wr
section
variable {p:Nat->Bool} {g:Nat}
def agn f cs(l:List Nat)(p:Nat->Bool)g w:=∀(W:World)(n:Nat),n∈l->Fr (λb=>b=g) w W->Cq f (#[Nv n]++cs) W λe w'=>e=.returned (.bool<|p n)/\w'=W
def ago{w}{e}{base}{g c:Nat}{xs}(h:gM w e base (.slice (some ⟨g,0,none⟩) n c) xs):∃C:Array Value,Bx w g C/\xs.length<=C.size/\(∀k(hk:k<xs.length),C[k]? =some xs[k])/\n=xs.length/\n<=c/\c<=maxLen:=by
 have h':=h;obtain⟨h1,h2⟩:=h;obtain⟨q,_⟩|⟨g',cap,l_,q,hg,hh,r1,r2,r3,r4⟩:=h2
 .cases q
 .injection q with q1 q2 q3;injection q1 with q1;injection q1 with q1;subst q1 q2 q3;have hz:=(Array.getElem?_eq_some_iff.1 hh).1;refine⟨l_,⟨λo=>by simp[World.cell?,hh],λo=>by simp[World.frozen?,hh],hz⟩,ae,λk hk=>?_,rfl,r1,r2⟩;have e1:(List.take (xs.length*1) l_.toList)[k]? =xs[k]? :=by rw[r4]
  rw[List.getElem?_take_of_lt ae]at e1;rw[<-Array.getElem?_toList,e1,List.getElem?_eq_getElem hk]
def w_(g:Nat):∀(vs:List Value)(o:Nat)(w:World),Fr (λb=>b=g) w<|w.setCells g o vs
 |[],o,w=>Fr.refl _ _|v::vs,o,w=>((Fr.refl (λb=>b=g) w).set (b:=g) (qw rfl) o v).trans<|w_ g vs (o+1) _
def XZ w:(zeroValue 85).run xq w=.ok (Iv 0) w:=qkr
def Ff l p g w(e:Ending)w':=∃sa sc,e=.returned (.slice sa (kept p l).length sc)/\rQ w' (λb=>b=g) sa (kept p l)/\Fr (λb=>b=g) w w'
def Fg(eg:∀args w,(callFunc f args).run xq w=.ok (.enter f args) w){c:Nat}(ho:gM w 85 base (.slice (some ⟨g,0,none⟩) n c) (oM l))(hl:l.length<=1000000000000)(hp:agn f cs l p g w):
 Cq 293 #[.slice (some ⟨g,0,none⟩) n c,.func (.func f) #[] cs] w (Ff l p g w):=by
 have HI:=oN (p:=p) eg ho hl<|λW n hn hb=>(hp W n hn<|Fr.of hb).mono λe w'⟨h1,h2⟩=>⟨h1,h2▸xy _ _⟩;have⟨C,hx,EZ,hcv,hn,hnc,Ix⟩:=ago ho;rw[fk]at EZ hn;subst hn;have ali:∀k(h:k<l.length),C[k]? =some (Nv<|l[k]):=λk h=>by rw[hcv k (by rw[fk];exact h)];simp[oM]
 have HX:=ai hx;have HV:=ai ali;have amQ:c<=9223372036854775807:=by rw[maxLen]at Ix;omega
 go_enter func293,ntmps293;go_wp2_with fail;refine HI.mono ?_;rintro e w1⟨k,rfl,hk,K1⟩;have X1:=HX.below K1;obtain⟨rfl,UM⟩|⟨k0,hk0,rfl,hpk,mX⟩:=hk
 .have HA:=ai UM
  go_wp2
  go_ret;have e:kept p l=l:=List.filter_eq_self.2 λx hx=>by simp[uh HA x hx]
  rw[Ff];rw[e];exact⟨_,_,rfl,qv ⟨g,rfl,rfl,X1.z,λi hi=>by rw[X1.c i];exact HV i hi⟩,Fr.of K1⟩
 .have cR:((k0:Int)== -1)=false:=beq_eq_false_iff_ne.2 ae;have hkl:kept p (l.take k0)=l.take k0:=List.filter_eq_self.2 λx hx=>by
   have⟨i,hi,e⟩:=xh hx;rw[List.getElem_take]at e;rw[<-e,mX i MZ MZ];rfl
  have HK:kept p (l.take<|k0+1)=l.take k0:=by rw[Dt p l k0 hk0,hkl,hpk];simp
  go_wp2
  go_loopg[5,6] (l.length-(k0+1)) (λgk vi vj wr=>agm g l p w gk vi vj wr)
  case atStart=>
   refine⟨k0,k0+1,C,ai rfl,ae,ae,rfl,i_,ai (by rw[HK];simp;omega),X1,EZ,ai<|λk h=>?_,ai<|λk h _=>HV k h,Fr.of K1⟩;simp only[HK]at h⊢;rw[List.length_take]at h;rw[uh HV k ae,List.getElem_take]
  case round=>
   obtain⟨i,j,C1,cV,hij,bh,rfl,rfl,hi,X2,hC1,sH,hhi,F2⟩:=hrel;by_cases bA:j<l.length
   .have hd:(j:Int)<(l.length:Int):=ae;have hdi:(i:Int)<(l.length:Int):=ae;have cj:wr.cell? ⟨g,j,none⟩=some (Nv<|l[j]):=by rw[X2.c j];exact hhi j bA<|br _
    have hiC:i<C1.size:=by have:=uh hC1;omega
    have ci:wr.cell? ⟨g,i,none⟩=some C1[i]:=by rw[X2.c i];exact zi hiC
    have fi:=X2.f i;have HC:=hp wr l[j] (xc bA) F2;have HKS:=Dt p l j bA
    cases hq:p l[j]with
    |true=>
     rw[hq]at HC;generalize hxx:l[j]=xx at*;go_wp2_with(go_at_fn f;refine HC.mono ?_;rintro e w2⟨rfl,rfl⟩);go_roundg(l.length-(j+1))
     case measure=>rw[uh cV];omega
     case rel=>
      have ek:kept p (l.take<|j+1)=kept p (l.take j):=by rw[HKS,hq];simp
      refine⟨i,j+1,C1,ai rfl,ae,ae,rfl,i_,ai (by rw[ek];exact hi),X2,hC1,ai<|λk h=>?_,ai<|λk h hk=>hhi k h ae,F2⟩;simp only[ek]at h⊢;exact sH k h
    |false=>
     rw[hq]at HC;have X3:=X2.aT i (Nv<|l[j]) (C1.setIfInBounds i<|Nv<|l[j]) rfl hiC;generalize hxx:l[j]=xx at*;go_wp2_with(go_at_fn f;refine HC.mono ?_;rintro e w2⟨rfl,rfl⟩);go_roundg(l.length-(j+1))
     case measure=>rw[uh cV];omega
     case rel=>
      have ek:kept p (l.take<|j+1)=kept p (l.take j)++[xx]:=by rw[HKS,hq];simp
      have ei:=uh hi;refine⟨i+1,j+1,C1.setIfInBounds i<|Nv xx,ai rfl,ae,ae,i_,i_,ai (by rw[ek];simp[ei]),X3,ai (by simp;exact hC1),ai<|λk h=>?_,ai<|λk h hk=>?_,F2.set (qw rfl) i _⟩
      .simp only[ek]at h⊢;rw[lz,List.length_singleton]at h;by_cases e:k=i
       .subst e;rw[List.getElem_append_right ae];simp[hiC]
       .rw[zh<|zt e,List.getElem_append_left ae];exact sH k ae
      .rw[zh ae];exact hhi k h ae
   .have ej:j=l.length:=ae;subst ej;have hd:¬(l.length:Int)<(l.length:Int):=ae;have hic:¬c=i:=ae;have NH:∀ty,(Builtin.clear_ #[390] ty #[Lv (some ⟨g,i,none⟩) (l.length-i)<|c-i]).run xq wr=.ok (.tuple #[]) (wr.setCells g i<|List.replicate (l.length-i)<|Iv 0):=λty=>
     Lib.run_clear_slice wr _ _ ty _ Du XZ rfl rfl g i _ _ ae (λt ht=>by rw[X2.c<|i+t,zi (by have:=uh hC1;omega)];rfl) (λt _=>X2.f<|i+t)
    go_wp2
    go_ret;have ei:=uh hi;have F3:=w_ g (List.replicate (l.length-i)<|Iv 0) i wr;rw[qz]at ei;have alj:∀k(h:k<(kept p l).length),C1[k]? =some (Nv<|(kept p l)[k]):=by
     have:=uh sH;simp only[qz]at this;exact this
    rw[Ff];refine⟨some ⟨g,0,none⟩,c,by rw[<-ei];rfl,qv ⟨g,rfl,rfl,xm X2.z F3.size,λk hk=>?_⟩,F2.trans F3⟩;rw[World.cell?_setCells_out g _ i wr ⟨g,k,none⟩<|λ_ _=>qw (by show k<i;omega),X2.c k];exact alj k hk
end
def zQ(eg:∀args w,(callFunc f args).run xq w=.ok (.enter f args) w)(ho:gM w 85 base v (oM [])):
 Cq 293 #[v,.func (.func f) #[] cs] w λe w'=>∃sa sc,e=.returned (.slice sa 0 sc)/\Bq w w':=by
 have HI:=oN (p:=λ_=>false) (cs:=cs) eg ho ag (λW n hn _=>by simp at hn);obtain⟨va,vc,rfl⟩:=dM ho (n:=0) (by simp[oM]);go_enter func293,ntmps293;go_wp2_with fail;refine HI.mono ?_;rintro e w1⟨k,rfl,hk,K1⟩;have ek:k= -1:=by
  obtain⟨q,_⟩|⟨i,hi,_⟩:=hk
  .exact q
  .simp at hi
 subst ek
 go_wp2
 go_ret;exact⟨va,vc,rfl,K1⟩
open Classical in
noncomputable def fxB (Γ:jc) (κ:Nat->Ty) (v:Nat):Bool:=decide (qn Γ κ v)
def NI{cm}(h1:Bx W cb #[Mv cm])(h2:CM W cm (qn Γ κ) r)n:Cq 294 #[Nv n,Pv cb] W λe w'=>e=.returned (.bool<|fxB Γ κ n)/\w'=W:=by
 obtain⟨c1,f1,z1⟩:=h1;have⟨k,hl,_,hk⟩:=h2.look n;have HK:=ai hk;clear hk h2;go_enter func294,ntmps294
 go_wp2
 go_ret;refine⟨?_,rfl⟩;have:decide (0<k)=fxB Γ κ n:=by
  rw[fxB];rw[decide_eq_decide];exact HK
 rw[<-this];rfl
def NJ T:ju Γ κ T=kept (fxB Γ κ) (vars [] T):=by
 rw[ju,kept];congr 1;funext v;by_cases h:qn Γ κ v
 .simp[fxB,h]
 .simp[fxB,h]
def p7 P l w(e:Ending)w':=∃sa sc,e=.returned (.slice sa l.length sc)/\rQ w' P sa l/\Bq w w'
def acW(h:bS w P b Γ)(hk:KW w P kb κ)(hkb:P kb)(hf:wR κ)(hNL:∀x,Γ x≠none->x∈NL)(hNl:NL.length<=1000000)(agk:∀x c,Γ x=some c->c.any.length<=1000000000000)(ht:cX w Q (bK T) v)(hz:size (bK T)<=1000000000000):
 Cq 287 #[Mv b,Mv kb,v] w (p7 (λi=>w.heap.size<=i) (ju Γ κ T) w):=by
 have HF:=acV h hk hkb hf hNL hNl agk;obtain⟨ta,xa,rfl⟩:=ht.iface;go_enter func287,ntmps287;go_wp2_with fail;refine HF.mono ?_;rintro e w1⟨cm,r,rfl,Ix,hr,hC,k1⟩;have⟨k2,B2⟩:=oF w1 #[Mv cm] 155;have K2:=k1.trans<|k2.mono k1.size;have C2:=hC.same<|k2.block cm hC.lt;have zc:=hC.lt;have z1:=k1.size;have HV:=fO (ht.af K2) hz;go_wp2_with fail;refine HV.mono ?_;rintro e w3⟨V,rfl,ho,k3⟩;rw[gZ]at ho;have zP:(vars [] T).length<=1000000000000:=by
  have h1:=gZ T;rw[<-h1,cC];have h2:=cY (occs<|bK T) [];have h3:=cZ<|bK T;simp only[qP]at h2;omega
 have e0:=NJ (Γ:=Γ) (κ:=κ) T;have K3:=K2.trans<|k3.mono K2.size;have z3:=k3.size;rw[ba]at z3;have B3:=B2.below k3;have C3:=C2.same (k3.block cm (by rw[ba];omega));have iT:=iU ho;rw[ba]at iT;by_cases hl:vars [] T=[]
 .rw[hl]at ho e0;have HD:=zQ (cs:=#[Pv w1.heap.size]) (enters_of Tryz.func294 qkr rfl) ho;obtain⟨va,vc,rfl⟩:=dM ho (n:=0) (by simp[oM]);go_wp2_with fail;refine HD.mono ?_;rintro e w4⟨sa,sc,rfl,K4⟩
  go_wp2
  go_ret;have k:=K3;rw[p7];rw[e0];exact⟨sa,sc,rfl,qw rfl,k.trans<|K4.mono k.size⟩
 .have acX:0<(oM<|vars [] T).length:=by rw[fk];exact xo<|λe=>hl<|xf e
  obtain⟨g,cp,m,rfl,hg,iP,_⟩:=iB ho acX;rw[ba]at hg;have HD:=Fg (p:=fxB Γ κ) (enters_of Tryz.func294 qkr rfl) ho zP (cs:=#[Pv w1.heap.size])<|λW n hn hF=>NI (B3.fr hF ae) (C3.same<|hF.block cm ae ae) n;go_wp2_with fail;refine HD.mono ?_;rintro e w4⟨sa,sc,rfl,HV4,F4'⟩
  go_wp2
  go_ret;have f:=F4';have k:=K3;rw[p7];rw[e0];refine⟨sa,sc,rfl,?_,⟨f.os.trans k.os,f.tape.trans k.tape,f.output.trans k.output,xk k.size f.size,λi hi=>(f.block i (by have:=k.size;omega) ae).trans<|k.block i hi⟩⟩;exact HV4.move (br _) (λ_ _ _=>rfl) (λi p _=>by show w.heap.size<=i;omega)
structure WC where
 (eb cb rb mb nb gh:Nat)
 mks:jp
 nl:List BA
abbrev agp(c:WC):Array Value:=#[.func (.func 32) #[] #[Pv c.cb],Mv c.rb,Mv c.mb,Mv c.nb]
def Ja w b:=∃L,MG xw w b L/\a_ lB L=some (.func (.func 87) #[] #[])/\a_ gp L=some (.func (.func 87) #[] #[])/\a_ jB L=some (.func (.func 87) #[] #[])/\a_ iC L=some (.func (.func 88) #[] #[])
def X6 w P(sa:Option Addr)l:=l=[]\/∃(g:Nat)(vs:Nat->Value),sa=some ⟨g,0,none⟩/\P g/\g<w.heap.size/\∀i(h:i<l.length),w.cell? ⟨g,i,none⟩=some (vs i)/\dD w P l[i] (vs i)
def W7 w P tk m(v:Value):=∃sa sc ta xa,v=.agg #[.slice sa tk.length sc,.iface ta xa]/\X6 w P sa tk/\dD w P m (.iface ta xa)
def nh w P b(mk:jp):=∃L,MG xw w b L/\(∀x,a_ x L=none->mk x=none)/\∀x v,a_ x L=some v->∃tk m,mk x=some (tk,m)/\W7 w P tk m v
abbrev dt(c:WC)i:=i≠c.cb
structure WE w c cnt:Prop where
 bx:Bx w c.eb (agp c)
 ct:Bx w c.cb #[Nv cnt]
 rs:Ja w c.rb
 ms:nh w (λi=>i≠c.cb/\i<c.gh) c.mb c.mks
 d:c.eb≠c.cb/\c.rb≠c.cb/\c.mb≠c.cb
 l:c.eb<c.gh/\c.cb<c.gh/\c.rb<c.gh/\c.mb<c.gh/\c.gh<=w.heap.size
section
variable {c:WC} {cnt:Nat}
theorem X6.move{sa}{l}(h:X6 w P sa l)(hs:w.heap.size<=w'.heap.size)(hb:∀b,P b->b<w.heap.size->w'.heap[b]? =w.heap[b]?)(hq:∀b,P b->b<w.heap.size->Q b):X6 w' Q sa l:=by
 obtain h|⟨g,vs,h1,h2,h3,h4⟩:=h
 .exact qw h
 .exact qv ⟨g,vs,h1,hq g h2 h3,xm h3 hs,λi hi=>⟨(xt (a:=⟨g,i,none⟩)<|hb g h2 h3).trans (h4 i hi).1,(h4 i hi).2.move hs hb hq⟩⟩
theorem nh.move{b}{mk}(h:nh w P b mk)(hs:w.heap.size<=w'.heap.size)(bP:w'.heap[b]? =w.heap[b]?)(hb:∀b,P b->b<w.heap.size->w'.heap[b]? =w.heap[b]?)(hq:∀b,P b->b<w.heap.size->Q b):nh w' Q b mk:=by
 obtain⟨L,h1,h2,h3⟩:=h;refine⟨L,h1.same bP,h2,λx v hx=>?_⟩;obtain⟨tk,m,e,sa,sc,ta,xa,rfl,q1,q2⟩:=h3 x v hx;exact⟨tk,m,e,sa,sc,ta,xa,rfl,q1.move hs hb hq,q2.move hs hb hq⟩
def nh.lt{b}{mk}(h:nh w P b mk):b<w.heap.size:=qAr
def Ja.same{b}(h:Ja w b)(hb:w'.heap[b]? =w.heap[b]?):Ja w' b:=qAs
def Ja.lt{b}(h:Ja w b):b<w.heap.size:=qAr
def WE.fr(h:WE w c cnt)(hf:Fr (λi=>i=c.cb\/c.gh<=i) w w'){aE}(hc:Bx w' c.cb #[Nv aE]):WE w' c aE:=by
 have⟨l1,l2,l3,l4,l5⟩:=h.l;have⟨d1,d2,d3⟩:=h.d;exact⟨h.bx.fr hf ae,hc,h.rs.same<|hf.block _ h.rs.lt ae,h.ms.move hf.size (hf.block _ h.ms.lt ae) (λb p z=>hf.block b z ae)<|λ_ p _=>p,h.d,⟨l1,l2,l3,l4,xk l5 hf.size⟩⟩
def Fr.gh{S T}(h:Fr S w w')(hs:∀i,S i->T i):Fr T w w':=⟨h.os,h.tape,h.output,h.size,λk hk hn=>h.block k hk λq=>hn<|hs k q⟩
def WE.frc(h:WE w c cnt)(hf:Fr (λi=>i=c.cb) w w')(hc:Bx w' c.cb #[Nv aE]):WE w' c aE:=h.fr (hf.gh λ_ q=>qw q) hc
def WE.one{b}(h:WE w c cnt)(o:One b w w')(hb:c.gh<=b):WE w' c cnt:=h.fr ⟨o.os,o.tape,o.output,UE,λi _ hi=>o.block i λe=>hi<|qv<|e▸hb⟩ (h.ct.one o (by have:=h.l;omega))
def WE.af(h:WE w c cnt)(hb:Bq w w'):WE w' c cnt:=h.frc (Fr.of hb)<|h.ct.below hb
def WE.di(h:WE w c cnt):c.cb<w.heap.size:=h.ct.z
end
def us cnt n:=1<=n/\n<=cnt
section
variable {c:WC} {cnt:Nat}
def oO n(hn:n<=1000000)(h:Bx w cb #[Nv n]):Cq 32 #[Pv cb] w λe w'=>e=.returned (Iv<|(n:Int)+1)/\w'=w.setCell ⟨cb,0,none⟩ (Iv<|(n:Int)+1):=by
 obtain⟨c,f,z⟩:=h;go_enter func32,ntmps32
 go_wp2
 go_ret;exact⟨rfl,rfl⟩
def WE.fresh(h:WE w c cnt):WE (w.setCell ⟨c.cb,0,none⟩<|Iv<|(cnt:Int)+1) c (cnt+1)/\Fr (λi=>i=c.cb) w (w.setCell ⟨c.cb,0,none⟩<|Iv<|(cnt:Int)+1):=by
 have F:Fr (λi=>i=c.cb) w (w.setCell ⟨c.cb,0,none⟩<|Iv<|(cnt:Int)+1):=(Fr.refl (λi=>i=c.cb) w).set (b:=c.cb) (qw rfl) 0 _;have:=h.ct.aT 0 (Iv<|(cnt:Int)+1) #[Iv<|(cnt:Int)+1] rfl ag;exact⟨h.frc F<|by simpa using this,F⟩
def rl cnt(l:List Nat)v:=if v∈l then some (cnt+1+l.idxOf v)else none
def anD(cnt:Nat)(l:List Nat)(j:Nat)(v:Nat):Option Ty:=if v∈l.take j then some (.var<|cnt+1+l.idxOf v)else none
def Jb{v v'}(hv:v∈l)(ND:v'∈l)(e:l.idxOf v=l.idxOf v'):v=v':=by
 have h1:=List.getElem_idxOf<|List.idxOf_lt_length_iff.2 hv;have h2:=List.getElem_idxOf<|List.idxOf_lt_length_iff.2 ND;simp only[e]at h1;exact h1.symm.trans h2
def Dv(cnt:Nat)(l:List Nat)(hn:l.Nodup){u:Nat->Prop}(hu:∀n,u n->us cnt n):qp l qe (rl cnt l) u (λn=>u n\/(cnt<n/\n<=cnt+l.length)) where
 eW v n h:=MO
 out v h:=by simp[rl,h,qe]
 all v h:=by simp[rl,h]
 new v n _ h q:=by
  have:=hu n q;rw[rl]at h;split at h
  .injection h with h;rw[us]at this;omega
  .cases h
 one v v' n _ h1 h2:=by
  rw[rl]at h1 h2;split at h1<;>split at h2
  .injection h1 with h1;injection h2 with h2;rename_i a b;exact Jb a b ae
  .cases h2
  .cases h1
  .cases h1
 use n:=by
  constructor
  .rintro(h|h)
   .exact qw h
   .right;have hi:n-cnt-1<l.length:=ae;refine⟨l[n-cnt-1],rfl,?_⟩;rw[rl];rw[if_pos<|xc hi,hn.idxOf_getElem (n-cnt-1) hi];congr 1;omega
  .rintro(h|⟨v,_,h⟩)
   .exact qw h
   .rw[rl]at h;split at h
    .rename_i hv;injection h with h;have:=List.idxOf_lt_length_iff.2 hv;exact qv ae
    .cases h
def ai4 c cnt l w gk v wr:=
 ∃j:Nat,Hid (gk=l.length-j)/\j<=l.length/\v=Nv j/\WE wr c (cnt+j)/\fC wr (λi=>i≠c.cb/\i≠w.heap.size) w.heap.size (anD cnt l j)/\Fr (λi=>i=c.cb) w wr/\Hid (w.heap.size<wr.heap.size)
def Jc c cnt l w(e:Ending)w':=
 ∃b,e=.returned (Mv b)/\w.heap.size<=b/\WE w' c (cnt+l.length)/\fC w' (dt c) b (λv=>(rl cnt l v).map Ty.var)/\Fr (λi=>i=c.cb) w w'
def X7(h:WE w c cnt)(hv:rQ w (dt c) sa l)(hn:l.Nodup)(hz:cnt+l.length<=1000000):Cq 277 #[Pv c.eb,.slice sa l.length sc] w (Jc c cnt l w):=by
 have iZ:= @run_makeMap Tryz.prog;have k1:Bq w (w.alloc<|.map #[] 0):=bw _;have zc:=h.di;have W1:=h.af k1;have alk:=ai h.l.2.2.2.2;have S1:=fC.new w<|λi=>i≠c.cb/\i≠w.heap.size;have K1:=ai k1;go_enter func277,ntmps277
 go_wp2
 go_loopg[11] l.length (λgk v wr=>ai4 c cnt l w gk v wr)
 case atStart=>
  refine⟨0,ai ag,xn _,rfl,W1,?_,Fr.of K1,ai ag⟩;have e:anD cnt l 0=λ_=>none:=by funext v;simp[anD]
  rw[e];exact S1
 case round=>
  obtain⟨j,cV,hj,rfl,HW,HS,HF,hzz⟩:=hrel;by_cases bh:j<l.length
  .have hd:(j:Int)<(l.length:Int):=ae;obtain⟨g,rfl,hg,iP,bQ⟩:=hv.resolve_left<|λe=>qBs;have cg:=(xt (a:=⟨g,j,none⟩)<|HF.block g iP hg).trans<|bQ j bh;obtain⟨m,hm⟩:∃m,Hid<|m=cnt+j:=⟨_,ai rfl⟩;rw[<-uh hm]at HW;have HC:=oO m (by have:=uh hm;omega) HW.ct;have⟨HW2,F2⟩:=HW.fresh;have S3:=HS.fr F2 (λe=>ae)<|λi p _=>p.1;have⟨c1,f1,z1⟩:=HW.bx;have yE:=HF.trans F2;have nz:=HW.d.1;have ZZ:w.heap.size<(wr.setCell ⟨c.cb,0,none⟩<|Iv<|(m:Int)+1).heap.size:=(by have:=uh hzz;simp[World.setCell];exact this);have T3:cX (wr.setCell ⟨c.cb,0,none⟩<|Iv<|(m:Int)+1) (λi=>i≠c.cb/\i≠w.heap.size) (.var<|m+1) (Fv 85<|Iv<|(m:Int)+1):=(by have:=cX.var (w:=wr.setCell ⟨c.cb,0,none⟩<|Iv<|(m:Int)+1) (P:=λi=>i≠c.cb/\i≠w.heap.size)<|m+1;simpa using this);generalize hx:l[j]=xx at*;go_wp2_with fail;refine HC.mono ?_;rintro e w3⟨rfl,rfl⟩;go_wp2_with(refine lC iD rfl _ _ _ (qv rfl) rfl S3 (λq=>q.2 rfl) T3 xx rfl rfl ?_;intro w4 H' O';have S4:=ai H';have O4:=ai O';clear H' O');go_roundg(l.length-(j+1))
   case measure=>rw[uh cV];omega
   case rel=>
    have o:=uh O4;have em:=uh hm;have fo:Fr (λi=>i=w.heap.size) (wr.setCell ⟨c.cb,0,none⟩<|Iv<|(m:Int)+1) w4:=⟨o.os,o.tape,o.output,UE,λi _ hi=>o.block i hi⟩;refine⟨j+1,ai rfl,ae,i_,?_,?_,?_,ai (by rw[o.size];exact ZZ)⟩
    .have hw:=HW2;have e:cnt+(j+1)=m+1:=ae;rw[e];exact hw.one o alk
    .have e:anD cnt l (j+1)=d_ (anD cnt l j) xx (some<|.var<|m+1):=by
      funext v;rw[anD,d_];have agq:v∈l.take (j+1)↔v∈l.take j\/v=xx:=by rw[qy bh,hx,xj,xi]
      by_cases q:v=xx
      .subst q;have:l.idxOf v=j:=by rw[<-hx];exact hn.idxOf_getElem j bh
       rw[if_pos<|agq.2<|qv rfl,if_pos rfl,this,em];congr 2;omega
      .rw[if_neg q];by_cases r:v∈l.take j
       .rw[if_pos<|agq.2<|qw r];exact(if_pos r).symm
       .rw[if_neg<|λh=>(agq.1 h).elim r q];exact(if_neg r).symm
     rw[e];exact S4
    .have f:=yE;exact⟨o.os.trans f.os,o.tape.trans f.tape,o.output.trans f.output,by rw[o.size];exact f.size,λi hi hni=>(o.block i ae).trans<|f.block i hi hni⟩
  .have hd:decide ((j:Int)<(l.length:Int))=false:=bD;have ej:j=l.length:=ae;subst ej
   go_wp2
   go_ret;refine⟨w.heap.size,rfl,br _,HW,?_,HF⟩;have e:anD cnt l l.length=λv=>(rl cnt l v).map Ty.var:=by
    funext v;rw[anD,rl];rw[qz];by_cases q:v∈l
    .rw[if_pos q,if_pos q];rfl
    .rw[if_neg q,if_neg q];rfl
   rw[<-e];exact HS.wide λi p=>p.1
structure WK w c cnt(s:jd)kb:Prop where
 k:KW w (dt c) kb s.k
 n:kb≠c.cb
 u:∀n,s.u n->us cnt n
 ok:In.Ok s
 wh:∀n,Whole<|s.k n
def NK{cnt}(hn:l.Nodup)(h:∀n,n∈l->us cnt n):l.length<=cnt:=by
 have:=ER (V:=(List.range cnt).map (·+1)) hn λx hx=>by
  have q:=h x hx;rw[us]at q;exact List.mem_map.2 ⟨x-1,List.mem_range.2 ae,ae⟩
 simpa using this
def WK.Jd(h:WK w c cnt s kb)(hc:cnt<=1000000)(h1:1<=cnt\/True):wR s.k where
 wh:=h.wh
 len n:=by
  by_cases q:s.u n
  .refine xk (NK (de _ q9) λm hm=>?_) hc;exact h.u m (h.ok.use n m q<|by simpa using(bJ (s.k n) [] m).1 hm)
  .rw[h.ok.out n q];simp[vars,Un.seen]
structure WG w c s Λ(Γ:jc)gb:Prop where
 e:bS w (dt c) gb Γ
 n:gb≠c.cb
 i:j3 Λ s Γ
 nd:∀y d,Γ y=some d->d.any.Nodup
 dm:∀x,Γ x≠none->x∈c.nl
def kw w:(zeroValue 393).run xq w=.ok (.agg #[.nilIface,.slice none 0 0]) w:=qkr
def X8 c(d:jy)f t(s:jd)cnt w(e:Ending)w':=Fr (λi=>i=c.cb) w w'/\
 ((48<size (sub s.k d.of)/\WE w' c cnt/\e=.panicked [{v:=guW ⟨7,f,t⟩ .nilIface .nilIface,recovered:=false}])\/
  (size (sub s.k d.of)<=48/\WE w' c (cnt+d.any.length)/\∃ta xa,e=.returned (.iface ta xa)/\cX w' (dt c) (sub (jm<|rl cnt d.any)<|sub s.k d.of) (.iface ta xa)))
def Qy cnt l:EV (λv=>(rl cnt l v).map Ty.var)=jm (rl cnt l):=by
 funext v;show((rl cnt l v).map Ty.var).getD (.var v)=_;rw[jm]
 cases rl cnt l v<;>rfl
mutual
def iE(ρ:jq):∀t,size (sub (jm ρ) t)=size t
 |.var n=>by simp only[sub,jm];split<;>simp[size]|.aJ c l=>by simp only[sub,size,Dw ρ l]
def Dw(ρ:jq):∀l,ah (aP (jm ρ) l)=ah l
 |[]=>rfl|t::l=>by simp only[aP,ah,iE ρ t,Dw ρ l]
end
def p8(ρ:jq)t(h:Whole t):Whole (sub (jm ρ) t):=cd t h λn _=>by rw[jm];split<;>trivial
end
abbrev Dx(f:Fl)(vl vr:Value):Ending:=.panicked [{v:=guW f vl vr,recovered:=false}]
def agr(c:WC)(S:Nat)(s:jd)(cnt:Nat)(w':World)(aE:Nat)(e:Ending)(o:Except qi (Ty×jd)):Prop:=match o with
 |.ok (T,s')=>(∀n,s'.u n->s.u n\/(cnt<n/\n<=aE))/\(∀n,Whole<|s'.k n)/\∃ta xa kb,e=.returned (.tuple #[.iface ta xa,Mv kb])/\kb≠c.cb/\KW w' (dt c) kb s'.k/\TW w' (dt c) S T (.iface ta xa)|.error z=>∃vl vr,e=Dx z.f vl vr/\rM w' (dt c) z vl vr
def bi c S D(p:jh Ty)(s:jd)cnt w e w':=Fr (λi=>i=c.cb) w w'/\∃aE o,cnt<=aE/\aE<=cnt+D/\WE w' c aE/\p s o/\agr c S s cnt w' aE e o
structure Fit(c:WC)cnt n:Prop where
 a:cnt+1000*n<=850000
 b:n<=805
 l:c.nl.length<=1000000
def Fit.le{c:WC}{cnt n'}(h:Fit c cnt n)(h1:aE+1000*n'<=cnt+1000*n)(h2:n'<=n):Fit c aE n':=⟨by have:=h.a;omega,by have:=h.b;omega,h.l⟩
section
variable {c:WC} {cnt:Nat}
def WG.fr{s'}(h:WG w c s Λ Γ gb)(hf:Fr (λi=>i=c.cb) w w')(hr:In.M5 Λ s s'):WG w' c s' Λ Γ gb:=⟨h.e.fr hf h.n<|λ_ p _=>p,h.n,h.i.run hr,h.nd,h.dm⟩
def WG.af(h:WG w c s Λ Γ gb)(hb:Bq w w'):WG w' c s Λ Γ gb:=⟨h.e.af hb,h.n,h.i,h.nd,h.dm⟩
def WK.af(h:WK w c cnt s kb)(hb:Bq w w'):WK w' c cnt s kb:=⟨h.k.af hb,h.n,h.u,h.ok,h.wh⟩
structure Fh(w w1:World)c ak(s s1:jd)(Λ:Nat->Prop)jI:Prop where
 k:WK w1 c ak s1 jI
 n:∀n,¬s1.u n->Λ n
 p:qh Λ s s1
def X9(hk:WK w c cnt s kb)(hn:∀n,¬s.u n->Λ n)(hg:WG w c s Λ Γ gb)(hp:jf mk x Γ s (.ok (T,s1)))(hu:∀n,s1.u n->s.u n\/(cnt<n/\n<=ak))(p9:cnt<=ak)(hw:∀n,Whole<|s1.k n)(h4:jI≠c.cb)(h5:KW w1 (dt c) jI s1.k):Fh w w1 c ak s s1 Λ jI/\jj Λ s1 T:=by
 have⟨g1,g2⟩:=In.mD mk x Γ s Λ hk.ok hn hg.i T s1 hp;exact⟨⟨⟨h5,h4,λn q=>by obtain r|r:=hu n q;have:=hk.u n r;unfold us at*;omega;rw[us];omega,g1.ok,hw⟩,g1.new,g1⟩,g2⟩
def ni c cnt(s:jd)Λ x y f t w e w':=Bq w w'/\∃o,jo x y f t s o/\match o with
 |.ok (_,s')=>qh Λ s s'/\∃b,e=.returned (Mv b)/\WK w' c cnt s' b|.error z=>∃vl vr,e=Dx z.f vl vr/\rM w' (dt c) z vl vr
def Fi{p:Prop}(h:p:=by
 obtain⟨_,q'⟩|⟨_,_,⟨θ,_,q'⟩|⟨_,q'⟩⟩:=ho
 .cases q'
 .grind
 .cases q'):p:=h
def ai5(h:WE w c cnt)(hk:WK w c cnt s kb)(hn:∀n,¬s.u n->Λ n)(hc:cnt<=1000000)(hS:S<=900000){x:Ty}(hx:TW w (dt c) S x v)(hy:TW w (dt c) S y u)(tx:jj Λ s x)(ty:jj Λ s y)f t:
 Cq 252 #[Mv kb,v,u,.agg #[Nv f,Nv t]] w (ni c cnt s Λ x y f t w):=by
 have zc:=h.di;refine(IQ hk.k hk.n (hk.Jd hc<|qv trivial) hS hx hy f t s.u).mono ?_;rintro e w1⟨k1,o,ho,hm⟩;refine⟨k1,o,ho,?_⟩
 cases o with
 |ok q=>
  obtain⟨b,rfl,hb,hK,hW⟩:=hm;have⟨g1,_⟩:=In.fG (s:=s) hk.ok hn tx ty f t q.1 q.2 ho;have hu:q.2.u=s.u:=by
   exact Fi
  exact⟨g1,b,rfl,⟨hK.wide λi p=>by obtain p|p:=p;exact p;show i≠c.cb;omega,ae,λn q=>hk.u n<|hu▸q,g1.ok,hW⟩⟩
 |error z=>
  obtain⟨vl,vr,rfl,hF⟩:=hm;refine⟨vl,vr,rfl,hF.q_,λq=>?_,hF.k⟩;have wd:∀i,(dt c i\/w.heap.size<=i)->dt c i:=λi p=>by obtain p|p:=p;exact p;show i≠c.cb;omega
  exact⟨(hF.apart q).1.wide wd,(hF.apart q).2.wide wd⟩
def ags(s:jd)x y:=size (sub s.k x)<=48/\size (sub s.k y)<=48/\∃σ,sub σ (sub s.k x)=sub σ (sub s.k y)
def Je c cnt(s:jd)Λ x y f t w(e:Ending)w':=∃b,e=.returned (Mv b)/\Bq w w'/\∃s',jo x y f t s (.ok ((),s'))/\qh Λ s s'/\WK w' c cnt s' b/\s'.u=s.u
def X_ c(s:jd)x y f t w e w':=∃fl vl vr,e=Dx fl vl vr/\Bq w w'/\∃z,z.f=fl/\jo x y f t s (.error z)/\rM w' (dt c) z vl vr
def ni.ok{x y}{f t}{e}(h:ni c cnt s Λ x y f t w e w')(hc:ags s x y):Je c cnt s Λ x y f t w e w':=by
 obtain⟨k1,o,ho,hm⟩:=h;obtain⟨a1,a2,σ,a3⟩:=hc
 cases o with
 |ok q=>
  obtain⟨g,b,rfl,hk⟩:=hm;refine⟨b,rfl,k1,q.2,ho,g,hk,?_⟩;exact Fi
 |error z=>
  exfalso;obtain⟨r,_⟩|⟨_,_,⟨θ,_,q'⟩|⟨r,_⟩⟩:=ho
  .omega
  .cases q'
  .exact r σ a3
def ni.no{x:Ty}(h:ni c cnt s Λ x y f t w e w')(hc:¬ags s x y):X_ c s x y f t w e w':=by
 obtain⟨k1,o,ho,hm⟩:=h
 cases o with
 |ok q=>
  exfalso;obtain⟨_,q'⟩|⟨a1,a2,⟨θ,uW,q'⟩|⟨_,q'⟩⟩:=ho
  .cases q'
  .exact hc ⟨a1,a2,θ,uW.one⟩
  .cases q'
 |error z=>
  obtain⟨vl,vr,rfl,hF⟩:=hm;exact⟨z.f,vl,vr,rfl,k1,z,rfl,ho,hF⟩
end
structure Fk nd c w cnt(s:jd)kb(Λ:Nat->Prop)(Γ:jc)gb Q dom v:Prop where
 we:WE w c cnt
 wk:WK w c cnt s kb
 hn:∀n,¬s.u n->Λ n
 wg:WG w c s Λ Γ gb
 pe:PE w Q nd v
 hq:∀b,Q b->b≠c.cb
 sc:ScE c.mks c.nl dom nd
 hd:∀x,dom x->Γ x≠none
 ft:Fit c cnt (nn nd)
 mf:MkFine c.mks
def Dy nd:=∀(c:WC)(w:World)(cnt:Nat)(s:jd)(kb:Nat)(Λ:Nat->Prop)(Γ:jc)(gb:Nat)(Q:Nat->Prop)(dom:BA->Prop)(v:Value),Fk nd c w cnt s kb Λ Γ gb Q dom v->
 Cq 251 #[Pv c.eb,Mv kb,Mv gb,v] w (bi c (1100*nn nd) (1000*nn nd) (jf c.mks nd Γ) s cnt w)
section
variable {c:WC} {cnt:Nat}
def Fk.part(h:Fk nd c w cnt s kb Λ Γ gb Q dom v)(hb:Bq w w1)(hp:PE w Q x u)(hs:ScE c.mks c.nl dom x)(hx:nn x<=nn nd):Fk x c w1 cnt s kb Λ Γ gb Q dom u:=
 ⟨h.we.af hb,h.wk.af hb,h.hn,h.wg.af hb,hp.af hb,h.hq,hs,h.hd,h.ft.le ae hx,h.mf⟩
end
section
variable {c:WC} {cnt:Nat}
def Jf(mk:jp)s n x y f t a(Γ:jc):jf mk (.mk 8 s n [x,y] f t a) Γ=ja (jf mk x Γ) λa=>ja (jf mk y Γ) λb=>ja jx λv=>ja (jo a (j9 b<|.var v) f t) λ_=>jk<|.var v:=by simp[jf,jz,qm,j6]
def zR(h:WK w c cnt s kb)(hn:∀n,¬s.u n->Λ n)(hf:Fr (λi=>i=c.cb) w w1):jx s (.ok (cnt+1,⟨s.k,λn=>s.u n\/n=cnt+1⟩))/\Fh w w1 c (cnt+1) s ⟨s.k,λn=>s.u n\/n=cnt+1⟩ Λ kb/\jj Λ ⟨s.k,λn=>s.u n\/n=cnt+1⟩ (.var<|cnt+1):=by
 have hm:jx s (.ok (cnt+1,⟨s.k,λn=>s.u n\/n=cnt+1⟩)):=⟨cnt+1,λq=>by have:=h.u _ q;rw[us]at this;omega,rfl⟩;have⟨g1,g2,_⟩:=In.im h.ok hn _ _ hm;exact⟨hm,⟨⟨h.k.fr hf h.n<|λ_ p _=>p,h.n,λn q=>by obtain q|q:=q;have:=h.u n q;unfold us at*;omega;rw[us];omega,g1.ok,h.wh⟩,g1.new,g1⟩,g2⟩
def aff:CN m9:=qw rfl
def X':m9≠sK:=by grind[sK]
def Ya:lq≠sK:=by grind[sK]
def TW.fn{S1 S2}{a b}{va vb}(ha:TW w (dt c) S1 a va)(hb:TW w (dt c) S2 b vb)(hc:c.cb<w.heap.size):TW (w.alloc<|.cells #[va,vb] 56) (dt c) (1+S1+S2) (j9 a b) (.iface 153<|.agg #[.string<|pn m9,.slice (some ⟨w.heap.size,0,none⟩) 2 2]):=by
 obtain⟨⟨x1,y1,e1,z1⟩,wx⟩:=ha;obtain⟨⟨x2,y2,e2,z2⟩,wy⟩:=hb;exact⟨⟨.aJ m9 [x1,x2],nj.ty aff y1 y2 (by show w.heap.size≠c.cb;omega),dO.agt m9 X' e1 e2,by simp only[size,ah];omega⟩,⟨X',wx,wy,trivial⟩⟩
def acY{s}{a b}(ha:jj Λ s a)(hb:jj Λ s b):jj Λ s (j9 a b):=by
 refine⟨λn q=>?_,λn q=>?_⟩
 .simp only[aB,bX,or_false]at q;exact q.elim (ha.use n)<|hb.use n
 .simp only[sub,aP,aB,bX,or_false]at q;exact q.elim (ha.loc n)<|hb.loc n
def ni.or{x}(h:ni c cnt s Λ x y f t w e w'):X_ c s x y f t w e w'\/Je c cnt s Λ x y f t w e w':=by
 by_cases hc:ags s x y
 .exact qv (h.ok hc)
 .exact qw (h.no hc)
end
section
variable {c:WC} {cnt:Nat}
def NN(mk:jp)s n x f t a(Γ:jc):jf mk (.mk 9 s n [x] f t a) Γ=ja jx λv=>ja (jf mk x<|ji Γ s<|ql<|.var v) λa=>jk<|j9 (.var v) a:=by simp[jf,jz,qm,j6]
def p_ w c n S(h:1<=S):TW w (dt c) S (.var<|n+1) (.iface 85<|Iv<|(n:Int)+1):=TW.of (x:=.var<|n+1) (by have:=cX.var (w:=w) (P:=dt c)<|n+1;simpa using this) trivial (by simpa[size]using h)
def Jg(h:TW w (dt c) S T (.iface ta xa))(hS:S<=900000):oh w (dt c) (ql T) (.agg #[.iface ta xa,.slice none 0 0]):=⟨ta,xa,none,0,rfl,h.le hS,qw rfl⟩
def WG.set{w':World}{Yb:Nat}{d:jy}{x:BA}(h:WG w c s Λ Γ gb)(he:bS w' (dt c) Yb (ji Γ x d))(hn:Yb≠c.cb)(hi:In.nZ Λ s d)(hd:d.any.Nodup)(hx:x∈c.nl):WG w' c s Λ (ji Γ x d) Yb where
 e:=he
 n:=hn
 i:=h.i.set x hi
 nd y d' q:=by
  rw[ji]at q;split at q
  .grind
  .exact h.nd y d' q
 dm y q:=by
  rw[ji]at q;split at q
  .rename_i e;rw[e];exact hx
  .exact h.dm y q
def Fm{x}(h:∀y,dom y->Γ y≠none):∀y,(dom y\/y=x)->ji Γ x d y≠none:=λy q=>by
 rw[ji];split
 .simp
 .grind
end
structure acZ(c:WC)S D(m:jh Ty)(s:jd)cnt w(ak:Nat)(T:Ty)(s1:jd)(ta:TypeId)(xa:Value)(jI:Nat)(w':World):Prop where
 F:Fr (λi=>i=c.cb) w w'
 c1:cnt<=ak
 c2:ak<=cnt+D
 we:WE w' c ak
 m:m s (.ok (T,s1))
 u:∀n,s1.u n->s.u n\/(cnt<n/\n<=ak)
 wh:∀n,Whole<|s1.k n
 n:jI≠c.cb
 k:KW w' (dt c) jI s1.k
 t:TW w' (dt c) S T (.iface ta xa)
structure agu{α:Type}(c:WC)D(m:jh α)(s:jd)cnt w(ak:Nat)(z:qi)(vl vr:Value)(w':World):Prop where
 F:Fr (λi=>i=c.cb) w w'
 c1:cnt<=ak
 c2:ak<=cnt+D
 we:WE w' c ak
 m:m s (.error z)
 f:rM w' (dt c) z vl vr
section
variable {c:WC} {cnt:Nat} {m:jh α} {g:α->jh Ty} {a:α}
def Qz{p:Prop}(h:p:=by
 split
 .obtain⟨q1,q2⟩:=h5;refine⟨λn q=>?_,q2⟩;obtain r|r:=q1 n q
  .grind
  .omega
 .exact h5):p:=h
def bi.and(h:bi c S D1 (g a) s1 ak w1 e w')(hm:m s (.ok (a,s1)))(hf:Fr (λi=>i=c.cb) w w1)(hc:cnt<=ak)(hu:∀n,s1.u n->s.u n\/(cnt<n/\n<=ak))(hD:ak+D1<=cnt+D):bi c S D (ja m g) s cnt w e w':=by
 obtain⟨F,aE,o,h1,h2,h3,h4,h5⟩:=h;refine⟨hf.trans F,aE,o,ae,ae,h3,qv ⟨a,s1,hm,h4⟩,?_⟩;unfold agr at*;exact Qz
def QA{p:Prop}(h:p:=by
 obtain⟨vl,vr,rfl,hF⟩:=h5
 exact qw ⟨aE,z,vl,vr,rfl,F,h1,h2,h3,h4,hF⟩):p:=h
def bi.split{m}(h:bi c S D m s cnt w e w'):(∃ak z vl vr,e=Dx z.f vl vr/\agu c D m s cnt w ak z vl vr w')\/(∃ak T s1 ta xa jI,e=.returned (.tuple #[.iface ta xa,Mv jI])/\acZ c S D m s cnt w ak T s1 ta xa jI w'):=by
 obtain⟨F,aE,o,h1,h2,h3,h4,h5⟩:=h;obtain z|⟨T,s1⟩:=o
 .exact QA
 .obtain⟨q1,q2,ta,xa,kb,rfl,q3,q4,q5⟩:=h5;exact qv ⟨aE,T,s1,ta,xa,kb,rfl,F,h1,h2,h3,h4,q1,q2,q3,q4,q5⟩
def agu.post(h:agu c D1 m s cnt w0 ak z vl vr w')(hf:Fr (λi=>i=c.cb) w w0)(hD:D1<=D):bi c S D (ja m g) s cnt w (Dx z.f vl vr) w':=⟨hf.trans h.F,ak,.error z,h.c1,by have:=h.c2;omega,h.we,qw ⟨z,h.m,rfl⟩,vl,vr,rfl,h.f⟩
def QB(hw:WE w c cnt)(hk:WK w c cnt s kb)(ht:TW w (dt c) S T (.iface ta xa))(hb:Fr (λi=>i=c.cb) w0 w):bi c S D (jk T) s cnt w0 (.returned<|.tuple #[.iface ta xa,Mv kb]) w:=⟨hb,cnt,.ok (T,s),br _,ae,hw,rfl,λn q=>qw q,hk.wh,ta,xa,kb,rfl,hk.n,hk.k,ht⟩
def X_.post{x:Ty}(h:X_ c s x y f t w0 e w')(hw:WE w0 c cnt)(hf:Fr (λi=>i=c.cb) w w0){g}:∃fl vl vr,e=Dx fl vl vr/\bi c S D (ja (jo x y f t) g) s cnt w e w':=by
 obtain⟨fl,vl,vr,rfl,k6,z,rfl,he,hF⟩:=h;exact⟨z.f,vl,vr,rfl,hf.trans<|Fr.of k6,cnt,.error z,br _,ae,hw.af k6,qw ⟨z,he,rfl⟩,vl,vr,rfl,hF⟩
def Je.up{x y:Ty}{f t:Nat}(h:Je c cnt s Λ x y f t w0 e w')(hb:Bq w w0):Je c cnt s Λ x y f t w e w':=by
 obtain⟨b,h1,h2,h3⟩:=h;exact⟨b,h1,hb.trans<|h2.mono hb.size,h3⟩
def Fh.and{w2}{cT kb2}{s2}(h:Fh w w1 c ak s s1 Λ jI)(k:Fh w1 w2 c cT s1 s2 Λ kb2):Fh w w2 c cT s s2 Λ kb2:=⟨k.k,k.n,h.p.trans k.p⟩
def acZ.step{mk}{x}{T}{ta}{xa}(q:acZ c S D (jf mk x Γ) s cnt w0 ak T s1 ta xa jI w1)(hk:WK w c cnt s kb)(hn:∀n,¬s.u n->Λ n)(hg:WG w c s Λ Γ gb):Fh w w1 c ak s s1 Λ jI/\jj Λ s1 T:=X9 hk hn hg q.m q.u q.c1 q.wh q.n q.k
def Cl c S D(p:jh Ty)(s:jd)cnt w D1(p1:jh Ty)(s1:jd)ak w1:=∀e w',bi c S D1 p1 s1 ak w1 e w'->bi c S D p s cnt w e w'
def Cl.refl c S D(p:jh Ty)(s:jd)cnt w:Cl c S D p s cnt w D p s cnt w:=λ_ _ h=>h
def Cl.and{p}{w2}{cT}{s2}(h:Cl c S D p s cnt w D1 (ja m g) s1 ak w1)(hm:m s1 (.ok (a,s2)))(hf:Fr (λi=>i=c.cb) w1 w2)(hc:ak<=cT)(hu:∀n,s2.u n->s1.u n\/(ak<n/\n<=cT)){D2}(hD:cT+D2<=ak+D1):Cl c S D p s cnt w D2 (g a) s2 cT w2:=λe w' hh=>h e w'<|hh.and hm hf hc hu hD
def QC(hu:oA k)w c S(h:1<=S):TW w (dt c) S (.aJ k []) (.iface 153<|.agg #[.string k,.slice none 0 0]):=by
 have q:=cX.aJ (w:=w) (P:=dt c) k [] none 0 (λ_=>Zv) (qw<|qv<|qv hu) (qw rfl)<|λi h=>yl;rw[eS hu]at q;exact TW.of q ⟨λe=>by obtain⟨a,r,h1,h2⟩:=hu;rw[e,show sK.toList=[116,111,111,32,108,97,114,103,101]from toList_mk _]at h1;injection h1 with h1 _;subst h1;revert h2;decide,trivial⟩ (by simpa[size,ah]using h)
def UN k:jj Λ s (.aJ k []):=⟨λn q=>by simp[aB,bX]at q,λn q=>by simp[sub,aP,aB,bX]at q⟩
end
section
variable {c:WC} {cnt:Nat}
def QE(mk:jp)s n x y z f t a(Γ:jc):jf mk (.mk 12 s n [x,y,z] f t a) Γ=ja (jf mk x Γ) λa=>ja (jo a In.th (j7 x)<|qj x) λ_=>ja (jf mk y Γ) λb=>ja (jf mk z Γ) λc=>ja (jo b c (j7 z)<|qj z) λ_=>jk b:=by simp[jf,jz,qm,j6,In.iV]
end
def Yc(w:World)R u v b(h:b≠R):((w.setCell ⟨R,0,none⟩ u).setCell ⟨R,1,none⟩ v).heap[b]? =w.heap[b]? :=(zd _ _ _ _ h).trans<|zd _ _ _ _ h
def UO(w:World)R u v:((w.setCell ⟨R,0,none⟩ u).setCell ⟨R,1,none⟩ v).heap.size=w.heap.size:=by simp_all
section
variable {c:WC} {cnt:Nat}
def Yd(hk:WK w c cnt s kb)(ht:∀n,aB n T->s.u n):(vars []<|sub s.k T).length<=cnt:=by
 refine NK (de _ q9) λm hm=>?_;have q:=(bJ (sub s.k T) [] m).1 hm;simp only[List.not_mem_nil,false_or]at q;have⟨n,q1,q2⟩:=(mq T).1 q;exact hk.u m<|hk.ok.use n m (ht n q1) q2
def ac0(hk:WK w c cnt s kb)(hg:WG w c s Λ Γ gb){x}(h:Γ x=some d):d.any.length<=cnt:=
 NK (hg.nd x d h) λn hn=>hk.u n<|(hg.i x d h).use n<|(hg.i x d h).sub n hn
noncomputable def mg (rc:Bool) (st:BA) (Γ:jc):jc:=if rc then j8 Γ st else Γ
def Jh{z}(h:mg rc st Γ z=some d):Γ z=some d:=by
 cases rc
 .simpa[mg]using h
 .simp[mg,j8]at h;exact h.2
def NO(mk:jp)rc s n x z f t a(Γ:jc):jf mk (.mk (if rc then 11 else 10) s n [x,z] f t a) Γ=ja (j5 rc s x (jf mk x) Γ) λt=>λs1=>jf mk z (ji Γ s<|jt (mg rc s Γ) s1.k t<|qt x) s1:=by
 cases rc<;>simp[jf,jz,qm,j6,In.iV,In.qR,mg]
def SoP c(d:jy)w(e:Ending)w':=∃u,e=.returned u/\oh w' (dt c) d u/\Bq w w'
abbrev PSo c(w:World)x:=(dt c x/\x<w.heap.size)\/w.heap.size+2<=x
def zS(hl:d.any=l){w4}(hz:c.cb<w.heap.size)(h4:Bq w w4)(ht:TW w4 (PSo c w) 900000 d.of (.iface ta xa))(hv:rQ w4 (PSo c w) sa l):SoP c d w (.returned<|.agg #[.iface ta xa,.slice sa l.length sc]) ((w4.setCell ⟨w.heap.size+1,0,none⟩<|.iface ta xa).setCell ⟨w.heap.size+1,1,none⟩<|.slice sa l.length sc):=by
 subst hl;have hs:=UO w4 (w.heap.size+1) (.iface ta xa)<|.slice sa d.any.length sc;have hb:∀b,PSo c w b->b<w4.heap.size->((w4.setCell ⟨w.heap.size+1,0,none⟩<|.iface ta xa).setCell ⟨w.heap.size+1,1,none⟩<|.slice sa d.any.length sc).heap[b]? =w4.heap[b]? :=λb p _=>Yc _ _ _ _ _ (by obtain p|p:=p<;>omega);have hq:∀b,PSo c w b->b<w4.heap.size->dt c b:=λb p _=>by obtain p|p:=p;exact p.1;show b≠c.cb;omega
 exact⟨_,rfl,⟨ta,xa,sa,sc,rfl,ht.move ae hb hq,hv.move ae hb hq⟩,(h4.setCell ag _).setCell ag _⟩
def NP{y}(hw:WE w c cnt)(hk:WK w c cnt s kb)(hg:WG w c s Λ Γ gb)(hp:PE w Q x vx)(hS:S<=900000)(ht:TW w (dt c) S T v)(UB:jj Λ s T)(hc:cnt<=850000)(hl:c.nl.length<=1000000):
 Cq 280 #[Mv kb,Mv gb,.agg #[.bool rc,Nv a,Nv y,.string st,vx],v] w (SoP c (jt (mg rc st Γ) s.k T<|qt x) w):=by
 have hf:=hk.Jd ae<|qv trivial;have WH:=cd _ ht.wh λn _=>hf.wh n;have fK:=kw;have NR:size (bK<|sub s.k T)<=900000:=by have:=fD WH (xk (Yd hk UB.use) hc) ae;omega
 have zc:=hw.di;have k0:Bq w ((w.alloc<|Cv #[.bool rc,Nv a,Nv y,Sv st,vx] 130).alloc<|Cv #[Zv,Lv none 0 0] 393):=(bw _).alloc ag _;have B1:=(Bx.new w #[.bool rc,Nv a,Nv y,Sv st,vx] 130).below<|bw<|Cv #[Zv,Lv none 0 0] 393;have R1:Hid (Bx ((w.alloc<|Cv #[.bool rc,Nv a,Nv y,Sv st,vx] 130).alloc<|Cv #[Zv,Lv none 0 0] 393) (w.heap.size+1) #[Zv,Lv none 0 0]):=by
  have:=Bx.new (w.alloc<|Cv #[.bool rc,Nv a,Nv y,Sv st,vx] 130) #[Zv,Lv none 0 0] 393;rw[ba]at this;exact ai this
 have kl:KW w (λi=>dt c i/\i<w.heap.size) kb s.k:=hk.k.move (br _) rfl (λ_ _ _=>rfl) (λi p z=>⟨p,z⟩);have GL:=hg.e.low;have HO:=uY (kl.af k0) ⟨hk.n,hk.k.lt⟩ hf hS<|ht.af k0;have HL:∀(W:World)(b:Nat)(tu:TypeId)(xu:Value)(Qu:Nat->Prop),Bq w W->bS W (PSo c w) b (mg rc st Γ)->cX W Qu (bK<|sub s.k T) (Fv tu xu)->Cq 287 #[Mv b,Mv kb,Fv tu xu] W (p7 (λi=>W.heap.size<=i) (ju (mg rc st Γ) s.k<|sub s.k T) W):=λW b tu xu Qu hb he hu=>
  acW he ((kl.af hb).wide λi p=>qw p) (qw ⟨hk.n,hk.k.lt⟩) hf (NL:=c.nl) (λz q=>hg.dm z λe=>by cases hh:mg rc st Γ z with|none=>exact q hh|some d=>rw[Jh hh]at e;cases e) hl (λz d q=>by
   have:=ac0 hk hg<|Jh q
   omega) hu ae
 have HWo:∀W:World,Bq w W->Cq 286 #[Mv gb,Sv st] W (pZ (λi=>dt c i/\i<w.heap.size) (In.lR Γ st) W):=λW hb=>UJ (GL.af hb) st;have K0:=ai k0;obtain⟨tx,ax,rfl⟩:=hp.iface;obtain⟨tv,xv,rfl⟩:=ht.iface;go_enter func280,ntmps280;go_wp2_with fail;refine HO.mono ?_;rintro e w1⟨u,rfl,hu,k1⟩;have z0:=(uh K0).size;obtain⟨tu,xu,rfl⟩:=hu.iface;have MX:cX w1 (PSo c w) (bK<|sub s.k T) (Fv tu xu):=hu.wide λi p=>by obtain p|p:=p;exact Or.inl p;simp only[ba]at p;exact Or.inr ae
 have K1:=K0.trans<|k1.mono K0.size;have B2:=ai<|B1.below k1;have R2:=R1.below k1;have T1:TW w1 (PSo c w) 900000 (sub s.k T) (Fv tu xu):=⟨⟨_,MX,(dO.refl _).cut WH,NR⟩,WH⟩;have U1:=ai MX;have HI:=pV x w1 Q _<|hp.af K1;have⟨b1,b2,b3⟩:=uh B2;go_wp2_with fail;refine HI.mono ?_;rintro e w2⟨rfl,k2⟩;have K2:=K1.trans<|k2.mono K1.size;have B3:=ai<|B2.below k2;have R3:=ai<|R2.below k2;have T2:=T1.af k2;have U2:=U1.af k2;have⟨b1,b2,b3⟩:=uh B3;have⟨r1,r2,r3⟩:=uh R3
 cases hv:qt x with
 |false=>
  go_wp2_with fail;refine bodyPost_ret (v:=Av #[Fv tu xu,Lv none 0 0]) (by simp[results,Tryz.results280,go_sem,r1]) rfl ?_;rw[hv];exact zS (d:=jt (mg rc st Γ) s.k T false) (l:=[]) (by simp[jt]) (sa:=none) (sc:=0) zc K2 T2<|qw rfl
 |true=>
  cases rc with
  |false=>
   have HLo:=HL w2 gb tu xu _ K2 (by
    have e:mg false st Γ=Γ:=by simp[mg]
    rw[e];exact(GL.af K2).wide λi p=>qw p) U2
   go_wp2_with fail;refine HLo.mono ?_;rintro e w4⟨sa,sc,rfl,hv4,k4⟩;have K4:=K2.trans<|k4.mono K2.size;have T4:=T2.af k4;have V4:Hid (rQ w4 (PSo c w) sa<|ju (mg false st Γ) s.k<|sub s.k T):=ai (hv4.move (br _) (λ_ _ _=>rfl)<|λi p _=>qv (by have:=r3;omega));have⟨q1,q2,q3⟩:=(uh R3).below k4;go_wp2_with fail;refine bodyPost_ret (v:=Av #[Fv tu xu,Lv sa (ju (mg false st Γ) s.k<|sub s.k T).length sc]) (by simp[results,Tryz.results280,go_sem,q1]) rfl ?_;rw[hv];exact zS (d:=jt (mg false st Γ) s.k T true) (by simp[jt]) (sc:=sc) zc K4 T4<|uh V4
  |true=>
   have HWi:=HWo w2 K2;go_wp2_with fail;refine HWi.mono ?_;rintro e w3⟨bn,rfl,zn,hn,k3⟩;have K3:=K2.trans<|k3.mono K2.size
   have HLo:=HL w3 bn tu xu _ K3 (by
    have e:mg true st Γ=j8 Γ st:=by simp[mg]
    rw[e];exact hn.wide λi p=>qw p) (U2.af k3)
   have T3:=T2.af k3;have R4:=R3.below k3;have z3:=k3.size;go_wp2_with fail;refine HLo.mono ?_;rintro e w4⟨sa,sc,rfl,hv4,k4⟩;have K4:=K3.trans<|k4.mono K3.size;have T4:=T3.af k4;have V4:Hid (rQ w4 (PSo c w) sa<|ju (mg true st Γ) s.k<|sub s.k T):=ai (hv4.move (br _) (λ_ _ _=>rfl)<|λi p _=>qv (by have:=r3;omega));have⟨q1,q2,q3⟩:=R4.below k4;go_wp2_with fail;refine bodyPost_ret (v:=Av #[Fv tu xu,Lv sa (ju (mg true st Γ) s.k<|sub s.k T).length sc]) (by simp[results,Tryz.results280,go_sem,q1]) rfl ?_;rw[hv];exact zS (d:=jt (mg true st Γ) s.k T true) (by simp[jt]) (sc:=sc) zc K4 T4<|uh V4
end
section
variable {c:WC} {cnt:Nat} {p:jh Ty}
def bi.below(h:bi c S D p s cnt w0 e w')(hb:Bq w w0):bi c S D p s cnt w e w':=⟨(Fr.of hb).trans h.1,h.2⟩
def Dsp w c cnt(s:jd)kb gb S D(p:jh Ty)fn T xs:=
 (∀W:World,Bq w W->Cq fn #[Pv c.eb,Mv kb,Mv gb,.agg xs] W (bi c S D p s cnt W))->
  Cq 251 #[Pv c.eb,Mv kb,Mv gb,.iface T<|.agg xs] w (bi c S D p s cnt w)
def NS:
 (∀{tx ty ax ay},Dsp w c cnt s kb gb S D p 264 284 #[Nv f,Nv t,.iface tx ax,.iface ty ay])/\
 (∀{tx ty ax ay},Dsp w c cnt s kb gb S D p 265 287 #[Nv f,Nv t,.iface tx ax,.iface ty ay])/\
 (∀{tx ty ax ay},Dsp w c cnt s kb gb S D p 271 299 #[Nv f,Nv t,.iface tx ax,.iface ty ay])/\
 (∀{a y:Nat}{st tx ax},Dsp w c cnt s kb gb S D p 266 289 #[Nv f,Nv t,Nv a,Nv y,.string st,.iface tx ax])/\
 (∀{a y:Nat}{rc st tx tz ax az},Dsp w c cnt s kb gb S D p 267 291 #[Nv f,Nv t,.bool rc,Nv a,Nv y,.string st,.iface tx ax,.iface tz az])/\
 (∀{tx ty tz ax ay az},Dsp w c cnt s kb gb S D p 268 293 #[Nv f,Nv t,.iface tx ax,.iface ty ay,.iface tz az])/\
 (∀{n sc sa tx ax},Dsp w c cnt s kb gb S D p 269 296 #[Nv f,Nv t,.iface tx ax,.slice sa n sc])/\
 (∀{st tx ty ax ay},Dsp w c cnt s kb gb S D p 270 235 #[Nv f,Nv t,.string st,.iface tx ax,.iface ty ay]):=by
 refine⟨?_,?_,?_,?_,?_,?_,?_,?_⟩;all_goals
  intros;intro H;go_enter func251,ntmps251;go_wp2_with fail;refine(H _<|bw _).mono ?_;intro e w1 hp;have HP:=ai<|hp.below<|bw _;obtain⟨ak,zz,vl,vr,rfl,q⟩|⟨ak,T1,s1,BQ,BS,jI,rfl,q⟩:=hp.split
  .go_wp2
   exact⟨rfl,HP⟩
  .go_wp2
   go_ret2;exact HP
def Ye(hw:WE w c cnt)(hk:WK w c cnt s kb)(hS:1<=S):
 (∀n:Nat,Cq 251 #[Pv c.eb,Mv kb,Mv gb,.iface 256<|.agg #[Nv f,Nv t,Nv n]] w<|bi c S D (jk<|.aJ lh []) s cnt w)/\
 (∀n:Bool,Cq 251 #[Pv c.eb,Mv kb,Mv gb,.iface 259<|.agg #[Nv f,Nv t,.bool n]] w<|bi c S D (jk<|.aJ gS []) s cnt w)/\
 Cq 251 #[Pv c.eb,Mv kb,Mv gb,.iface 309<|.agg #[Nv f,Nv t]] w (bi c S D (jk<|.aJ jC []) s cnt w):=by
 have HW:=ai hw;have HK:=ai hk;clear hw hk;refine⟨λn=>?_,λn=>?_,?_⟩;all_goals
  go_enter func251,ntmps251;go_wp2_with fail;first|refine QF.mono ?_|refine vd.mono ?_|refine zU.mono ?_
  rintro e w1⟨rfl,rfl⟩
  go_wp2
  go_ret2;have k0:=(xy w.heap.size w).alloc<|br _;first|exact QB (HW.af<|k0 _) (HK.af<|k0 _) (QC Fo _ c _ hS) (Fr.of<|k0 _)|exact QB (HW.af<|k0 _) (HK.af<|k0 _) (QC qA _ c _ hS) (Fr.of<|k0 _)|exact QB (HW.af<|k0 _) (HK.af<|k0 _) (QC tj _ c _ hS)<|Fr.of<|k0 _
end
abbrev qS(c:WC)gv i:=i≠c.cb/\i≠gv
structure Dz w c gv cnt(s:jd)kb:Prop where
 k:KW w (qS c gv) kb s.k
 n:qS c gv kb
 u:∀n,s.u n->us cnt n
 ok:In.Ok s
 wh:∀n,Whole<|s.k n
section
variable {c:WC} {cnt:Nat}
def Dz.wk(h:Dz w c gv cnt s kb):WK w c cnt s kb:=⟨h.k.wide λ_ p=>p.1,h.n.1,h.u,h.ok,h.wh⟩
def Dz.of(h:WK w c cnt s kb)(hg:w.heap.size<=gv):Dz w c gv cnt s kb:=⟨h.k.move (br _) rfl (λ_ _ _=>rfl) (λi p z=>⟨p,ae⟩),⟨h.n,by have:=h.k.lt;omega⟩,h.u,h.ok,h.wh⟩
def Dz.fr(h:Dz w c gv cnt s kb)(hf:Fr (λi=>i=c.cb\/i=gv) w w'):Dz w' c gv cnt s kb:=⟨h.k.fr hf (λq=>q.elim h.n.1 h.n.2)<|λi p _ q=>q.elim p.1 p.2,h.n,h.u,h.ok,h.wh⟩
def Dz.af(h:Dz w c gv cnt s kb)(hb:Bq w w'):Dz w' c gv cnt s kb:=h.fr<|Fr.of hb
def ai6 c gv cnt(s:jd)Λ x y f t w(e:Ending)w':=∃b,e=.returned (Mv b)/\Bq w w'/\∃s',jo x y f t s (.ok ((),s'))/\qh Λ s s'/\Dz w' c gv cnt s' b/\s'.u=s.u
def ai7(h:WE w c cnt)(hg:gv<w.heap.size)(hk:Dz w c gv cnt s kb)(hn:∀n,¬s.u n->Λ n)(hc:cnt<=1000000)(hS:S<=900000){x}(hx:TW w (qS c gv) S x v)(hy:TW w (qS c gv) S y u)(tx:jj Λ s x)(ty:jj Λ s y)f t:
 Cq 252 #[Mv kb,v,u,.agg #[Nv f,Nv t]] w (λe w'=>X_ c s x y f t w e w'\/ai6 c gv cnt s Λ x y f t w e w'):=by
 have zc:=h.di;refine(IQ hk.k hk.n (hk.wk.Jd hc<|qv trivial) hS hx hy f t s.u).mono ?_;rintro e w1⟨k1,o,ho,hm⟩
 cases o with
 |ok q=>
  obtain⟨b,rfl,hb,hK,hW⟩:=hm;have⟨g1,_⟩:=In.fG (s:=s) hk.ok hn tx ty f t q.1 q.2 ho;have hu:q.2.u=s.u:=by
   exact Fi
  exact qv ⟨b,rfl,k1,q.2,ho,g1,⟨hK.wide λi p=>by obtain p|p:=p;exact p;exact⟨ae,ae⟩,⟨ae,ae⟩,λn q=>hk.u n<|hu▸q,g1.ok,hW⟩,hu⟩
 |error z=>
  obtain⟨vl,vr,rfl,hF⟩:=hm;refine qw ⟨z.f,vl,vr,rfl,k1,z,rfl,ho,hF.q_,λq=>?_,hF.k⟩;have wd:∀i,(qS c gv i\/w.heap.size<=i)->dt c i:=λi p=>by obtain p|p:=p;exact p.1;show i≠c.cb;omega
  exact⟨(hF.apart q).1.wide wd,(hF.apart q).2.wide wd⟩
end
def ai8(c:WC)(gv S:Nat)(s:jd)(cnt:Nat)(w':World)(aE:Nat)(e:Ending)(o:Except qi ((Ty×jc)×jd)):Prop:=match o with
 |.ok ((T,g'),s')=>(∀n,s'.u n->s.u n\/(cnt<n/\n<=aE))/\(∀n,Whole<|s'.k n)/\∃ta xa kb,e=.returned (.tuple #[.iface ta xa,Mv kb])/\qS c gv kb/\KW w' (qS c gv) kb s'.k/\TW w' (qS c gv) S T (.iface ta xa)/\bS w' (qS c gv) gv g'|.error z=>∃vl vr,e=Dx z.f vl vr/\rM w' (dt c) z vl vr
def ed c gv S D(p:jh (Ty×jc))(s:jd)cnt w e w':=Fr (λi=>i=c.cb\/i=gv) w w'/\∃aE o,cnt<=aE/\aE<=cnt+D/\WE w' c aE/\p s o/\ai8 c gv S s cnt w' aE e o
structure PaA nd c w cnt(s:jd)kb(Λ:Nat->Prop)g gv Q v:Prop where
 we:WE w c cnt
 wk:Dz w c gv cnt s kb
 hn:∀n,¬s.u n->Λ n
 e:bS w (qS c gv) gv g
 i:j3 Λ s g
 l:c.gh<=gv
 pp:PP w Q nd v
 hq:∀b,Q b->b≠c.cb/\b≠gv
 sc:rf c.mks c.nl nd
 ft:Fit c cnt (nn nd)
 mf:MkFine c.mks
def Yf nd:=∀(c:WC)(w:World)(cnt:Nat)(s:jd)(kb:Nat)(Λ:Nat->Prop)(g:jc)(gv:Nat)(Q:Nat->Prop)(v:Value),PaA nd c w cnt s kb Λ g gv Q v->
 Cq 281 #[Pv c.eb,Mv kb,Mv gv,v] w (ed c gv (1100*nn nd) (1000*nn nd) (jl c.mks nd g) s cnt w)
section
variable {c:WC} {cnt:Nat}
def afg(hw:WE w c cnt)(hk:Dz w c gv cnt s kb)(ht:TW w (qS c gv) S T (.iface ta xa))(he:bS w (qS c gv) gv g)(hb:Fr (λi=>i=c.cb\/i=gv) w0 w):ed c gv S D (jk (T,g)) s cnt w0 (.returned<|.tuple #[.iface ta xa,Mv kb]) w:=⟨hb,cnt,.ok ((T,g),s),br _,ae,hw,rfl,λn q=>qw q,hk.wh,ta,xa,kb,rfl,hk.n,hk.k,ht,he⟩
def ai9(hu:oA k)w c gv S(h:1<=S):TW w (qS c gv) S (.aJ k []) (.iface 153<|.agg #[.string k,.slice none 0 0]):=TW.of (Ji w _ hu) ⟨λe=>by obtain⟨a,r,h1,h2⟩:=hu;rw[e,show sK.toList=[116,111,111,32,108,97,114,103,101]from toList_mk _]at h1;injection h1 with h1 _;subst h1;revert h2;decide,trivial⟩ (by simpa[size,ah]using h)
def Fp w c gv n S(h:1<=S):TW w (qS c gv) S (.var<|n+1) (.iface 85<|Iv<|(n:Int)+1):=TW.of (x:=.var<|n+1) (by have:=cX.var (w:=w) (P:=qS c gv)<|n+1;simpa using this) trivial (by simpa[size]using h)
end
def Fq{k}{cn}(hq:k=3/\cn=lh\/k=4/\cn=gS\/k=5/\cn=jC)st n f t a:Yf (.mk k st n [] f t a):=by
 intro c w cnt s kb Λ g gv Q v h;have hu:oA cn:=by obtain⟨-,rfl⟩|⟨-,rfl⟩|⟨-,rfl⟩:=hq;exact Fo;exact qA;exact tj
 have en:nn (.mk k st n [] f t a)=1:=qBi;have ep:jl c.mks (.mk k st n [] f t a) g=jk (.aJ cn [],g):=by obtain⟨rfl,rfl⟩|⟨rfl,rfl⟩|⟨rfl,rfl⟩:=hq<;>simp[jl,qk]
 rw[en,ep];have hp:=h.pp;obtain⟨T,xs,rfl,hv⟩:∃T xs,v=Fv T (Av xs)/\(T=256/\cn=lh/\(∃n:Nat,xs=#[Nv f,Nv t,Nv n])\/T=259/\cn=gS/\(∃n:Bool,xs=#[Nv f,Nv t,.bool n])\/T=309/\cn=jC/\xs=#[Nv f,Nv t]):=by
  obtain⟨rfl,rfl⟩|⟨rfl,rfl⟩|⟨rfl,rfl⟩:=hq
  .cases hp;exact⟨_,_,rfl,qw ⟨rfl,rfl,_,rfl⟩⟩
  .cases hp;exact⟨_,_,rfl,qv<|qw ⟨rfl,rfl,_,rfl⟩⟩
  .cases hp;exact⟨_,_,rfl,qv<|qv ⟨rfl,rfl,rfl⟩⟩
 have k0:=(xy w.heap.size w).alloc (br _)<|Cv xs T;have HW:=h.we.af k0;have HK:=h.wk.af k0;have HE:=h.e.af k0;have K0:=ai k0;clear hq hp ep;obtain⟨rfl,rfl,n,rfl⟩|⟨rfl,rfl,n,rfl⟩|⟨rfl,rfl,rfl⟩:=hv;all_goals
  go_enter func281,ntmps281;go_wp2_with fail;first|refine QF.mono ?_|refine vd.mono ?_|refine zU.mono ?_
  rintro e w1⟨rfl,rfl⟩
  go_wp2
  go_ret2;exact afg HW HK (ai9 hu _ c gv _ ae) HE<|Fr.of K0
def agv st n f t a:Yf (.mk 15 st n [] f t a):=by
 intro c w cnt s kb Λ g gv Q v h;have en:nn (.mk 15 st n [] f t a)=1:=qBi;have ep:jl c.mks (.mk 15 st n [] f t a) g=ja jx λv=>jk (.var v,g):=by simp[jl,qk]
 rw[en,ep];obtain⟨-,rfl⟩:∃_:Unit,v=Fv 310 (Av #[Nv f,Nv t]):=by cases h.pp;exact⟨(),rfl⟩
 have k0:Bq w (w.alloc<|Cv #[Nv f,Nv t] 310):=bw _;have zc:=h.we.di;have W8:=h.ft.a;rw[en]at W8;have W0:=ai<|h.we.af k0;have⟨e1,e2,e3⟩:=h.we.bx;have HF:=oO cnt ae (h.we.af k0).ct;have HA:=ai h;have K0:=ai k0;have lg:=h.e.lt;have ll:=h.l;have lc:=h.we.l;clear h k0;go_enter func281,ntmps281;go_wp2_with fail;refine HF.mono ?_;rintro e w3⟨rfl,Yg⟩;have⟨rS,F3⟩:=W0.fresh;rw[<-Yg]at rS F3;clear Yg HF e1 e2 e3;have h:=uh HA;have M6:=(Fr.of (S:=λi=>i=c.cb) K0).trans F3;have⟨Cf,qB,ty3⟩:=zR h.wk.wk h.hn M6;have FG:=M6.gh (T:=λi=>i=c.cb\/i=gv) λ_ q=>Or.inl q;have HW3:=ai rS;have FF:=ai FG;have HNW:=ai Cf;have agw:=ai M6;clear h F3 M6 FG Cf qB ty3 rS
 go_wp2
 go_ret2;have h:=uh HA;have k3:=h.wk.fr FF;exact⟨FF,cnt+1,.ok ((.var<|cnt+1,g),⟨s.k,λn=>s.u n\/n=cnt+1⟩),ae,ae,HW3,qv ⟨cnt+1,_,HNW,rfl⟩,λn q=>q.imp id λq=>ae,h.wk.wh,_,_,kb,rfl,k3.n,k3.k,Fp _ c gv cnt _ ae,h.e.move FF.size (agw.block _ h.e.lt ae) (λb p z=>FF.block b z<|λq=>q.elim p.1 p.2)<|λ_ p _=>p⟩
def agx st n f t a:Yf (.mk 1 st n [] f t a):=by
 intro c w cnt s kb Λ g gv Q v h;have en:nn (.mk 1 st n [] f t a)=1:=qBi;have ep:jl c.mks (.mk 1 st n [] f t a) g=ja jx λv=>jk (.var v,ji g st<|ql<|.var v):=by simp[jl,qk]
 have fK:=kw;rw[en,ep];obtain⟨-,rfl⟩:∃_:Unit,v=Fv 253 (Av #[Nv f,Nv t,Sv st]):=by cases h.pp;exact⟨(),rfl⟩
 have⟨k0,B0⟩:=oF w #[Nv f,Nv t,Sv st] 253;have zc:=h.we.di;have W8:=h.ft.a;rw[en]at W8;have W0:=h.we.af k0;have⟨e1,e2,e3⟩:=h.we.bx;have HF:=oO cnt ae (h.we.af k0).ct;have HA:=ai h;have K0:=ai k0;have lg:=h.e.lt;have ll:=h.l;have lc:=h.we.l;clear h k0;go_enter func281,ntmps281;go_wp2_with fail;refine HF.mono ?_;rintro e w3⟨rfl,Yg⟩;have⟨HW3,F3⟩:=W0.fresh;rw[<-Yg]at HW3 F3;clear Yg HF e1 e2 e3;have h:=uh HA;have M6:=(Fr.of (S:=λi=>i=c.cb) K0).trans F3;have⟨HNW,qB,ty3⟩:=zR h.wk.wk h.hn M6;have FF:=M6.gh (T:=λi=>i=c.cb\/i=gv) λ_ q=>Or.inl q;have E3:=h.e.move (Q:=qS c gv) M6.size (M6.block _ h.e.lt ae) (λb p z=>M6.block b z p.1)<|λ_ p _=>p;have C3:oh w3 (qS c gv) (In.mono<|.var<|cnt+1) (Av #[Fv 85<|Iv<|(cnt:Int)+1,Lv none 0 0]):=⟨_,_,none,0,rfl,Fp w3 c gv cnt _ ae,Or.inl rfl⟩;have⟨b1,b2,b3⟩:=B0.fr F3 ae;clear h F3 M6 qB ty3 B0;go_wp2_with(refine oK rfl _ _ _ (Or.inr rfl) rfl E3 (λq=>q.2 rfl) C3 st rfl rfl ?_;intro w4 H' O';have S4:=ai H';have O4:=ai O';clear H' O');go_ret2;have h:=uh HA;have o:=uh O4;have F4:Fr (λi=>i=c.cb\/i=gv) w3 w4:=⟨o.os,o.tape,o.output,UE,λi _ hi=>o.block i λe=>hi<|Or.inr e⟩;have k3:=h.wk.fr<|FF.trans F4
 exact⟨FF.trans F4,cnt+1,.ok ((.var<|cnt+1,ji g st<|ql<|.var<|cnt+1),⟨s.k,λn=>s.u n\/n=cnt+1⟩),ae,ae,HW3.one o ae,qv ⟨cnt+1,_,HNW,rfl⟩,λn q=>q.imp id λq=>ae,h.wk.wh,_,_,kb,rfl,k3.n,k3.k,Fp _ c gv cnt _ ae,S4⟩
structure ac1(c:WC)gv S D(m:jh (Ty×jc))(s:jd)cnt w(ak:Nat)(T:Ty)(g1:jc)(s1:jd)(ta:TypeId)(xa:Value)(jI:Nat)(w':World):Prop where
 F:Fr (λi=>i=c.cb\/i=gv) w w'
 c1:cnt<=ak
 c2:ak<=cnt+D
 we:WE w' c ak
 m:m s (.ok ((T,g1),s1))
 u:∀n,s1.u n->s.u n\/(cnt<n/\n<=ak)
 wh:∀n,Whole<|s1.k n
 n:qS c gv jI
 k:KW w' (qS c gv) jI s1.k
 t:TW w' (qS c gv) S T (.iface ta xa)
 e:bS w' (qS c gv) gv g1
structure ac2{α:Type}(c:WC)gv D(m:jh α)(s:jd)cnt w(ak:Nat)(z:qi)(vl vr:Value)(w':World):Prop where
 F:Fr (λi=>i=c.cb\/i=gv) w w'
 c1:cnt<=ak
 c2:ak<=cnt+D
 we:WE w' c ak
 m:m s (.error z)
 f:rM w' (dt c) z vl vr
section
variable {c:WC} {cnt:Nat} {m:jh α} {gg:α->jh (Ty×jc)} {a:α}
def ed.split{m}(h:ed c gv S D m s cnt w e w'):(∃ak z vl vr,e=Dx z.f vl vr/\ac2 c gv D m s cnt w ak z vl vr w')\/(∃ak T g1 s1 ta xa jI,e=.returned (.tuple #[.iface ta xa,Mv jI])/\ac1 c gv S D m s cnt w ak T g1 s1 ta xa jI w'):=by
 obtain⟨F,aE,o,h1,h2,h3,h4,h5⟩:=h;obtain z|⟨⟨T,g1⟩,s1⟩:=o
 .exact QA
 .obtain⟨q1,q2,ta,xa,kb,rfl,q3,q4,q5,q6⟩:=h5;exact qv ⟨aE,T,g1,s1,ta,xa,kb,rfl,F,h1,h2,h3,h4,q1,q2,q3,q4,q5,q6⟩
def ac2.post(h:ac2 c gv D1 m s cnt w0 ak z vl vr w')(hf:Fr (λi=>i=c.cb\/i=gv) w w0)(hD:D1<=D):ed c gv S D (ja m gg) s cnt w (Dx z.f vl vr) w':=⟨hf.trans h.F,ak,.error z,h.c1,by have:=h.c2;omega,h.we,qw ⟨z,h.m,rfl⟩,vl,vr,rfl,h.f⟩
def ed.and(h:ed c gv S D1 (gg a) s1 ak w1 e w')(hm:m s (.ok (a,s1)))(hf:Fr (λi=>i=c.cb\/i=gv) w w1)(hc:cnt<=ak)(hu:∀n,s1.u n->s.u n\/(cnt<n/\n<=ak))(hD:ak+D1<=cnt+D):ed c gv S D (ja m gg) s cnt w e w':=by
 obtain⟨F,aE,o,h1,h2,h3,h4,h5⟩:=h;refine⟨hf.trans F,aE,o,ae,ae,h3,qv ⟨a,s1,hm,h4⟩,?_⟩;unfold ai8 at*;exact Qz
def PCl c gv S D(p:jh (Ty×jc))(s:jd)cnt w D1(p1:jh (Ty×jc))(s1:jd)ak w1:=∀e w',ed c gv S D1 p1 s1 ak w1 e w'->ed c gv S D p s cnt w e w'
def PCl.refl c gv S D(p:jh (Ty×jc))(s:jd)cnt w:PCl c gv S D p s cnt w D p s cnt w:=λ_ _ h=>h
def PCl.and{p}{w2}{cT}{s2}(h:PCl c gv S D p s cnt w D1 (ja m gg) s1 ak w1)(hm:m s1 (.ok (a,s2)))(hf:Fr (λi=>i=c.cb\/i=gv) w1 w2)(hc:ak<=cT)(hu:∀n,s2.u n->s1.u n\/(ak<n/\n<=cT)){D2}(hD:cT+D2<=ak+D1):PCl c gv S D p s cnt w D2 (gg a) s2 cT w2:=λe w' hh=>h e w'<|hh.and hm hf hc hu hD
end
section
variable {c:WC} {cnt:Nat}
def PaA.part(h:PaA nd c w cnt s kb Λ g gv Q v)(hb:Bq w w1)(hp:PP w Q x u)(hs:rf c.mks c.nl x)(hx:nn x<=nn nd):PaA x c w1 cnt s kb Λ g gv Q u:=
 ⟨h.we.af hb,h.wk.af hb,h.hn,h.e.af hb,h.i,h.l,hp.af hb,h.hq,hs,h.ft.le ae hx,h.mf⟩
structure ai_ w1 c gv ak(s s1:jd)(Λ:Nat->Prop)jI(g1:jc)T:Prop where
 k:Dz w1 c gv ak s1 jI
 n:∀n,¬s1.u n->Λ n
 p:qh Λ s s1
 i:j3 Λ s1 g1
 t:jj Λ s1 T
def ac1.step{mk}{w0}{T}{ta}{xa}(q:ac1 c gv S D (jl mk x g) s cnt w0 ak T g1 s1 ta xa jI w1)(hk:Dz w c gv cnt s kb)(hn:∀n,¬s.u n->Λ n)(hi:j3 Λ s g):ai_ w1 c gv ak s s1 Λ jI g1 T:=by
 have⟨g1',g2,g3⟩:=In.vf mk x g s Λ hk.ok hn hi _ s1 q.m;exact⟨⟨q.k,q.n,λn p=>by obtain r|r:=q.u n p;have:=hk.u n r;have:=q.c1;unfold us at*;omega;rw[us];omega,g1'.ok,q.wh⟩,g1'.new,g1',g3,g2⟩
end
section
variable {c:WC} {cnt:Nat}
def PaA.next(h:PaA nd c w cnt s kb Λ g gv Q v)(hf:Fr (λi=>i=c.cb\/i=gv) w w1)(hw:WE w1 c ak)(st:ai_ w1 c gv ak s0 s1 Λ jI g1 T)(he:bS w1 (qS c gv) gv g1)(hp:PP w Q x u)(hs:rf c.mks c.nl x)(hz:ak+1000*nn x<=cnt+1000*nn nd)(hx:nn x<=nn nd):PaA x c w1 ak s1 jI Λ g1 gv Q u:=
 ⟨hw,st.k,st.n,he,st.i,h.l,hp.move hf.size (λb p z=>hf.block b z λq=>q.elim (h.hq b p).1 (h.hq b p).2)<|λ_ p _=>p,h.hq,hs,h.ft.le hz hx,h.mf⟩
def Yh(mk:jp)s n x y f t a(g:jc):jl mk (.mk 6 s n [x,y] f t a) g=ja (jl mk x g) λa=>ja (jl mk y a.2) λb=>jk (qr a.1 b.1,b.2):=by simp[jl,qk,qs,j6]
end
def aja st n f t a{y}(Hx:Yf x)(Hy:Yf y):Yf (.mk 6 st n [x,y] f t a):=by
 intro c w cnt s kb Λ g gv Q v h;have en:nn (.mk 6 st n [x,y] f t a)=1+nn x+nn y:=QG;rw[Yh];obtain⟨sx,sy⟩:rf c.mks c.nl x/\rf c.mks c.nl y:=by
  cases h.sc with
  |pr _ _ _ _ _ _ _ hx hy=>exact⟨hx,hy⟩
 obtain⟨vx,vy,rfl,hx,HY⟩:∃vx vy,v=Fv 315 (Av #[Nv f,Nv t,vx,vy])/\PP w Q x vx/\PP w Q y vy:=by cases h.pp with|pr _ _ _ _ _ _ _ vx vy hx hy=>exact⟨vx,vy,rfl,hx,hy⟩
 have⟨k0,B0⟩:=oF w #[Nv f,Nv t,vx,vy] 315;have H1:=Hx c _ cnt s kb Λ g gv Q vx<|h.part k0 hx sx NT;have zc:=h.we.di;have lg:=h.e.lt;have HA:=ai h;have C0:=PCl.refl c gv (1100*(1+nn x+nn y)) (1000*(1+nn x+nn y)) (In.andM (In.dv c.mks x g) λa=>In.andM (In.dv c.mks y a.2) λb=>In.cH (In.tPr a.1 b.1,b.2)) s cnt w;rw[en];have K0:=ai k0;obtain⟨tx,ax,rfl⟩:=hx.iface;obtain⟨ty,ay,rfl⟩:=HY.iface;go_enter func281,ntmps281;go_wp2_with fail;refine H1.mono ?_;intro e w1 hp;obtain⟨ak,zz,vl,vr,rfl,q⟩|⟨ak,T1,g1,s1,BQ,BS,jI,rfl,q⟩:=hp.split
 .have HP:=q.post (S:=1100*(1+nn x+nn y)) (D:=1000*(1+nn x+nn y)) (gg:=λa=>ja (jl c.mks y a.2) λb=>jk (qr a.1 b.1,b.2)) (Fr.of K0) ae
  go_wp2
  exact⟨rfl,HP⟩
 have h:=uh HA;have F01:=(Fr.of (S:=λi=>i=c.cb\/i=gv) K0).trans q.F;have c1:=q.c1;have c2:=q.c2;have ST1:=q.step h.wk h.hn h.i;have C1:=C0.and q.m F01 q.c1 q.u (D2:=1000*(1+nn y)) ae;have H2:=Hy c w1 ak s1 jI Λ g1 gv Q _<|h.next F01 q.we ST1 q.e HY sy NT NT;have B1:=B0.fr q.F ae;obtain⟨b1,b2,b3⟩:=B1;have UP:=ai q.t;go_wp2_with fail;refine H2.mono ?_;intro e w2 hp;obtain⟨cT,zz,vl,vr,rfl,q⟩|⟨cT,T2,g2,s2,ta2,xa2,kb2,rfl,q⟩:=hp.split
 .have HP:=q.post (S:=1100*(1+nn x+nn y)) (D:=1000*(1+nn y)) (gg:=λb=>jk (qr T1 b.1,b.2)) (Fr.refl _ _) ae
  go_wp2
  exact⟨rfl,C1 _ _ HP⟩
 have c3:=q.c1;have c4:=q.c2;have C2:=C1.and q.m q.F q.c1 q.u (D2:=1000) ae;have gL:=q.step ST1.k ST1.n ST1.i;have T12:=UP.move q.F.size (λb p z=>q.F.block b z λr=>r.elim p.1 p.2)<|λ_ p _=>p;have T2':=ai q.t;have K2':=ai gL.k;have E2:=ai q.e;have W2':=ai q.we;have z2:=q.we.di;have lg2:=q.e.lt;have HP:=QH (w:=w2) BQ ta2 BS xa2;go_wp2_with fail;refine HP.mono ?_;rintro e w3⟨rfl,rfl⟩
 go_wp2
 go_ret2;have k3:Bq w2 (w2.alloc<|Cv #[Fv BQ BS,Fv ta2 xa2] 56):=bw _;obtain⟨⟨x1,y1,e1,z1⟩,wx⟩:=T12;have⟨⟨x2,y2,e2,z2'⟩,wy⟩:=uh T2';refine C2 _ _ (afg (W2'.af k3) (K2'.af k3) ⟨⟨.aJ lq [x1,x2],nj.ty (qv<|qw rfl) y1 y2 ⟨ae,ae⟩,dO.agt lq (by rw[lq,sK];intro e;simp at e) e1 e2,?_⟩,?_⟩ (E2.af k3) (Fr.of k3))
 .simp only[size,ah];omega
 .exact⟨by rw[lq,sK];intro e;simp at e,wx,wy,trivial⟩
section
variable {c:WC} {cnt:Nat}
def agy(h:WE w c cnt)(hk:WK w c cnt s kb)(hd:oh w (dt c) d v)(pW:d.any.Nodup)(hct:cnt<=1000000)(hz:size (sub s.k d.of)<=48->cnt+d.any.length<=1000000)f t:
 Cq 261 #[Pv c.eb,Mv kb,v,.agg #[Nv f,Nv t]] w (X8 c d f t s cnt w):=by
 have hf:=hk.Jd ae<|qv trivial;obtain⟨ta,xa,sa,sc,rfl,t1,T2⟩:=hd;have Iw:Whole (sub s.k d.of):=cd _ t1.wh λn _=>hf.wh n;have k0:Bq w ((w.alloc<|Cv #[Fv ta xa,Lv sa d.any.length sc] 393).alloc<|Cv #[Nv f,Nv t] 119):=(bw _).alloc ag _;have B1:=(Bx.new w #[Fv ta xa,Lv sa d.any.length sc] 393).below<|bw<|Cv #[Nv f,Nv t] 119;have B2:Hid (Bx ((w.alloc<|Cv #[Fv ta xa,Lv sa d.any.length sc] 393).alloc<|Cv #[Nv f,Nv t] 119) (w.heap.size+1) #[Nv f,Nv t]):=by
  have:=Bx.new (w.alloc<|Cv #[Fv ta xa,Lv sa d.any.length sc] 393) #[Nv f,Nv t] 119;rw[ba]at this;exact ai this
 have HO:=uY (hk.k.af k0) hk.n hf (br _)<|t1.af k0;have hcz:=t1.Xz hf<|br _;have zc:=h.di;have K0:=ai k0;clear hk t1 k0;go_enter func261,ntmps261;go_wp2_with fail;refine HO.mono ?_;rintro e w1⟨u,rfl,hu,k1⟩;have HS:=pU _ w1 _ _ hu hcz;obtain⟨n1,Cg⟩:∃n,n=sz (bK<|sub s.k d.of):=⟨_,rfl⟩;rw[<-Cg]at HS;have E1:=EY (sub s.k d.of) Iw;rw[<-Cg]at E1;obtain⟨tu,xu,rfl⟩:=hu.iface;have z0:=K0.size;simp only[ba]at z0;have KK1:=K0.trans<|k1.mono K0.size;have U1:=hu.wide (Q:=dt c) λi p=>by obtain p|p:=p;exact p;simp only[ba]at p;show i≠c.cb;omega
 have B3:=B1.below k1;have B4:=B2.below k1;clear hu k1 HO Cg B1 B2;go_wp2_with fail;refine HS.mono ?_;rintro e w2⟨rfl,k2⟩;have XC:=KK1.trans<|k2.mono KK1.size;have⟨c3,f3,z3⟩:=B3.below k2;have⟨c4,f4,z4⟩:=B4.below k2;have U2:=U1.af k2;clear k2 HS U1 B3 B4;by_cases Ux:48<n1
 .have hm:(48:Int)<(n1:Int):=ae;have HT:=m5 (w:=w2) (f:Int) (t:Int);go_wp2_with fail;refine HT.mono ?_;rintro e w3⟨rfl,K3⟩;clear HT;go_wp2_with fail;have XD:=XC.trans<|K3.mono XC.size;exact⟨rfl,Fr.of XD,qw ⟨E1.1.1 Ux,h.af XD,rfl⟩⟩
 .have hm:¬(48:Int)<(n1:Int):=ae;have hs:size (sub s.k d.of)<=48:=by have:=E1.1;omega
  have HA:=X7 (sc:=sc) (h.af XC) (T2.move XC.size (λi _ hi=>XC.block i hi)<|λ_ p _=>p) pW<|hz hs;have NR:=E1.2 hs;rw[NR]at U2;go_wp2_with fail;refine HA.mono ?_;rintro e w3⟨b,rfl,hb,W3,hs3,F3⟩;have ev:=Qy cnt d.any;have hu3:=U2.fr F3<|λi p _=>p;have Jj:=IP hs3 (show dt c b by have:=XC.size;show b≠c.cb;omega) hu3 ae (by rw[ev,iE];omega);rw[ev]at Jj;have hcut:bK (sub (jm<|rl cnt d.any)<|sub s.k d.of)=sub (jm<|rl cnt d.any) (sub s.k d.of):=zv (by rw[iE];exact hs)<|p8 _ _ Iw;rw[hcut]at Jj;have HF3:=(Fr.of XC).trans F3;clear hs3 F3 HA ev hu3 hcut NR;go_wp2_with fail;refine Jj.mono ?_;rintro e w4⟨u4,rfl,U4,k4⟩;obtain⟨tu4,xu4,rfl⟩:=U4.iface;have K4:=ai k4;clear k4 Jj
  go_wp2
  go_ret;have k4:=uh K4;have f3:=HF3;refine⟨f3.trans<|Fr.of k4,qv ⟨hs,W3.af k4,tu4,xu4,rfl,U4.wide λi p=>?_⟩⟩;obtain p|p:=p
  .exact p
  .show i≠c.cb;have:=f3.size;omega
end
section
variable {c:WC} {cnt:Nat}
def bS.look{P}{b}(h:bS w P b Γ){x}{d}(hx:Γ x=some d):∃v,oh w P d v/\(Instr.lookup 190 (Mv b) (.string x) false).run xq w=.ok v w:=by
 obtain⟨L,h1,h2,h3⟩:=h;have hl:=h1.ms.look UH dZ (kw w) x trivial (λ_ _=>trivial) false
 cases hg:a_ x L with
 |none=>grind|some v=>
  rw[hg]at hl;have⟨d',e,hs⟩:=h3 x v hg;rw[hx]at e;injection e with e;subst e;exact⟨v,hs,by simpa using hl⟩
def Yi(h:In.nZ Λ s d)(hn:d.any.Nodup):d.any.length<=size (sub s.k d.of):=by
 have h1:=ER (V:=vars []<|sub s.k d.of) hn λv hv=>(bJ (sub s.k d.of) [] v).2 (qv<|(mq d.of).2 ⟨v,h.sub v hv,by rw[(h.fix v hv).1];simp[aB]⟩);rw[cC]at h1;have h2:=cY (occs<|sub s.k d.of) [];have h3:=cZ<|sub s.k d.of;simp only[qP]at h2;omega
def ac3(mk:jp)x n f t a{Γ}(h:Γ x=some d):jf mk (.mk 1 x n [] f t a) Γ=λs o=>(48<size (sub s.k d.of)/\o=.error (qu f t))\/(size (sub s.k d.of)<=48/\∃ρ s',In.tq d.any qe s (.ok (ρ,s'))/\o=.ok (sub (jm ρ)<|sub s.k d.of,s')):=by
 simp[jf,jz,In.qT,h]
def Yj{x}(h:Fk (.mk 1 x n [] f t a) c w cnt s kb Λ Γ gb Q dom (.iface 253<|.agg #[Nv f,Nv t,.string x])):
 Cq 251 #[Pv c.eb,Mv kb,Mv gb,.iface 253<|.agg #[Nv f,Nv t,.string x]] w (bi c (1100*nn (.mk 1 x n [] f t a)) (1000*nn (.mk 1 x n [] f t a)) (jf c.mks (.mk 1 x n [] f t a) Γ) s cnt w):=by
 have en:nn (.mk 1 x n [] f t a)=1:=qBi;have hx:dom x:=by
  cases h.sc with
  |low _ _ _ _ _ _ hx=>exact hx|leaf _ _ _ _ _ _ _ hk=>omega
 obtain⟨d,hd⟩:∃d,Γ x=some d:=by
  cases hg:Γ x with
  |none=>exact absurd hg (h.hd x hx)|some d=>exact⟨d,rfl⟩
 rw[en,ac3 c.mks x n f t a hd];have W8:=h.ft.a;rw[en]at W8;have pW:=h.wg.nd x d hd;have fK:=Yi (h.wg.i x d hd) pW;have k0:Bq w (w.alloc<|Cv #[Nv f,Nv t,Sv x] 253):=bw _;have⟨v,hv,Ds⟩:=(h.wg.af k0).e.look hd;have H1:=agy (h.we.af k0) (h.wk.af k0) hv pW ae (λq=>ae) f t;obtain⟨ta,xa,sa,sc,rfl,NG,UL⟩:=hv;have HA:=ai h;have K0:=ai k0;have HWD:=ai NG.wh;go_enter func251,ntmps251;go_wp2_with fail;refine H1.mono ?_;rintro e w1⟨F1,hp⟩;obtain⟨hb,HW,rfl⟩|⟨hs,HW,tb,xb,rfl,HT⟩:=hp
 .have FF:=ai F1
  go_wp2
  exact⟨rfl,(Fr.of K0).trans FF,cnt,.error<|qu f t,br _,ae,HW,qw ⟨hb,rfl⟩,Zv,Zv,rfl,λ_=>⟨rfl,rfl⟩,λq=>by simp[qu]at q,qv rfl⟩
 .have FF:=(Fr.of (S:=λi=>i=c.cb) K0).trans F1
  go_wp2
  go_ret2;have h:=uh HA;refine⟨FF,cnt+d.any.length,.ok (sub (jm<|rl cnt d.any)<|sub s.k d.of,⟨s.k,λn=>s.u n\/(cnt<n/\n<=cnt+d.any.length)⟩),ae,ae,HW,qv ⟨hs,_,_,⟨_,_,Dv cnt d.any pW h.wk.u,rfl⟩,rfl⟩,λn q=>q,h.wk.wh,tb,xb,kb,rfl,h.wk.n,h.wk.k.fr FF h.wk.n<|λ_ p _=>p,TW.of HT ?_ ?_⟩
  .exact p8 _ _ (cd _ HWD λn _=>h.wk.wh n)
  .rw[iE];omega
end
section
variable {c:WC} {cnt:Nat}
def Jk(h:gM w 85 base v (oM l)):∃sa sc,v=.slice sa l.length sc/\rQ w (λi=>base<=i) sa l:=by
 by_cases hl:l=[]
 .subst hl;have⟨va,vc,e⟩:=dM h (n:=0) (by simp[oM]);exact⟨va,vc,e,qw rfl⟩
 .have acX:0<(oM l).length:=by rw[fk];exact xo<|λe=>hl<|xf e
  obtain⟨g,cp,m,rfl,hg,iP,hm⟩:=iB h acX;have hm:=uh hm;rw[fk]at hm;subst hm;refine⟨some ⟨g,0,none⟩,cp,rfl,qv ⟨g,rfl,hg,iP,λi hi=>?_⟩⟩;have:=mC h i (by rw[fk];exact hi);rw[this];simp[oM]
def DA(h:WE w c cnt)(hm:cX w P m v)(hz:size m<=1000)(hc:cnt<=900000):Cq 262 #[Pv c.eb,v] w (Jc c cnt (vars [] m) w):=by
 have HV:=fO hm ae;have hl:(vars [] m).length<=1000:=by
  rw[cC];have h2:=cY (occs m) [];have h3:=cZ m;simp only[qP]at h2;omega
 obtain⟨ta,xa,rfl⟩:=hm.iface;have zc:=h.di;go_enter func262,ntmps262;go_wp2_with fail;refine HV.mono ?_;rintro e w1⟨V,rfl,ho,K1⟩;obtain⟨sa,sc,rfl,hr⟩:=Jk ho;have HA:=X7 (sc:=sc) (h.af K1) (hr.move (br _) (λ_ _ _=>rfl) (Q:=dt c) λi p _=>by show i≠c.cb;omega) (de m List.nodup_nil) ae;go_wp2_with fail;refine HA.mono ?_;rintro e w2⟨b,rfl,HB,W2,S2,UI⟩
 go_wp2
 go_ret;exact⟨b,rfl,xk K1.size HB,W2,S2,(Fr.of K1).trans UI⟩
def ajb P(tk:List Ty)m w gk(v3 v4:Value)wr:=
 ∃j:Nat,Hid (gk=j)/\j<=tk.length/\v4=Iv ((j:Int)-1)/\(∃ta xa,v3=.iface ta xa/\cX wr P (qg (tk.drop j) m) (.iface ta xa))/\Bq w wr
def xA{tk}(h:W7 w P tk m v)(hl:tk.length<=1000):Cq 263 #[v] w (λe w'=>∃u,e=.returned u/\cX w' (λi=>P i\/w.heap.size<=i) (qg tk m) u/\Bq w w'):=by
 obtain⟨sa,sc,ta,xa,rfl,HR,hm⟩:=h;have⟨k0,B0⟩:=oF w #[Lv sa tk.length sc,Fv ta xa] 396;have HM:=hm.w.af k0;have K0:=ai k0;go_enter func263,ntmps263
 go_wp2
 go_loopg[3,4] tk.length (λgk v3 v4 wr=>ajb (λi=>P i\/w.heap.size<=i) tk m w gk v3 v4 wr/\Bx wr w.heap.size #[Lv sa tk.length sc,Fv ta xa])
 case atStart=>
  refine⟨⟨tk.length,ai rfl,br _,i_,⟨ta,xa,rfl,?_⟩,uh K0⟩,B0⟩;rw[xd];exact HM.wide λi p=>qw p
 case round=>
  obtain⟨⟨j,cV,hj,rfl,⟨tt,xx,rfl,HT⟩,HK⟩,hB⟩:=hrel;obtain⟨b1,b2,b3⟩:=hB;have BB:=show Bx wr w.heap.size #[Lv sa tk.length sc,Fv ta xa]from⟨b1,b2,b3⟩;by_cases hj0:j=0
  .subst hj0;have hd:decide ((0:Int)<=((0:Nat):Int)-1)=false:=aw
   go_wp2
   go_ret;exact⟨_,rfl,by simpa using HT,HK⟩
  .obtain⟨i,rfl⟩:∃i,j=i+1:=⟨j-1,ae⟩;have ei:(((i+1:Nat):Int)-1)=(i:Int):=ae;rw[ei];have NU:i<tk.length:=ae;obtain⟨g,vs,rfl,hg,iP,bQ⟩:=HR.resolve_left (λe=>by subst e;simp at NU);have⟨cg,tg⟩:=bQ i NU;have cg':=(xt (a:=⟨g,i,none⟩)<|HK.block g iP).trans cg;have TG:=tg.w.af HK;have⟨tb,xb,evs⟩:=tg.w.iface;rw[evs]at cg' TG;have Jl:(0:Int)<=(i:Int):=ae;have bA:(i:Int)<(tk.length:Int):=ae;go_wp2_with fail;refine(xB (w:=wr) _ _ _ _).mono ?_;rintro e w7⟨rfl,rfl⟩;go_wp2_with fail;have k7:Bq wr (wr.alloc<|Cv #[Fv tb xb,Fv tt xx] 56):=bw _;go_roundg i
   case measure=>rw[uh cV];omega
   case rel=>
    refine⟨⟨i,ai rfl,ae,i_,⟨_,_,rfl,?_⟩,HK.trans<|k7.mono HK.size⟩,BB.below k7⟩;rw[qx NU];exact nj.ty aff (TG.wide λi p=>qw p) HT<|qv HK.size
end
section
variable {c:WC} {cnt:Nat}
def ac4 tk m n(h:aB n m):aB n (qg tk m):=by
 induction tk with
 |nil=>exact h|cons t tk ih=>
  show aB n<|j9 t<|qg tk m;simp only[aB,bX,or_false];exact qv ih
def tw tk m:size m+tk.length<=size (qg tk m):=by
 induction tk with
 |nil=>exact br _|cons t tk ih=>
  show _<=size (j9 t<|qg tk m);simp only[size,ah,kh];omega
def Jm{l'}{dP}{u u'}(h:qp l ρ dP u u')(hl:∀v,v∈l↔v∈l'):qp l' ρ dP u u':=⟨h.eW,λv q=>h.out v λr=>q<|(hl v).1 r,λv q=>h.all v<|(hl v).2 q,h.new,h.one,h.use⟩
def ac5:Tryz.prog.underlying 188=some (.map 9 396):=qkr
def agz w:(zeroValue 396).run xq w=.ok (.agg #[.slice none 0 0,.nilIface]) w:=qkr
def nh.look{P}{b}{mk}(h:nh w P b mk){x}{tk}{m}(hx:mk x=some (tk,m)):∃v,W7 w P tk m v/\∀w':World,w'.heap[b]? =w.heap[b]? ->(Instr.lookup 188 (Mv b) (.string x) false).run xq w'=.ok v w':=by
 obtain⟨L,h1,h2,h3⟩:=h
 cases hg:a_ x L with
 |none=>grind|some v=>
  have⟨tk',m',e,hs⟩:=h3 x v hg;rw[hx]at e;injection e with e;injection e with e1 e2;subst e1 e2;refine⟨v,hs,λw' hb=>?_⟩;have hl:=(h1.same hb).ms.look UH ac5 (agz w') x trivial (λ_ _=>trivial) false;rw[hg]at hl;simpa using hl
theorem W7.move{P Q}{w'}{tk}{m}{v}(h:W7 w P tk m v)(hs:w.heap.size<=w'.heap.size)(hb:∀b,P b->b<w.heap.size->w'.heap[b]? =w.heap[b]?)(hq:∀b,P b->b<w.heap.size->Q b):W7 w' Q tk m v:=by
 obtain⟨sa,sc,ta,xa,rfl,q1,q2⟩:=h;exact⟨sa,sc,ta,xa,rfl,q1.move hs hb hq,q2.move hs hb hq⟩
def Yk(mk:jp)x n f t a(Γ:jc){tk}(h:mk x=some (tk,m)):jf mk (.mk 2 x n [] f t a) Γ=ja (qf (qg tk m) qe) λq=>jk q.1:=by
 simp[jf,jz,In.upM,h]
def ajc a n k tb b w:(Instr.field 396 (.agg #[.slice a n k,.iface tb b]) 1).run xq w=.ok (.iface tb b) w:=qkr
structure RnA(c:WC)cnt(l:List Nat)w w' b:Prop where
 z:c.cb<b
 we:WE w' c (cnt+l.length)
 sb:fC w' (dt c) b (λv=>(rl cnt l v).map Ty.var)
 F:Fr (λi=>i=c.cb) w w'
end
open Classical in
noncomputable def gT (R:jq) (D:Nat->Prop):jq:=λv=>if D v then R v else none
def zV(R:jq):gT R (λ_=>False)=qe:=by funext v;simp[gT,qe]
def fP{D:Nat->Prop}{v:Nat}(h:D v):gT R D v=R v:=by simp[gT,h]
def vg{D:Nat->Prop}{v:Nat}(h:¬D v):gT R D v=none:=by simp[gT,h]
def kx{D:Nat->Prop}{v:Nat}(h:gT R D v=some n):D v/\R v=some n:=by grind[gT]
def comes(R:jq)(D:Nat->Prop)t(u:Nat->Prop)n:=u n\/∃v,¬D v/\aB v t/\R v=some n
def UQ{D:Nat->Prop}{u:Nat->Prop}{t:Ty}(ht:∀v,aB v t->R v≠none)(hi:∀v v' n,R v=some n->R v'=some n->v=v')(hu:∀v n,¬D v->R v=some n->¬u n):
 qp (vars [] t) (gT R D) (gT R<|λv=>D v\/aB v t) u (comes R D t u) where
 eW v n h:=by have⟨h1,h2⟩:=kx h;rw[fP<|qw h1];exact h2
 out v h:=by
  have h:¬aB v t:=λq=>h<|In.aq.2 q;by_cases q:D v
  .rw[fP<|qw q,fP q]
  .rw[vg<|λr=>r.elim q h,vg q]
 all v h:=by
  have h:=In.aq.1 h;rw[fP<|qv h];exact ht v h
 new v n h1 h2:=by
  have⟨h3,h4⟩:=kx h2;by_cases q:D v
  .rw[fP q]at h1;rw[h1]at h4;cases h4
  .exact hu v n q h4
 one v v' n _ h2 h3:=hi v v' n (kx h2).2 (kx h3).2
 use n:=by
  rw[comes];refine⟨λq=>q.imp id ?_,λq=>q.imp id ?_⟩
  .rintro⟨v,h1,h2,h3⟩;exact⟨v,vg h1,by rw[fP<|qv h2];exact h3⟩
  .rintro⟨v,h1,h2⟩;have⟨h3,h4⟩:=kx h2;by_cases q:D v
   .rw[fP q]at h1;rw[h1]at h4;cases h4
   .grind
def DB{D:Nat->Prop}{t:Ty}(ht:∀v,aB v t->R v≠none)(hi:∀v v' n,R v=some n->R v'=some n->v=v')(hu:∀v n,¬D v->R v=some n->¬s.u n):
 qf t (gT R D) s (.ok ((sub (jm R) t,gT R<|λv=>D v\/aB v t),⟨s.k,comes R D t s.u⟩)):=by
 refine qv ⟨gT R<|λv=>D v\/aB v t,_,⟨_,_,UQ ht hi hu,rfl⟩,?_⟩;have e:sub (jm<|gT R<|λv=>D v\/aB v t) t=sub (jm R) t:=sub_congr t λn hn=>by unfold jm;rw[fP (D:=λv=>D v\/aB v t)<|qv hn]
 show Except.ok _=Except.ok _;rw[e]
def fH{β γ:Type}{m}{g:α->jh β}{h:β->jh γ}{o:Except qi (γ×jd)}(q:ja m (λa=>ja (g a) h) s o):ja (ja m g) h s o:=by
 obtain⟨x,q1,rfl⟩|⟨a,s1,q1,⟨x,q2,rfl⟩|⟨b,s2,q2,q3⟩⟩:=q
 .exact qw ⟨x,qw ⟨x,q1,rfl⟩,rfl⟩
 .exact qw ⟨x,qv ⟨a,s1,q1,q2⟩,rfl⟩
 .exact qv ⟨b,s2,qv ⟨a,s1,q1,q2⟩,q3⟩
def Yl m(q:jc×jq):=ja (qf m q.2) λi=>jk (i.1,q.1)
def gU(mk:jp)(tk:List Ty)m(L:List Nd)j g(ρ:jq):=ja (In.kB (tk.drop j) (L.drop j) (qs mk<|L.drop j) g ρ)<|Yl m
def zY{tk}(h:mk st=some (tk,m))n L f t a g:jl mk (.mk 2 st n L f t a) g=gU mk tk m L 0 g qe:=by
 simp[jl,qk,h,gU];rfl
def vh{tk:List Ty}(hl:L.length=tk.length)(hj:j<L.length){o:Except qi ((Ty×jc)×jd)}(h:ja (jl mk L[j] g) (λq=>ja (qf (tk[j]' ae) ρ) λi=>ja (jo q.1 i.1 (j7 L[j])<|qj L[j]) λ_=>gU mk tk m L (j+1) q.2 i.2) s o):gU mk tk m L j g ρ s o:=by
 unfold gU at*;rw[qx hj,qx<|show j<tk.length by omega];show ja (ja (jl mk L[j] g) λq=>ja (qf (tk[j]' ae) ρ) λi=>ja (jo q.1 i.1 (j7 L[j])<|qj L[j]) λ_=>In.kB (tk.drop<|j+1) (L.drop<|j+1) (qs mk<|L.drop<|j+1) q.2 i.2) (Yl m) s o;refine fH ?_;obtain⟨x,q1,rfl⟩|⟨a,s1,q1,h⟩:=h
 .exact qw ⟨x,q1,rfl⟩
 refine qv ⟨a,s1,q1,fH ?_⟩;obtain⟨x,q1,rfl⟩|⟨b,s2,q2,h⟩:=h
 .exact qw ⟨x,q1,rfl⟩
 exact qv ⟨b,s2,q2,fH h⟩
def Jn{tk}(hl:L.length=tk.length){o:Except qi ((Ty×jc)×jd)}(h:Yl m (g,ρ) s o):gU mk tk m L L.length g ρ s o:=by
 rw[gU];rw[xd,hl,xd];exact qv ⟨(g,ρ),s,rfl,h⟩
structure MdR(c:WC)cnt(tk:List Ty)m(R:jq):Prop where
 e:R=rl cnt (vars [] m)
 a:∀i(h:i<tk.length)v,aB v tk[i]->aB v m
def MdR.one{c:WC}{cnt}{tk}{m:Ty}{R:jq}(h:MdR c cnt tk m R):∀v v' n,R v=some n->R v'=some n->v=v':=λv v' n h1 h2=>by
 rw[h.e]at h1 h2;rw[rl]at h1 h2;split at h1<;>split at h2
 .rename_i q1 q2;injection h1 with h1;injection h2 with h2;exact Jb q1 q2 ae
 .cases h2
 .cases h1
 .cases h1
def MdR.num{c:WC}{cnt}{tk}(h:MdR c cnt tk m R){v:Nat}(q:R v=some n):cnt<n/\n<=cnt+(vars [] m).length:=by
 rw[h.e]at q;rw[rl]at q;split at q
 .rename_i q1;have:=List.idxOf_lt_length_iff.2 q1;injection q with q;omega
 .cases q
def MdR.has{c:WC}{cnt}{tk}(h:MdR c cnt tk m R){v:Nat}(q:aB v m):R v≠none:=by
 rw[h.e];rw[rl];rw[if_pos<|In.aq.2 q];simp
structure MdS(c:WC)gv cnt(s:jd)w(R:jq)(p:jh (Ty×jc))(Λ:Nat->Prop)tk m L j wr cj(sj:jd)kj g D:Prop where
 F:Fr (λi=>i=c.cb\/i=gv) w wr
 we:WE wr c cj
 wk:Dz wr c gv cj sj kj
 n:∀n,¬sj.u n->Λ n
 e:bS wr (qS c gv) gv g
 i:j3 Λ sj g
 r:In.iF Λ sj (gT R D)
 fr:∀v n,¬D v->R v=some n->¬sj.u n
 u:∀n,sj.u n->s.u n\/(cnt<n/\n<=cj)
 c1:cnt+(vars [] m).length<=cj
 c2:cj+1000*bV (L.drop j)<=cnt+1000*(1+bV L)
 p:∀o,gU c.mks tk m L j g (gT R D) sj o->p s o
structure MdT(c:WC)gv cnt(s:jd)w(R:jq)(p:jh (Ty×jc))(Λ:Nat->Prop)tk m L j wr cj(sj:jd)kj g D T U f t:Prop where
 F:Fr (λi=>i=c.cb\/i=gv) w wr
 we:WE wr c cj
 wk:Dz wr c gv cj sj kj
 n:∀n,¬sj.u n->Λ n
 e:bS wr (qS c gv) gv g
 i:j3 Λ sj g
 r:In.iF Λ sj (gT R D)
 fr:∀v n,¬D v->R v=some n->¬sj.u n
 u:∀n,sj.u n->s.u n\/(cnt<n/\n<=cj)
 c1:cnt+(vars [] m).length<=cj
 c2:cj+1000*bV (L.drop<|j+1)<=cnt+1000*(1+bV L)
 ti:jj Λ sj T
 ui:jj Λ sj U
 p:∀o,ja (jo T U f t) (λ_=>gU c.mks tk m L (j+1) g<|gT R D) sj o->p s o
section
variable {wr:World} {c:WC} {cnt cj c1:Nat} {sj:jd} {kj k1:Nat} {D:Nat->Prop} {p:jh (Ty×jc)} {tk:List Ty}
def MdS.arg{S DD:Nat}{T:Ty}{ta:TypeId}{xa:Value}(hR:MdR c cnt tk m R)(hl:L.length=tk.length)(hj:j<L.length)(jA:∀n,s.u n->us cnt n)(h:MdS c gv cnt s w R p Λ tk m L j wr cj sj kj g D)(q:ac1 c gv S (1000*nn L[j]) (jl c.mks L[j] g) sj cj wr c1 T g1 s1 ta xa k1 w1):∃s2,MdT c gv cnt s w R p Λ tk m L j w1 c1 s2 k1 g1 (λv=>D v\/aB v (tk[j]' ae)) T (sub (jm R)<|tk[j]' ae) (j7 L[j])<|qj L[j]:=by
 have st:=q.step h.wk h.n h.i;have yv:∀v n,¬D v->R v=some n->¬s1.u n:=λv n a b z=>by
  have hb:=hR.num b;obtain r|r:=q.u n z
  .exact h.fr v n a b r
  .have:=h.c1;omega
 have E_:=DB (R:=R) (s:=s1) (t:=tk[j]' ae) (λv o=>hR.has<|hR.a j ae v o) hR.one yv;have⟨g1',g2,g3⟩:=In.tA st.k.ok st.n (h.r.run st.p.run) (tk[j]' ae) _ _ E_;have hd:bV (L.drop j)=nn L[j]+bV (L.drop<|j+1):=by rw[qx hj];rfl
 have c2:=h.c2;have qc1:=q.c1;have qc2:=q.c2;have hc1:=h.c1;have alm:∀v n,R v=some n->cnt<n/\n<=c1:=λv n r=>by have:=hR.num r;omega
 refine⟨⟨s1.k,comes R D (tk[j]' ae) s1.u⟩,h.F.trans q.F,q.we,⟨st.k.k,st.k.n,λn z=>?_,g1'.ok,st.k.wh⟩,g1'.new,q.e,st.i.run g1'.run,g3,λv n a b z=>?_,λn z=>?_,ae,ae,st.t.run g1'.run,g2,λo ho=>h.p o<|vh hl hj<|qv ⟨(T,g1),s1,q.m,qv ⟨_,_,E_,ho⟩⟩⟩
 .obtain z|⟨v,_,_,z⟩:=z
  .exact st.k.u n z
  .have:=alm v n z;rw[us];omega
 .obtain z|⟨v',z1,z2,z3⟩:=z
  .grind
  .exact a (qv<|hR.one v' v n z3 b▸z2)
 .obtain z|⟨v,_,_,z⟩:=z
  .obtain r|r:=q.u n z
   .exact(h.u n r).imp id λr=>ae
   .omega
  .grind
def MdT.next(h:MdT c gv cnt s w R p Λ tk m L j wr cj sj kj g D T U f t)(hb:Bq wr w1){s'}(he:jo T U f t sj (.ok ((),s')))(hk:qh Λ sj s')(hw:Dz w1 c gv cj s' b)(hu:s'.u=sj.u):MdS c gv cnt s w R p Λ tk m L (j+1) w1 cj s' b g D:=
 ⟨h.F.trans<|Fr.of hb,h.we.af hb,hw,hk.new,h.e.af hb,h.i.run hk.run,h.r.run hk.run,λv n a b z=>h.fr v n a b<|hu▸z,λn z=>h.u n<|hu▸z,h.c1,h.c2,λo ho=>h.p o<|qv ⟨(),s',he,ho⟩⟩
def MdT.no(h:MdT c gv cnt s w R p Λ tk m L j wr cj sj kj g D T U f t)(hb:Bq wr w1)(hD:1000*(1+bV L)<=DD)(he:jo T U f t sj (.error z))(hf:rM w1 (dt c) z vl vr):ed c gv S DD p s cnt w (Dx z.f vl vr) w1:=
 ⟨h.F.trans<|Fr.of hb,cj,.error z,by have:=h.c1;omega,by have:=h.c2;omega,h.we.af hb,h.p _<|qw ⟨z,he,rfl⟩,vl,vr,rfl,hf⟩
def MdS.no(hl:L.length=tk.length)(hj:j<L.length)(h:MdS c gv cnt s w R p Λ tk m L j wr cj sj kj g D)(hD:1000*(1+bV L)<=DD)(q:ac2 c gv (1000*nn L[j]) (jl c.mks L[j] g) sj cj wr c1 z vl vr w1):ed c gv S DD p s cnt w (Dx z.f vl vr) w1:=
 ⟨h.F.trans q.F,c1,.error z,by have:=h.c1;have:=q.c1;omega,by
  have hd:bV (L.drop j)=nn L[j]+bV (L.drop<|j+1):=by rw[qx hj];rfl
  have:=h.c2;have:=q.c2;omega,q.we,h.p _<|vh hl hj<|qw ⟨z,q.m,rfl⟩,vl,vr,rfl,q.f⟩
def MdS.done(hR:MdR c cnt tk m R)(hl:L.length=tk.length)(h:MdS c gv cnt s w R p Λ tk m L L.length wr cj sj kj g D)(hb:Bq wr w1)(hD:1000*(1+bV L)<=DD)(ht:TW w1 (qS c gv) S (sub (jm R) m) (.iface ta xa)):ed c gv S DD p s cnt w (.returned<|.tuple #[.iface ta xa,Mv kj]) w1:=by
 have E_:=DB (R:=R) (s:=sj) (t:=m) (λv o=>hR.has o) hR.one h.fr;refine⟨h.F.trans<|Fr.of hb,cj,.ok ((sub (jm R) m,g),⟨sj.k,comes R D m sj.u⟩),by have:=h.c1;omega,by have:=h.c2;omega,h.we.af hb,h.p _<|Jn hl<|qv ⟨_,_,E_,rfl⟩,λn z=>?_,h.wk.wh,ta,xa,kj,rfl,h.wk.n,h.wk.k.af hb,ht,h.e.af hb⟩;obtain z|⟨v,_,_,z⟩:=z
 .exact h.u n z
 .have:=hR.num z;exact qv ⟨this.1,by have:=h.c1;omega⟩
def fC.bare{R:jq}(h:fC w P b (λv=>(R v).map Ty.var)):fC w Q b (λv=>(R v).map Ty.var):=by
 obtain⟨L,h1,h2,h3,h4⟩:=h;refine⟨L,h1,h2,λn u hu=>?_,h4⟩;have⟨t,e,ht⟩:=h3 n u hu;refine⟨t,e,?_⟩
 cases hr:R n with
 |none=>simp[hr]at e|some k=>
  simp only[hr,Option.map_some,Option.some.injEq]at e;subst e
  cases ht
  exact .var k
end
structure gV n0 M c w0 cnt0(s0:jd)Λ(Γ:jc)gb(Q:Nat->Prop)(dom:BA->Prop)D p(P:World->jd->Prop)(s:jd)cnt kb w:Prop where
 wg:WG w0 c s0 Λ Γ gb
 hq:∀b,Q b->b≠c.cb
 hd:∀x,dom x->Γ x≠none
 ft:Fit c cnt0 n0
 mf:MkFine c.mks
 f:Fr (λi=>i=c.cb) w0 w
 we:WE w c cnt
 st:Fh w0 w c cnt s0 s Λ kb
 cl:Cl c (1100*n0) (1000*n0) M s0 cnt0 w0 D p s cnt w
 lv:∀w' s',Fr (λi=>i=c.cb) w w'->qh Λ s s'->P w' s'
 cn:cnt+D<=cnt0+1000*n0
section
variable {n0:Nat} {M:jh Ty} {c:WC} {cnt0 cnt D2 kb0:Nat} {P P':World->jd->Prop} {post:Ending->World->Prop}
def gV.start(h:Fk nd c w0 cnt0 s0 kb0 Λ Γ gb Q dom v)(e:jf c.mks nd Γ=q):gV (nn nd) (jf c.mks nd Γ) c w0 cnt0 s0 Λ Γ gb Q dom (1000*nn nd) q (λ_ _=>True) s0 cnt0 kb0 w0:=⟨h.wg,h.hq,h.hd,h.ft,h.mf,Fr.refl _ _,h.we,⟨h.wk,h.hn,In.Kp.refl h.wk.ok h.hn⟩,λ_ _ h=>e▸h,λ_ _ _ _=>trivial,br _⟩
def gV.p(H:gV n0 M c w0 cnt0 s0 Λ Γ gb Q dom D q P s cnt kb w):P w s:=H.lv _ _ (Fr.refl _ _)<|In.Kp.refl H.st.k.ok H.st.n
def gV.af(H:gV n0 M c w0 cnt0 s0 Λ Γ gb Q dom D q P s cnt kb w)(k:Bq w w'):gV n0 M c w0 cnt0 s0 Λ Γ gb Q dom D q P s cnt kb w':=
 ⟨H.wg,H.hq,H.hd,H.ft,H.mf,H.f.trans<|Fr.of k,H.we.af k,⟨H.st.k.af k,H.st.n,H.st.p⟩,λe w2 h=>H.cl e w2 ⟨(Fr.of k).trans h.1,h.2⟩,λw2 s2 a b=>H.lv w2 s2 ((Fr.of k).trans a) b,H.cn⟩
def gV.drew(H:gV n0 M c w0 cnt0 s0 Λ Γ gb Q dom D q P s cnt kb w):gV n0 M c w0 cnt0 s0 Λ Γ gb Q dom D q P s cnt kb w.drew:=H.af (xy _ _).drew
def gV.add(H:gV n0 M c w0 cnt0 s0 Λ Γ gb Q dom D q P s cnt kb w)(h:∀w' s',Fr (λi=>i=c.cb) w w'->qh Λ s s'->P' w' s'):gV n0 M c w0 cnt0 s0 Λ Γ gb Q dom D q (λw s=>P w s/\P' w s) s cnt kb w:=⟨H.wg,H.hq,H.hd,H.ft,H.mf,H.f,H.we,H.st,H.cl,λw s a b=>⟨H.lv w s a b,h w s a b⟩,H.cn⟩
def gV.box{C}{t}(H:gV n0 M c w0 cnt0 s0 Λ Γ gb Q dom D q P s cnt kb w):gV n0 M c w0 cnt0 s0 Λ Γ gb Q dom D q (λw' s=>P w' s/\Bx w' w.heap.size C) s cnt kb (w.alloc<|.cells C t):=
 (H.af<|bw _).add λw' _ a _=>(Bx.new w C t).fr a (by have:=H.we.di;omega)
def gV.asks(H:gV n0 M c w0 cnt0 s0 Λ Γ gb Q dom D q P s cnt kb w)(K:Bq w W)(he:bS W (dt c) b (ji Γ st d))(hz:w.heap.size<=b)(hi:In.nZ Λ s d)(ha:d.any.Nodup)(jA:st∈c.nl)(hx:PE w0 Q x vx)(sx:ScE c.mks c.nl XV x)(hd:∀y,XV y->dom y\/y=st)(hD:1000*nn x<=D)(hn:nn x<=n0):Fk x c W cnt s kb Λ (ji Γ st d) b Q XV vx:=
 ⟨H.we.af K,H.st.k.af K,H.st.n,(H.wg.fr H.f H.st.p.run).set he (by have:=H.we.di;omega) hi ha jA,(hx.move H.f.size (λb p z=>H.f.block b z<|H.hq b p)<|λ_ p _=>p).af K,H.hq,sx,λy q=>Fm H.hd y<|hd y q,H.ft.le qBw hn,H.mf⟩
def gV.exG{g:Ty->jh Ty}{dE}{Yb}(H:gV n0 M c w0 cnt0 s0 Λ Γ gb Q dom D (ja (jf c.mks x dE) g) P s cnt kb w)(K:Bq w W)(Hx:Dy x)(a:Fk x c W cnt s kb Λ dE Yb Q XV vx)(ok:∀T ta xa s' aE NV w',gV n0 M c w0 cnt0 s0 Λ Γ gb Q dom D2 (g T) (λw s=>P w s/\TW w (dt c) (1100*nn x) T (.iface ta xa)/\jj Λ s T) s' aE NV w'->post (.returned<|.tuple #[.iface ta xa,Mv NV]) w')(hD:D2+1000*nn x<=D:=by omega)(bad:∀f l r w',bi c (1100*n0) (1000*n0) M s0 cnt0 w0 (Dx f l r) w'->post (Dx f l r) w':=by exact λ_ _ _ _ h=>⟨rfl,h⟩):
 Cq 251 #[Pv c.eb,Mv kb,Mv Yb,vx] W post:=by
 refine(Hx c W cnt s kb Λ dE Yb Q XV vx a).mono λe w' hp=>?_;obtain⟨ak,z,vl,vr,rfl,q⟩|⟨ak,T,s1,ta,xa,jI,rfl,q⟩:=hp.split
 .exact bad _ _ _ _ (H.cl _ _<|q.post (Fr.of K) ae)
 .have⟨st,ty⟩:=q.step a.wk a.hn a.wg;have:=q.c1;have:=q.c2;have:=H.cn;have F:=(Fr.of (S:=λi=>i=c.cb) K).trans q.F;exact ok T ta xa s1 ak jI w' ⟨H.wg,H.hq,H.hd,H.ft,H.mf,H.f.trans F,q.we,H.st.and ⟨st.k,st.n,st.p⟩,H.cl.and q.m F q.c1 q.u ae,λw2 s2 a b=>⟨H.lv w2 s2 (F.trans a)<|st.p.trans b,q.t.fr a<|λ_ p _=>p,ty.run b.run⟩,ae⟩
def gV.ex{g:Ty->jh Ty}(H:gV n0 M c w0 cnt0 s0 Λ Γ gb Q dom D (ja (jf c.mks x Γ) g) P s cnt kb w)(Hx:Dy x)(hx:PE w0 Q x vx)(sx:ScE c.mks c.nl dom x)(ok:∀T ta xa s' aE NV w',gV n0 M c w0 cnt0 s0 Λ Γ gb Q dom D2 (g T) (λw s=>P w s/\TW w (dt c) (1100*nn x) T (.iface ta xa)/\jj Λ s T) s' aE NV w'->post (.returned<|.tuple #[.iface ta xa,Mv NV]) w')(hD:D2+1000*nn x<=D:=by omega)(hn:nn x<=n0:=by rw[en];omega)(bad:∀f l r w',bi c (1100*n0) (1000*n0) M s0 cnt0 w0 (Dx f l r) w'->post (Dx f l r) w':=by exact λ_ _ _ _ h=>⟨rfl,h⟩):
 Cq 251 #[Pv c.eb,Mv kb,Mv gb,vx] w post:=
 H.exG (xy _ _) Hx ⟨H.we,H.st.k,H.st.n,H.wg.fr H.f H.st.p.run,hx.move H.f.size (λb p z=>H.f.block b z<|H.hq b p)<|λ_ p _=>p,H.hq,sx,H.hd,H.ft.le qBw hn,H.mf⟩ ok hD bad
section
variable {Y:Ty} {g:Unit->jh Ty} {v1 v2:Value}
def gV.eqc(H:gV n0 M c w0 cnt0 s0 Λ Γ gb Q dom D (ja (jo X Y f t) g) P s cnt kb w)(K:Bq w W)(hx:TW W (dt c) S X v1)(hy:TW W (dt c) S Y v2)(tx:jj Λ s X)(ty:jj Λ s Y)(hS:S<=900000:=by omega):
 Cq 252 #[Mv kb,v1,v2,.agg #[Nv f,Nv t]] W λe w'=>(∃fl l r,e=Dx fl l r/\bi c (1100*n0) (1000*n0) M s0 cnt0 w0 e w')\/Je c cnt s Λ X Y f t w e w':=by
 have:=H.cn;have:=H.ft.a;refine(ai5 (H.we.af K) (H.st.k.af K) H.st.n ae hS hx hy tx ty f t).mono λe w' q=>?_;obtain q|q:=q.or
 .obtain⟨fl,l,r,h1,h2⟩:=q.post (H.we.af K)<|Fr.of K;exact .inl ⟨fl,l,r,h1,H.cl _ _ h2⟩
 .exact .inr (q.up K)
def gV.eqd(H:gV n0 M c w0 cnt0 s0 Λ Γ gb Q dom D (ja (jo X Y f t) g) P s cnt kb w)(q:Je c cnt s Λ X Y f t w (.returned u) w'):∃NV s',u=Mv NV/\gV n0 M c w0 cnt0 s0 Λ Γ gb Q dom D (g ()) P s' cnt NV w':=by
 obtain⟨b,e,k,s',he,kp,wk,hu⟩:=q;injection e with e;exact⟨b,s',e,H.wg,H.hq,H.hd,H.ft,H.mf,H.f.trans<|Fr.of k,H.we.af k,⟨wk,kp.new,H.st.p.trans kp⟩,H.cl.and he (Fr.of k) (br _) (λn q=>qw<|hu▸q)<|br _,λw2 s2 a b=>H.lv w2 s2 ((Fr.of k).trans a)<|kp.trans b,H.cn⟩
def gV.eq(H:gV n0 M c w0 cnt0 s0 Λ Γ gb Q dom D (ja (jo X Y f t) g) P s cnt kb w)(hx:TW w (dt c) S X v1)(hy:TW w (dt c) S Y v2)(tx:jj Λ s X)(ty:jj Λ s Y)(ok:∀NV s' w',gV n0 M c w0 cnt0 s0 Λ Γ gb Q dom D (g ()) P s' cnt NV w'->post (.returned<|Mv NV) w')(hS:S<=900000:=by omega)(bad:∀f l r w',bi c (1100*n0) (1000*n0) M s0 cnt0 w0 (Dx f l r) w'->post (Dx f l r) w':=by exact λ_ _ _ _ h=>⟨rfl,h⟩):Cq 252 #[Mv kb,v1,v2,.agg #[Nv f,Nv t]] w post:=
 (H.eqc (xy _ _) hx hy tx ty hS).mono λe w' q=>by
  obtain⟨fl,l,r,rfl,q⟩|q:=q
  .exact bad _ _ _ _ q
  .have h:=q;obtain⟨b,rfl,-⟩:=q;have⟨NV,s',e,H⟩:=H.eqd h
   cases e
   exact ok _ _ _ H
end
def gV.new{g}(H:gV n0 M c w0 cnt0 s0 Λ Γ gb Q dom D (ja jx g) P s cnt kb w)(ok:∀s' w',gV n0 M c w0 cnt0 s0 Λ Γ gb Q dom D2 (g<|cnt+1) (λw s=>P w s/\jj Λ s (.var<|cnt+1)) s' (cnt+1) kb w'->post (.returned<|Iv<|(cnt:Int)+1) w')(hD:D2+1<=D:=by omega):Cq 32 #[Pv c.cb] w post:=by
 have cn:=H.cn;have:=H.ft.a;have⟨W,F⟩:=H.we.fresh;have⟨m,st,ty⟩:=zR H.st.k H.st.n F;refine(oO cnt ae H.we.ct).mono ?_;rintro e w'⟨rfl,rfl⟩;exact ok _ _ ⟨H.wg,H.hq,H.hd,H.ft,H.mf,H.f.trans F,W,H.st.and st,H.cl.and m F ae (λn q=>q.imp id λq=>ae) ae,λw2 s2 a b=>⟨H.lv w2 s2 (F.trans a)<|st.p.trans b,ty.run b.run⟩,ae⟩
def Ym w c n:TW w (dt c) 1 (.var n) (.iface 85<|Nv n):=TW.of (x:=.var n) (cX.var n) trivial (by simp[size])
def TW.pr{a b:Ty}{va vb}(ha:TW w (dt c) S1 a va)(hb:TW w (dt c) S2 b vb)(hc:c.cb<w.heap.size):TW (w.alloc<|.cells #[va,vb] 56) (dt c) (1+S1+S2) (qr a b) (.iface 153<|.agg #[.string<|pn lq,.slice (some ⟨w.heap.size,0,none⟩) 2 2]):=by
 obtain⟨⟨x1,y1,e1,z1⟩,wx⟩:=ha;obtain⟨⟨x2,y2,e2,z2⟩,wy⟩:=hb;exact⟨⟨.aJ lq [x1,x2],nj.ty (qv<|qw rfl) y1 y2 (by show w.heap.size≠c.cb;omega),dO.agt lq Ya e1 e2,by simp only[size,ah];omega⟩,⟨Ya,wx,wy,trivial⟩⟩
def ajd{a b:Ty}{tb}{xb}(ha:TW w (dt c) S1 a (.iface ta xa))(hb:TW w (dt c) S2 b (.iface tb xb))(hc:c.cb<w.heap.size):Cq 278 #[.iface ta xa,.iface tb xb] w λe w'=>∃g,e=.returned (.iface 153<|.agg #[.string<|pn m9,.slice (some ⟨g,0,none⟩) 2 2])/\Bq w w'/\TW w' (dt c) (1+S1+S2) (j9 a b) (.iface 153<|.agg #[.string<|pn m9,.slice (some ⟨g,0,none⟩) 2 2]):=
 (xB _ _ _ _).mono λe w' h=>by
  obtain⟨rfl,rfl⟩:=h;exact⟨_,rfl,bw _,TW.fn ha hb hc⟩
def gV.ret(H:gV n0 M c w0 cnt0 s0 Λ Γ gb Q dom D (jk X) P s cnt kb w)(ht:TW w (dt c) S X (.iface ta xa))(hS:S<=1100*n0:=by rw[en];omega):bi c (1100*n0) (1000*n0) M s0 cnt0 w0 (.returned<|.tuple #[.iface ta xa,Mv kb]) w:=H.cl _ _<|QB H.we H.st.k (ht.le hS)<|Fr.refl _ _
end
section
variable {c:WC} {cnt:Nat} {y z:Nd} {vy vz:Value}
def NY(mk:jp)s n x y f t a(Γ:jc):jf mk (.mk 6 s n [x,y] f t a) Γ=ja (jf mk x Γ) λa=>ja (jf mk y Γ) λb=>jk<|qr a b:=by simp[jf,jz,qm,j6]
def Yn:Tryz.prog.underlying 186=some (.map 9 108):=qkr
end
structure BdA rc st x c w cnt(s:jd)kb(Λ:Nat->Prop)(Γ:jc)gb Q(dom:BA->Prop)v:Prop where
 we:WE w c cnt
 wk:WK w c cnt s kb
 hn:∀n,¬s.u n->Λ n
 wg:WG w c s Λ Γ gb
 pe:PE w Q x v
 hq:∀b,Q b->b≠c.cb
 sc:ScE c.mks c.nl (λv=>dom v\/(rc=true/\v=st)) x
 hd:∀x,dom x->Γ x≠none
 ft:Fit c cnt (1+nn x)
 mf:MkFine c.mks
 jA:st∈c.nl
section
variable {c:WC} {cnt:Nat}
def BdA.af{rc}{st}{x}{v}{w1}(h:BdA rc st x c w cnt s kb Λ Γ gb Q dom v)(hb:Bq w w1):BdA rc st x c w1 cnt s kb Λ Γ gb Q dom v:=
 ⟨h.we.af hb,h.wk.af hb,h.hn,h.wg.af hb,h.pe.af hb,h.hq,h.sc,h.hd,h.ft,h.mf,h.jA⟩
def Yo{y:Nat}(Hx:Dy x)(h:BdA false st x c w cnt s kb Λ Γ gb Q dom vx):
 Cq 241 #[Pv c.eb,Mv kb,Mv gb,.agg #[.bool false,Nv a,Nv y,.string st,vx]] w (bi c (1100*(1+nn x)) (1000*(1+nn x)) (j5 false st x (jf c.mks x) Γ) s cnt w):=by
 have k0:Bq w (w.alloc<|Cv #[.bool false,Nv a,Nv y,Sv st,vx] 130):=bw _;have h1:=h.af k0;have H1:=Hx c _ cnt s kb Λ Γ gb Q _ vx ⟨h1.we,h1.wk,h1.hn,h1.wg,h1.pe,h1.hq,h1.sc,λv q=>h1.hd v (q.resolve_right λr=>by cases r.1),h1.ft.le ae ae,h1.mf⟩;have K0:=ai k0;obtain⟨tx,ax,rfl⟩:=h.pe.iface;go_enter func241,ntmps241;go_wp2_with fail;refine H1.mono ?_;intro e w1 hp;obtain⟨ak,zz,vl,vr,rfl,q1⟩|⟨ak,T1,s1,BQ,BS,jI,rfl,q1⟩:=hp.split
 .clear hp
  go_wp2
  exact⟨rfl,(Fr.of K0).trans q1.F,ak,.error zz,q1.c1,by have:=q1.c2;omega,q1.we,q1.m,vl,vr,rfl,q1.f⟩
 .have QQ:=ai q1
  go_wp2
  go_ret2;have q1:=uh QQ;exact⟨(Fr.of K0).trans q1.F,ak,.ok (T1,s1),q1.c1,by have:=q1.c2;omega,q1.we,q1.m,q1.u,q1.wh,BQ,BS,jI,rfl,q1.n,q1.k,q1.t.le ae⟩
def Fu st x pe(Γ:jc):j5 true st x pe Γ=ja jx λv=>ja (pe<|ji Γ st<|ql<|.var v) λt=>ja (jo (.var v) t (j7 x)<|qj x) λ_=>jk t:=by simp[j5]
def BdA.at{M}(h:BdA rc st x c w cnt s kb Λ Γ gb Q dom v)(e:M=q):gV (1+nn x) M c w cnt s Λ Γ gb Q dom (1000*(1+nn x)) q (λ_ _=>True) s cnt kb w:=⟨h.wg,h.hq,h.hd,h.ft,h.mf,Fr.refl _ _,h.we,⟨h.wk,h.hn,In.Kp.refl h.wk.ok h.hn⟩,λ_ _ h=>e▸h,λ_ _ _ _=>trivial,br _⟩
def Yp{y:Nat}(Hx:Dy x)(h:BdA true st x c w cnt s kb Λ Γ gb Q dom vx):
 Cq 241 #[Pv c.eb,Mv kb,Mv gb,.agg #[.bool true,Nv a,Nv y,.string st,vx]] w (bi c (1100*(1+nn x)) (1000*(1+nn x)) (j5 true st x (jf c.mks x) Γ) s cnt w):=by
 have fK:=kw;have fb:=h.ft.b;have jA:=h.jA;have sx:=ai h.sc;obtain⟨tx,ax,rfl⟩:=h.pe.iface;have HX:=ai h.pe;have UR:=h.pe.place;have H:=h.at<|Fu st x (In.inf c.mks x) Γ;dsimp only[PlF]at UR;clear h;have⟨e1,e2,e3⟩:=H.we.bx;go_enter func241,ntmps241;go_wp2_with fail;refine H.box.new (D2:=1000*nn x+999) ?_ ae;intro s3 w3 H;clear e1 e2 e3;have⟨⟨_,b1,b2,b3⟩,_⟩:=H.p;go_wp2_with fail;go_cut[11,1]from 12 (λvt vk wc=>∃T6 s6 Jo Yq Yr W9,vt=Fv Yq Yr/\vk=Mv W9/\gV (1+nn x) (In.ch true st x (In.inf c.mks x) Γ) c w cnt s Λ Γ gb Q dom 999 (In.andM (In.sW (.var<|cnt+1) T6 (In.kZ x)<|In.BT x) λ_=>In.cH T6) (λw' s=>((True/\Bx w' w.heap.size #[.bool true,Nv a,Nv y,Sv st,Fv tx<|Av ax])/\In.cA Λ s (.var<|cnt+1))/\TW w' (dt c) (1100*nn x) T6 (Fv Yq Yr)/\In.cA Λ s T6) s6 Jo W9 wc)
 case first=>
  go_region_with(first
   |(go_at_call 247;go_loud(refine(yG ((H.wg.fr H.f H.st.p.run).e.af (xy _ _).drew) st<|Jg (p_ w3.drew c cnt 1<|br _) ae).mono ?_);rintro e w5⟨b5,rfl,z5,h5,k5⟩;have K5:=ai<|(xy w3.heap.size w3).drew.trans k5;have⟨⟨_,d1,d2,d3⟩,_⟩:=(H.af K5).p;have E5:=ai h5;have Z5:=ai z5;clear k5 h5 z5)
   |(go_at_call 251;go_loud(refine H.exG (D2:=999) K5 Hx (H.asks K5 E5 Z5 H.p.2.mono q9 jA HX sx (λ_ q=>q.imp id (·.2)) ae ae) ?_);intro T6 Yq Yr s6 Jo W9 w6 H6))
  all_goals
   go_wp2_with fail
   go_meet
   case rel=>exact⟨_,_,_,_,_,_,rfl,rfl,H6⟩
 case rest=>
  obtain⟨T6,s6,Jo,Yq,Yr,W9,rfl,rfl,H⟩:=hcut;clear b1 b2 b3;have⟨⟨⟨_,b1,b2,b3⟩,_⟩,_⟩:=H.p;go_wp2_with fail;refine(dR _ _).mono ?_;rintro e w7⟨rfl,K7⟩;have H:=H.af K7;go_wp2_with fail;refine H.eq (S:=900000) (p_ w7 c cnt _ ae) (H.p.2.1.le ae) H.p.1.2 H.p.2.2 ?_;intro kb8 s8 w8 H
  go_wp2
  go_ret2;exact H.ret H.p.2.1 ae
end
end Go.Proofs.YtlnlhlefeokfjaaGreatDoor

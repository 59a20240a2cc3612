import Derived.Test.YtopmodaakdnliaaGreatDoorCKj0
import Derived.Test.YtopmodaakdnliaaGreatDoorCBn
import Derived.Test.YtopmodaakdnliaaGreatDoorCYb
set_option linter.all false
set_option maxRecDepth 100000
set_option maxHeartbeats 8000000
namespace Go.Proofs.YtopmodaakdnliaaGreatDoor
open In renaming Env->ja,andM->jc,St->jd,b_->jf,MM->jh,Mks->ji,dN->jj,lq->jk,kx->jl,inf->jm,via->jo,over->jq,eQ->jt,UN->ju,Rn->jv,dF->jx,pG->jy,Ft->jz,Mk->j3,xP->j5,tY->j6,arr->j7,Ri->j8,qK->j9,My->qd,Zi->qe,boundM->qf,Kp->qg,l_->qh,nV->qi,dq->qj,tFn->ql,MQ->qm,zG->qn,sZ->qp,Yd->qr,p8->qt,rf->qu,Ai->qv,ol->qx,tPr->qy,tK->qz
open _root_.List renaming setIfInBounds_toArray->q9,drop_eq_getElem_cons->xd,set_cons_zero->xf,set_cons_succ->xg,take_succ_eq_append_getElem->xh,getElem_cons_zero->xj,getElem_cons_succ->xk,take_length->xm,drop_length->xn,mem_append->xo,nodup_nil->xq,drop_zero->xt,take_append_drop->xw,getElem_mem->zd,range->zh
open Or renaming inr->zn,inl->zt
open _root_.Nat renaming lt_of_lt_of_le->zu,le_trans->zv,succ_le_of_lt->zx,zero_le->zy
open Go.World renaming cell?_of_block->vd
open Go.RowKit.Below renaming refl->vf,heap_setCell->vg
open Go.Proofs.Tryz renaming prog->vh
open Go.Value renaming string->vi
open Un.Ty renaming var->vj
open Pu renaming Tok->vk
open Ne renaming symm->vu
open Go.Act renaming put->vw
open Bx renaming new->v9
open And renaming intro->kg
open Go Go.RowKit Go.ChangeMaps Un Proofs.Tryz
variable {ops:Array Oper} {C:Array Value} {st:BA} {dom aby:BA->Prop} {e:Ending} {F:Exit->Act->World->Prop} {g g1 Γ ML yd:ja} {z:jz} {q:jh Un.Ty} {mk:ji} {R ρ:jv} {c d:j8} {s s0 s1:jd} {A:List (Nd×Nd)} {nl ns:List BA} {l:List Nat} {L ms:List Nd} {rest:List Oper} {vs:List vk} {D D1 D2 DD S S1 S2 b b1 b2 base aC cnt0 aw f gb gv j k kb nj n n0 nb sc t vc:Nat} {P Q Λ:Nat->Prop} {nd x:Nd} {o:Oper} {sa va:Option Addr} {α κ:Type} {ta:TypeId} {T U X m y:Un.Ty} {u v vl vm vr vv vx vy vz xa:Value} {W w w' w0 w1:World} {P':World->jd->Prop}
section
open Go.MapKept
abbrev KLS:KL vh 9 vi (λ_ _=>True):=KL.str Tryz.underlying9
def str_inj:∀x y,vi x=vi y->x=y:=Mn
def JW(w:World)(P:Nat->Prop)(sa:Option Addr)l:=l=[]\/∃g,sa=some ⟨g,0,none⟩/\P g/\g<w.heap.size/\∀i(h:i<l.length),w.cell? ⟨g,i,none⟩=some (Nv<|l[i])
def ri w P(c:j8)(v:Value):=∃ta xa sa sc,v=.agg #[.iface ta xa,.slice sa c.any.length sc]/\TW w P 900000 c.of (.iface ta xa)/\JW w P sa c.any
def bR w P b(Γ:ja):=∃L,MG vi w b L/\(∀x,bd x L=none->Γ x=none)/\∀x v,bd x L=some v->∃c,Γ x=some c/\ri w P c v
theorem JW.move(h:JW w P sa l)(hs:w.heap.size<=w'.heap.size)(hb:∀b,P b->b<w.heap.size->w'.heap[b]? =w.heap[b]?)(hq:∀b,P b->b<w.heap.size->Q b):JW w' Q sa l:=by
 obtain h|⟨g,h1,h2,h3,h4⟩:=h
 .exact zt h
 .exact zn ⟨g,h1,hq g h2 h3,zu h3 hs,λi hi=>(vd (a:=⟨g,i,none⟩)<|hb g h2 h3).trans<|h4 i hi⟩
theorem ri.move{c}{v}(h:ri w P c v)(hs:w.heap.size<=w'.heap.size)(hb:∀b,P b->b<w.heap.size->w'.heap[b]? =w.heap[b]?)(hq:∀b,P b->b<w.heap.size->Q b):ri w' Q c v:=by
 obtain⟨ta,xa,sa,sc,h1,h2,h3⟩:=h;exact⟨ta,xa,sa,sc,h1,h2.move hs hb hq,h3.move hs hb hq⟩
def ri.af(h:ri w P c v)(hb:Bq w w'):ri w' P c v:=h.move hb.size (λb _ hz=>hb.block b hz)<|λ_ p _=>p
def bR.lt(h:bR w P b Γ):b<w.heap.size:=qAr
theorem bR.move(h:bR w P b Γ)(hs:w.heap.size<=w'.heap.size)(b8:w'.heap[b]? =w.heap[b]?)(hb:∀b,P b->b<w.heap.size->w'.heap[b]? =w.heap[b]?)(hq:∀b,P b->b<w.heap.size->Q b):bR w' Q b Γ:=by
 obtain⟨L,h1,h2,h3⟩:=h;exact⟨L,h1.same b8,h2,λx v hx=>by have⟨c,e,hc⟩:=h3 x v hx;exact⟨c,e,hc.move hs hb hq⟩⟩
def bR.af(h:bR w P b Γ)(hb:Bq w w'):bR w' P b Γ:=h.move hb.size (hb.block b h.lt) (λb _ hz=>hb.block b hz)<|λ_ p _=>p
def bR.wide(h:bR w P b Γ)(hq:∀x,P x->Q x):bR w Q b Γ:=h.move (br _) rfl (λ_ _ _=>rfl) (λb p _=>hq b p)
def bR.fr{S}(h:bR w P b Γ)(hf:Fr S w w')(hb:¬S b)(hS:∀x,P x->x<w.heap.size->¬S x):bR w' P b Γ:=h.move hf.size (hf.block b h.lt hb) (λx p z=>hf.block x z<|hS x p z)<|λ_ p _=>p
def bR.new(w:World)P:bR (w.alloc<|.map #[] 0) P w.heap.size (λ_=>none):=⟨[],MG.new _ w,λ_ _=>rfl,λx v h=>qBg⟩
def wU{a}(hg:o.guard=none)m x v(tI:o.op=Op.insert 152 m x v\/o.op=Op.mapUpdate 152 m x v)(hm:a.eval m=Mv b)(h:bR w P b Γ)(hP:¬P b)(hc:ri w P c u)n(hx:a.eval x=.string n)(hv:a.eval v=u)(hK:∀w',bR w' P b (jj Γ n c)->One b w w'->wpList vh ops F rest (a.put o.dst undef) w'):
 wpList vh ops F (o::rest) a w:=by
 obtain⟨L,h1,h2,h3⟩:=h;refine cK KLS iB hg m x v tI hm h1 n u hx hv λw' hM o=>hK w' ⟨_,hM,λy hy=>?_,λy z hy=>?_⟩ o
 .rw[aN]at hy;by_cases e:n=y
  .grind
  .rw[if_neg e]at hy;simp only[jj,if_neg<|vu e];exact h2 y hy
 .have mv:∀{c v},ri w P c v->ri w' P c v:=λh=>h.move qAg (λx p _=>o.block x<|λe=>hP<|e▸p)<|λ_ p _=>p;rw[aN]at hy;by_cases e:n=y
  .rw[if_pos e]at hy;injection hy with hy;subst hy e;exact⟨c,by simp[jj],mv hc⟩
  .rw[if_neg e]at hy;have⟨c',q1,q2⟩:=h3 y z hy;exact⟨c',by simp only[jj,if_neg<|vu e];exact q1,mv q2⟩
open Classical in
noncomputable def ovD (yd ML:ja) (done:List BA) (x:BA):Option j8:=if x∈done then jq yd ML x else ML x
def alP P b1 b2(ML yd:ja)L w gk wr:=
 ∃done,IG vi wr w.heap.size b2 L done gk/\bR wr P b1 (ovD yd ML done)/\Fr (λi=>i=b1) w wr
def Ps{p:Prop}(h:p:=by
 have hF:=uh HF;refine⟨o.os.trans<|k3.os.trans<|f1.os.trans hF.os,o.tape.trans<|k3.tape.trans<|f1.tape.trans hF.tape,o.output.trans<|k3.output.trans<|f1.output.trans hF.output,by rw[o.size];have:=k3.size;omega,λi hi hni=>?_⟩
 rw[o.block i hni,k3.block i ae,f1.block i ae ae,hF.block i hi hni]):p:=h
def P9{p:Prop}(h:p:=by
 by_cases r:y∈done
 .rw[if_pos<|List.mem_cons_of_mem _ r,if_pos r]
 .rw[if_neg<|λh=>(List.mem_cons.1 h).elim q r,if_neg r]):p:=h
def DS{p:Prop}(h:p:=by
 cases hg:bd y L with
 |none=>exact Q.1 y hg|some v=>exact absurd (ha _ v hg) q):p:=h
def afw(h1:bR w P b1 ML)(h2:bR w P b2 yd)(hP:¬P b1)(aZ:∀x,P x->x<w.heap.size)(hn:b1≠b2):
 Cq 306 #[Mv b1,Mv b2] w λe w'=>e=.returned (.tuple #[])/\bR w' P b1 (jq yd ML)/\Fr (λi=>i=b1) w w':=by
 have l1:=h1.lt;have l2:=h2.lt;obtain⟨L,m2,q1,q2⟩:=h2;obtain⟨o,cnt,hrg,ni⟩:=m2.range iB;have k1:Bq w (w.alloc o):=bw _;have HI:=ai ni;have H1:=h1.af k1;have K1:=ai k1;have Q:=And.intro q1 q2;go_enter func306,ntmps306
 go_wp2
 go_loopg[] cnt (λgk wr=>alP P b1 b2 ML yd L w gk wr)
 case atStart=>
  refine⟨[],HI,?_,Fr.of K1⟩;have e:ovD yd ML []=ML:=by funext x;simp[ovD]
  rw[e];exact H1
 case round=>
  obtain⟨done,HI,HE,hF⟩:=hrel;have HF:=ai hF;have hiz:=HI.lt;have zr:=hF.size;rcases HI.next (P:=vh) str_inj with⟨ha,MW⟩|⟨x,u,w2,aC,hxd,Yi,MW,Yj,Ie,BE,kX,hen⟩
  .go_wp2
   go_end0;refine⟨rfl,?_,HF⟩;have e:ovD yd ML done=jq yd ML:=by
    funext y;unfold ovD;by_cases q:y∈done
    .rw[if_pos q]
    .rw[if_neg q];have:yd y=none:=by
      exact DS
     simp only[jq,this]
   rw[<-e];exact HE
  .obtain⟨c,EC,hc⟩:=Q.2 x u Yi;have xW:=BE;have nP:∀i,P i->¬i=w.heap.size:=λi hi e=>by have:=aZ i hi;omega
   have E2:=HE.fr xW ae<|λi p _=>nP i p;have c2:=(hc.move (w':=wr) zr (λi p z=>HF.block i z<|λe=>hP<|e▸p)<|λ_ p _=>p).move (w':=w2) (Q:=P) ae (λi p z=>xW.block i z<|nP i p)<|λ_ p _=>p;obtain⟨ta,xa,sa,sc,rfl,t1,t2⟩:=c2;have vW:Bq w2 (w2.alloc<|.cells #[.iface ta xa,.slice sa c.any.length sc] 418):=bw _;have E3:=E2.af vW;have C3:=(ri.af ⟨ta,xa,sa,sc,rfl,t1,t2⟩ vW);have I3:=Yj.same (vW.block b2 ae)<|vW.block w.heap.size ae;have K3:=ai vW;go_wp2_with(refine wU rfl _ _ _ (zn rfl) rfl E3 hP C3 x rfl rfl ?_;intro w4 H' O';have S4:=ai H';have O4:=ai O';clear H' O');go_roundg aC
   case measure=>exact Ie
   case rel=>
    have o:=uh O4;have k3:=uh K3;have f1:=xW;refine⟨x::done,I3.same (o.block b2<|vu hn)<|o.block _ ae,?_,?_⟩
    .have e:ovD yd ML (x::done)=jj (ovD yd ML done) x c:=by
      funext y;by_cases q:y=x
      .subst q;simp[ovD,jj,jq,EC]
      .simp only[ovD,jj,if_neg q];exact P9
     rw[e];exact S4
    .exact Ps
def acS(h:bR w P b Γ):Cq 305 #[Mv b] w λe w'=>e=.returned (Mv w.heap.size)/\bR w' P w.heap.size Γ/\Bq w w'/\w'.heap.size=w.heap.size+1:=by
 obtain⟨L,h1,h2,h3⟩:=h;refine(acE h1).mono ?_;rintro e w'⟨rfl,m,k,z⟩;exact⟨rfl,⟨L,m,h2,λx v hx=>by have⟨c,q1,q2⟩:=h3 x v hx;exact⟨c,q1,q2.af k⟩⟩,k,z⟩
def FC P(Γ:ja)w(e:Ending)w':=∃b,e=.returned (Mv b)/\w.heap.size<=b/\bR w' P b Γ/\Bq w w'
def bR.low(h:bR w P b Γ):bR w (λx=>P x/\x<w.heap.size) b Γ:=h.move (br _) rfl (λ_ _ _=>rfl) (λb p z=>⟨p,z⟩)
def CU(h1:bR w P b1 ML)(h2:bR w P b2 yd):Cq 287 #[Mv b1,Mv b2] w (FC P (jq yd ML) w):=by
 have HC:=acS h1.low;have l2:=h2.lt;have H2:=ai h2.low;go_enter func287,ntmps287;go_wp2_with fail;refine HC.mono ?_;rintro e w1⟨rfl,h3,K1,Z1⟩;have HD:=afw h3 (H2.af K1) ae (λx p=>ae) ae;go_wp2_with fail;refine HD.mono ?_;rintro e w2⟨rfl,H4,VE⟩
 go_wp2
 go_ret;have k:=K1;have f:=VE;refine⟨w.heap.size,rfl,br _,H4.wide λx p=>p.1,⟨f.os.trans k.os,f.tape.trans k.tape,f.output.trans k.output,zv k.size f.size,λi hi=>(f.block i (by have:=Z1;omega) ae).trans<|k.block i hi⟩⟩
def Bd(Γ:ja)x(c:j8):jq (jj (λ_=>none) x c) Γ=jj Γ x c:=by
 funext y;unfold jq jj;by_cases e:y=x
 .simp[e]
 .simp[e]
def Sy(h:bR w P b Γ)x(hc:ri w P c v):Cq 275 #[Mv b,.string x,v] w (FC P (jj Γ x c) w):=by
 have g_:= @run_makeMap Tryz.prog;have hc0:=hc;obtain⟨ta,xa,sa,sc,rfl,t1,t2⟩:=hc;have k1:Bq w ((w.alloc<|Cv #[Fv ta xa,Lv sa c.any.length sc] 418).alloc<|.map #[] 0):=(bw _).alloc ah _;have E1:=bR.new (w.alloc<|Cv #[Fv ta xa,Lv sa c.any.length sc] 418)<|λi=>P i/\i<w.heap.size;have C1:=(hc0.move (Q:=λi=>P i/\i<w.heap.size) (br _) (λ_ _ _=>rfl)<|λi p z=>⟨p,z⟩).af k1;have K1:=ai k1;rw[cM]at E1;go_enter func275,ntmps275;go_wp2_with(refine wU rfl _ _ _ (Or.inl rfl) rfl E1 ae C1 x rfl rfl ?_;intro w4 H' O';have S4:=ai H';have O4:=ai O';clear H' O');have o:=uh O4;have k:=uh K1;have kk:Bq w w4:=⟨o.os.trans k.os,o.tape.trans k.tape,o.output.trans k.output,by rw[o.size];exact k.size,λi hi=>(o.block i ae).trans<|k.block i hi⟩;have HW:=CU (h.af kk)<|S4.wide λi p=>p.1;rw[Bd]at HW;refine HW.mono ?_;rintro e w5⟨b5,rfl,hb5,H5,K5⟩;have KK:=ai kk
 go_wp2
 go_ret;have kk:=uh KK;exact⟨b5,rfl,zv kk.size hb5,H5,kk.trans<|K5.mono kk.size⟩
abbrev kept(p:Nat->Bool)(l:List Nat):List Nat:=l.filter λn=> !p n
section
variable {κ:Nat->Ty}
open Classical in
noncomputable def fxB (Γ:ja) (κ:Nat->Ty) (v:Nat):Bool:=decide (In.vZ Γ κ v)
end
structure WC where
 (eb cb rb mb nb gL:Nat)
 mks:ji
 nl:List BA
abbrev ahn(c:WC):Array Value:=#[.func (.func 86) #[] #[Pv c.cb],Mv c.rb,Mv c.mb,Mv c.nb]
def I_ w b:=∃L,MG vi w b L/\bd jI L=some (.func (.func 87) #[] #[])/\bd fs L=some (.func (.func 87) #[] #[])/\bd il L=some (.func (.func 87) #[] #[])/\bd ik L=some (.func (.func 88) #[] #[])
def Zw w P(sa:Option Addr)l:=l=[]\/∃(g:Nat)(vs:Nat->Value),sa=some ⟨g,0,none⟩/\P g/\g<w.heap.size/\∀i(h:i<l.length),w.cell? ⟨g,i,none⟩=some (vs i)/\eN w P l[i] (vs i)
def Zx w P tk m(v:Value):=∃sa sc ta xa,v=.agg #[.slice sa tk.length sc,.iface ta xa]/\Zw w P sa tk/\eN w P m (.iface ta xa)
def mH w P b(mk:ji):=∃L,MG vi w b L/\(∀x,bd x L=none->mk x=none)/\∀x v,bd x L=some v->∃tk m,mk x=some (tk,m)/\Zx w P tk m v
abbrev fh(c:WC)i:=i≠c.cb
structure WE w c cnt:Prop where
 bx:Bx w c.eb (ahn c)
 ct:Bx w c.cb #[Nv cnt]
 rs:I_ w c.rb
 ms:mH w (λi=>i≠c.cb/\i<c.gL) c.mb c.mks
 d:c.eb≠c.cb/\c.rb≠c.cb/\c.mb≠c.cb
 l:c.eb<c.gL/\c.cb<c.gL/\c.rb<c.gL/\c.mb<c.gL/\c.gL<=w.heap.size
section
variable {c:WC} {cnt:Nat}
theorem Zw.move{sa}{l}(h:Zw w P sa l)(hs:w.heap.size<=w'.heap.size)(hb:∀b,P b->b<w.heap.size->w'.heap[b]? =w.heap[b]?)(hq:∀b,P b->b<w.heap.size->Q b):Zw w' Q sa l:=by
 obtain h|⟨g,vs,h1,h2,h3,h4⟩:=h
 .exact zt h
 .exact zn ⟨g,vs,h1,hq g h2 h3,zu h3 hs,λi hi=>⟨(vd (a:=⟨g,i,none⟩)<|hb g h2 h3).trans (h4 i hi).1,(h4 i hi).2.move hs hb hq⟩⟩
theorem mH.move{b}{mk}(h:mH w P b mk)(hs:w.heap.size<=w'.heap.size)(b8:w'.heap[b]? =w.heap[b]?)(hb:∀b,P b->b<w.heap.size->w'.heap[b]? =w.heap[b]?)(hq:∀b,P b->b<w.heap.size->Q b):mH w' Q b mk:=by
 obtain⟨L,h1,h2,h3⟩:=h;refine⟨L,h1.same b8,h2,λx v hx=>?_⟩;obtain⟨tk,m,e,sa,sc,ta,xa,rfl,q1,q2⟩:=h3 x v hx;exact⟨tk,m,e,sa,sc,ta,xa,rfl,q1.move hs hb hq,q2.move hs hb hq⟩
def mH.lt{b}{mk}(h:mH w P b mk):b<w.heap.size:=qAr
def I_.same{b}(h:I_ w b)(hb:w'.heap[b]? =w.heap[b]?):I_ w' b:=qAs
def I_.lt{b}(h:I_ w b):b<w.heap.size:=qAr
def WE.fr(h:WE w c cnt)(hf:Fr (λi=>i=c.cb\/c.gL<=i) w w'){aC}(hc:Bx w' c.cb #[Nv aC]):WE w' c aC:=by
 have⟨l1,l2,l3,l4,l5⟩:=h.l;have⟨d1,d2,d3⟩:=h.d;exact⟨h.bx.fr hf ae,hc,h.rs.same<|hf.block _ h.rs.lt ae,h.ms.move hf.size (hf.block _ h.ms.lt ae) (λb p z=>hf.block b z ae)<|λ_ p _=>p,h.d,⟨l1,l2,l3,l4,zv l5 hf.size⟩⟩
def Fr.gL{S T}(h:Fr S w w')(hs:∀i,S i->T i):Fr T w w':=⟨h.os,h.tape,h.output,h.size,λk hk hn=>h.block k hk λq=>hn<|hs k q⟩
def WE.frc(h:WE w c cnt)(hf:Fr (λi=>i=c.cb) w w')(hc:Bx w' c.cb #[Nv aC]):WE w' c aC:=h.fr (hf.gL λ_ q=>zt q) hc
def WE.one{b}(h:WE w c cnt)(o:One b w w')(hb:c.gL<=b):WE w' c cnt:=h.fr ⟨o.os,o.tape,o.output,qAg,λi _ hi=>o.block i λe=>hi<|zn<|e▸hb⟩ (h.ct.one o (by have:=h.l;omega))
def WE.af(h:WE w c cnt)(hb:Bq w w'):WE w' c cnt:=h.frc (Fr.of hb)<|h.ct.below hb
def WE.fX(h:WE w c cnt):c.cb<w.heap.size:=h.ct.z
end
def us cnt n:=1<=n/\n<=cnt
section
variable {c:WC} {cnt:Nat}
def rT{cb}n(hn:n<=1000000)(h:Bx w cb #[Nv n]):Cq 86 #[Pv cb] w λe w'=>e=.returned (Iv<|(n:Int)+1)/\w'=w.setCell ⟨cb,0,none⟩ (Iv<|(n:Int)+1):=by
 obtain⟨c,f,z⟩:=h;go_enter func86,ntmps86
 go_wp2
 go_ret;exact⟨rfl,rfl⟩
def WE.fresh(h:WE w c cnt):WE (w.setCell ⟨c.cb,0,none⟩<|Iv<|(cnt:Int)+1) c (cnt+1)/\Fr (λi=>i=c.cb) w (w.setCell ⟨c.cb,0,none⟩<|Iv<|(cnt:Int)+1):=by
 have F:Fr (λi=>i=c.cb) w (w.setCell ⟨c.cb,0,none⟩<|Iv<|(cnt:Int)+1):=(Fr.refl (λi=>i=c.cb) w).set (b:=c.cb) (zt rfl) 0 _;have:=h.ct.aP 0 (Iv<|(cnt:Int)+1) #[Iv<|(cnt:Int)+1] rfl ah;exact⟨h.frc F<|by simpa using this,F⟩
def y8 cnt(l:List Nat)v:=if v∈l then some (cnt+1+l.idxOf v)else none
def anD(cnt:Nat)(l:List Nat)(j:Nat)(v:Nat):Option Ty:=if v∈l.take j then some (.var<|cnt+1+l.idxOf v)else none
def KP{v v'}(hv:v∈l)(hv':v'∈l)(e:l.idxOf v=l.idxOf v'):v=v':=by
 have h1:=List.getElem_idxOf<|List.idxOf_lt_length_iff.2 hv;have h2:=List.getElem_idxOf<|List.idxOf_lt_length_iff.2 hv';simp only[e]at h1;exact h1.symm.trans h2
def WR(cnt:Nat)(l:List Nat)(hn:l.Nodup){u:Nat->Prop}(hu:∀n,u n->us cnt n):In.DL l qd (y8 cnt l) u (λn=>u n\/(cnt<n/\n<=cnt+l.length)) where
 gB v n h:=Dq
 out v h:=by simp[y8,h,qd]
 all v h:=by simp[y8,h]
 new v n _ h q:=by
  have:=hu n q;rw[y8]at h;split at h
  .injection h with h;rw[us]at this;omega
  .cases h
 one v v' n _ h1 h2:=by
  rw[y8]at h1 h2;split at h1<;>split at h2
  .injection h1 with h1;injection h2 with h2;rename_i a b;exact KP a b ae
  .cases h2
  .cases h1
  .cases h1
 use n:=by
  constructor
  .rintro(h|h)
   .exact zt h
   .right;have hi:n-cnt-1<l.length:=ae;refine⟨l[n-cnt-1],rfl,?_⟩;rw[y8];rw[if_pos<|zd hi,hn.idxOf_getElem (n-cnt-1) hi];congr 1;omega
  .rintro(h|⟨v,_,h⟩)
   .exact zt h
   .rw[y8]at h;split at h
    .rename_i hv;injection h with h;have:=List.idxOf_lt_length_iff.2 hv;exact zn ae
    .cases h
def alc c cnt l w gk v wr:=
 ∃j:Nat,Hid (gk=l.length-j)/\j<=l.length/\v=Nv j/\WE wr c (cnt+j)/\fK wr (λi=>i≠c.cb/\i≠w.heap.size) w.heap.size (anD cnt l j)/\Fr (λi=>i=c.cb) w wr/\Hid (w.heap.size<wr.heap.size)
def KR c cnt l w(e:Ending)w':=
 ∃b,e=.returned (Mv b)/\w.heap.size<=b/\WE w' c (cnt+l.length)/\fK w' (fh c) b (λv=>(y8 cnt l v).map vj)/\Fr (λi=>i=c.cb) w w'
def abH(h:WE w c cnt)(hv:JW w (fh c) sa l)(hn:l.Nodup)(hz:cnt+l.length<=1000000):Cq 309 #[Pv c.eb,.slice sa l.length sc] w (KR c cnt l w):=by
 have g_:= @run_makeMap Tryz.prog;have k1:Bq w (w.alloc<|.map #[] 0):=bw _;have zc:=h.fX;have W1:=h.af k1;have ang:=ai h.l.2.2.2.2;have S1:=fK.new w<|λi=>i≠c.cb/\i≠w.heap.size;have K1:=ai k1;go_enter func309,ntmps309
 go_wp2
 go_loopg[11] l.length (λgk v wr=>alc c cnt l w gk v wr)
 case atStart=>
  refine⟨0,ai ah,zy _,rfl,W1,?_,Fr.of K1,ai ah⟩;have e:anD cnt l 0=λ_=>none:=by funext v;simp[anD]
  rw[e];exact S1
 case round=>
  obtain⟨j,bE,hj,rfl,HW,HS,HF,hzz⟩:=hrel;by_cases aI:j<l.length
  .have hd:(j:Int)<(l.length:Int):=ae;obtain⟨g,rfl,hg,mn,bX⟩:=hv.resolve_left<|λe=>qBs;have cg:=(vd (a:=⟨g,j,none⟩)<|HF.block g mn hg).trans<|bX j aI;obtain⟨m,hm⟩:∃m,Hid<|m=cnt+j:=⟨_,ai rfl⟩;rw[<-uh hm]at HW;have HC:=rT m (by have:=uh hm;omega) HW.ct;have⟨Tw,F2⟩:=HW.fresh;have S3:=HS.fr F2 (λe=>ae)<|λi p _=>p.1;have⟨c1,f1,z1⟩:=HW.bx;have xX:=HF.trans F2;have nz:=HW.d.1;have ZZ:w.heap.size<(wr.setCell ⟨c.cb,0,none⟩<|Iv<|(m:Int)+1).heap.size:=(by have:=uh hzz;simp[World.setCell];exact this);have T3:dA (wr.setCell ⟨c.cb,0,none⟩<|Iv<|(m:Int)+1) (λi=>i≠c.cb/\i≠w.heap.size) (.var<|m+1) (Fv 248<|Iv<|(m:Int)+1):=(by have:=dA.var (w:=wr.setCell ⟨c.cb,0,none⟩<|Iv<|(m:Int)+1) (P:=λi=>i≠c.cb/\i≠w.heap.size)<|m+1;simpa using this);generalize hx:l[j]=xx at*;go_wp2_with fail;refine HC.mono ?_;rintro e w3⟨rfl,rfl⟩;go_wp2_with(refine kR iA rfl _ _ _ (zn rfl) rfl S3 (λq=>q.2 rfl) T3 xx rfl rfl ?_;intro w4 H' O';have S4:=ai H';have O4:=ai O';clear H' O');go_roundg(l.length-(j+1))
   case measure=>rw[uh bE];omega
   case rel=>
    have o:=uh O4;have em:=uh hm;have fo:Fr (λi=>i=w.heap.size) (wr.setCell ⟨c.cb,0,none⟩<|Iv<|(m:Int)+1) w4:=⟨o.os,o.tape,o.output,qAg,λi _ hi=>o.block i hi⟩;refine⟨j+1,ai rfl,ae,d_,?_,?_,?_,ai (by rw[o.size];exact ZZ)⟩
    .have hw:=Tw;have e:cnt+(j+1)=m+1:=ae;rw[e];exact hw.one o ang
    .have e:anD cnt l (j+1)=dZ (anD cnt l j) xx (some<|.var<|m+1):=by
      funext v;rw[anD,dZ];have abI:v∈l.take (j+1)↔v∈l.take j\/v=xx:=by rw[xh aI,hx,xo,List.mem_singleton]
      by_cases q:v=xx
      .subst q;have:l.idxOf v=j:=by rw[<-hx];exact hn.idxOf_getElem j aI
       rw[if_pos<|abI.2<|zn rfl,if_pos rfl,this,em];congr 2;omega
      .rw[if_neg q];by_cases r:v∈l.take j
       .rw[if_pos<|abI.2<|zt r];exact(if_pos r).symm
       .rw[if_neg<|λh=>(abI.1 h).elim r q];exact(if_neg r).symm
     rw[e];exact S4
    .have f:=xX;exact⟨o.os.trans f.os,o.tape.trans f.tape,o.output.trans f.output,by rw[o.size];exact f.size,λi hi hni=>(o.block i ae).trans<|f.block i hi hni⟩
  .have hd:decide ((j:Int)<(l.length:Int))=false:=bi;have ej:j=l.length:=ae;subst ej
   go_wp2
   go_ret;refine⟨w.heap.size,rfl,br _,HW,?_,HF⟩;have e:anD cnt l l.length=λv=>(y8 cnt l v).map vj:=by
    funext v;rw[anD,y8];rw[xm];by_cases q:v∈l
    .rw[if_pos q,if_pos q];rfl
    .rw[if_neg q,if_neg q];rfl
   rw[<-e];exact HS.wide λi p=>p.1
structure WK w c cnt(s:jd)kb:Prop where
 k:KW w (fh c) kb s.k
 n:kb≠c.cb
 u:∀n,s.u n->us cnt n
 ok:In.Ok s
 wh:∀n,Whole<|s.k n
def aiw{cnt}(hn:l.Nodup)(h:∀n,n∈l->us cnt n):l.length<=cnt:=by
 have:=Gu (V:=(zh cnt).map (·+1)) hn λx hx=>by
  have q:=h x hx;rw[us]at q;exact List.mem_map.2 ⟨x-1,List.mem_range.2 ae,ae⟩
 simpa using this
def WK.aep(h:WK w c cnt s kb)(hc:cnt<=1000000)(h1:1<=cnt\/True):DN s.k where
 wh:=h.wh
 len n:=by
  by_cases q:s.u n
  .refine zv (aiw (gV _ xq) λm hm=>?_) hc;exact h.u m (h.ok.use n m q<|by simpa using(cE (s.k n) [] m).1 hm)
  .rw[h.ok.out n q];simp[vars,Un.seen]
structure WG w c s Λ(Γ:ja)gb:Prop where
 e:bR w (fh c) gb Γ
 n:gb≠c.cb
 i:jx Λ s Γ
 nd:∀y d,Γ y=some d->d.any.Nodup
 dm:∀x,Γ x≠none->x∈c.nl
def AE w:(zeroValue 418).run vh w=.ok (.agg #[.nilIface,.slice none 0 0]) w:=qkr
def abJ c(d:j8)f t(s:jd)cnt w(e:Ending)w':=Fr (λi=>i=c.cb) w w'/\
 ((48<size (sub s.k d.of)/\WE w' c cnt/\e=.panicked [{v:=guW ⟨7,f,t⟩ .nilIface .nilIface,recovered:=false}])\/
  (size (sub s.k d.of)<=48/\WE w' c (cnt+d.any.length)/\∃ta xa,e=.returned (.iface ta xa)/\dA w' (fh c) (sub (jo<|y8 cnt d.any)<|sub s.k d.of) (.iface ta xa)))
def aeW cnt l:ED (λv=>(y8 cnt l v).map vj)=jo (y8 cnt l):=by
 funext v;show((y8 cnt l v).map vj).getD (.var v)=_;rw[jo]
 cases y8 cnt l v<;>rfl
mutual
def lI(ρ:jv):∀t,size (sub (jo ρ) t)=size t
 |.var n=>by simp only[sub,jo];split<;>simp[size]|.aM c l=>by simp only[sub,size,DO ρ l]
def DO(ρ:jv):∀l,ak (ba (jo ρ) l)=ak l
 |[]=>rfl|t::l=>by simp only[ba,ak,lI ρ t,DO ρ l]
end
def tZ(ρ:jv)t(h:Whole t):Whole (sub (jo ρ) t):=dn t h λn _=>by rw[jo];split<;>trivial
end
abbrev CO(f:Fl)(vl vr:Value):Ending:=.panicked [{v:=guW f vl vr,recovered:=false}]
def ald(c:WC)(S:Nat)(s:jd)(cnt:Nat)(w':World)(aC:Nat)(e:Ending)(o:Except jz (Ty×jd)):Prop:=match o with
 |.ok (T,s')=>(∀n,s'.u n->s.u n\/(cnt<n/\n<=aC))/\(∀n,Whole<|s'.k n)/\∃ta xa kb,e=.returned (.tuple #[.iface ta xa,Mv kb])/\kb≠c.cb/\KW w' (fh c) kb s'.k/\TW w' (fh c) S T (.iface ta xa)|.error z=>∃vl vr,e=CO z.f vl vr/\vM w' (fh c) z vl vr
def bW c S D(p:jh Ty)(s:jd)cnt w e w':=Fr (λi=>i=c.cb) w w'/\∃aC o,cnt<=aC/\aC<=cnt+D/\WE w' c aC/\p s o/\ald c S s cnt w' aC e o
structure Fit(c:WC)cnt n:Prop where
 a:cnt+1000*n<=850000
 b:n<=805
 l:c.nl.length<=1000000
def Fit.le{c:WC}{cnt n'}(h:Fit c cnt n)(h1:aC+1000*n'<=cnt+1000*n)(h2:n'<=n):Fit c aC n':=⟨by have:=h.a;omega,by have:=h.b;omega,h.l⟩
section
variable {c:WC} {cnt:Nat}
def WG.fr{s'}(h:WG w c s Λ Γ gb)(hf:Fr (λi=>i=c.cb) w w')(hr:In.WS Λ s s'):WG w' c s' Λ Γ gb:=⟨h.e.fr hf h.n<|λ_ p _=>p,h.n,h.i.run hr,h.nd,h.dm⟩
def WG.af(h:WG w c s Λ Γ gb)(hb:Bq w w'):WG w' c s Λ Γ gb:=⟨h.e.af hb,h.n,h.i,h.nd,h.dm⟩
def WK.af(h:WK w c cnt s kb)(hb:Bq w w'):WK w' c cnt s kb:=⟨h.k.af hb,h.n,h.u,h.ok,h.wh⟩
structure KS(w w1:World)c aw(s s1:jd)(Λ:Nat->Prop)nj:Prop where
 k:WK w1 c aw s1 nj
 n:∀n,¬s1.u n->Λ n
 p:qg Λ s s1
def abK(hk:WK w c cnt s kb)(hn:∀n,¬s.u n->Λ n)(hg:WG w c s Λ Γ gb)(hp:jm mk x Γ s (.ok (T,s1)))(hu:∀n,s1.u n->s.u n\/(cnt<n/\n<=aw))(oY:cnt<=aw)(hw:∀n,Whole<|s1.k n)(h4:nj≠c.cb)(h5:KW w1 (fh c) nj s1.k):KS w w1 c aw s s1 Λ nj/\jl Λ s1 T:=by
 have⟨g1,g2⟩:=qx mk x Γ s Λ hk.ok hn hg.i T s1 hp;exact⟨⟨⟨h5,h4,λn q=>by obtain r|r:=hu n q;have:=hk.u n r;unfold us at*;omega;rw[us];omega,g1.ok,hw⟩,g1.new,g1⟩,g2⟩
def mV c cnt(s:jd)Λ x y f t w e w':=Bq w w'/\∃o,ju x y f t s o/\match o with
 |.ok (_,s')=>qg Λ s s'/\∃b,e=.returned (Mv b)/\WK w' c cnt s' b|.error z=>∃vl vr,e=CO z.f vl vr/\vM w' (fh c) z vl vr
def AX{p:Prop}(h:p:=by
 obtain⟨_,q'⟩|⟨_,_,⟨θ,_,q'⟩|⟨_,q'⟩⟩:=ho
 .cases q'
 .grind
 .cases q'):p:=h
def ale(h:WE w c cnt)(hk:WK w c cnt s kb)(hn:∀n,¬s.u n->Λ n)(hc:cnt<=1000000)(hS:S<=900000){x:Ty}(hx:TW w (fh c) S x v)(hy:TW w (fh c) S y u)(tx:jl Λ s x)(ty:jl Λ s y)f t:
 Cq 280 #[Mv kb,v,u,.agg #[Nv f,Nv t]] w (mV c cnt s Λ x y f t w):=by
 have zc:=h.fX;refine(KT hk.k hk.n (hk.aep hc<|zn trivial) hS hx hy f t s.u).mono ?_;rintro e w1⟨k1,o,ho,hm⟩;refine⟨k1,o,ho,?_⟩
 cases o with
 |ok q=>
  obtain⟨b,rfl,hb,hK,hW⟩:=hm;have⟨g1,_⟩:=In.qE (s:=s) hk.ok hn tx ty f t q.1 q.2 ho;have hu:q.2.u=s.u:=by
   exact AX
  exact⟨g1,b,rfl,⟨hK.wide λi p=>by obtain p|p:=p;exact p;show i≠c.cb;omega,ae,λn q=>hk.u n<|hu▸q,g1.ok,hW⟩⟩
 |error z=>
  obtain⟨vl,vr,rfl,hF⟩:=hm;refine⟨vl,vr,rfl,hF.tK,λq=>?_,hF.k⟩;have wd:∀i,(fh c i\/w.heap.size<=i)->fh c i:=λi p=>by obtain p|p:=p;exact p;show i≠c.cb;omega
  exact⟨(hF.apart q).1.wide wd,(hF.apart q).2.wide wd⟩
def aix(s:jd)x y:=size (sub s.k x)<=48/\size (sub s.k y)<=48/\∃σ,sub σ (sub s.k x)=sub σ (sub s.k y)
def PA c cnt(s:jd)Λ x y f t w(e:Ending)w':=∃b,e=.returned (Mv b)/\Bq w w'/\∃s',ju x y f t s (.ok ((),s'))/\qg Λ s s'/\WK w' c cnt s' b/\s'.u=s.u
def abL c(s:jd)x y f t w e w':=∃fl vl vr,e=CO fl vl vr/\Bq w w'/\∃z,z.f=fl/\ju x y f t s (.error z)/\vM w' (fh c) z vl vr
def mV.ok{x y}{f t}{e}(h:mV c cnt s Λ x y f t w e w')(hc:aix s x y):PA c cnt s Λ x y f t w e w':=by
 obtain⟨k1,o,ho,hm⟩:=h;obtain⟨a1,a2,σ,a3⟩:=hc
 cases o with
 |ok q=>
  obtain⟨g,b,rfl,hk⟩:=hm;refine⟨b,rfl,k1,q.2,ho,g,hk,?_⟩;exact AX
 |error z=>
  exfalso;obtain⟨r,_⟩|⟨_,_,⟨θ,_,q'⟩|⟨r,_⟩⟩:=ho
  .omega
  .cases q'
  .exact r σ a3
def mV.no{x:Ty}(h:mV c cnt s Λ x y f t w e w')(hc:¬aix s x y):abL c s x y f t w e w':=by
 obtain⟨k1,o,ho,hm⟩:=h
 cases o with
 |ok q=>
  exfalso;obtain⟨_,q'⟩|⟨a1,a2,⟨θ,hθ,q'⟩|⟨_,q'⟩⟩:=ho
  .cases q'
  .exact hc ⟨a1,a2,θ,hθ.one⟩
  .cases q'
 |error z=>
  obtain⟨vl,vr,rfl,hF⟩:=hm;exact⟨z.f,vl,vr,rfl,k1,z,rfl,ho,hF⟩
end
structure Vt nd c w cnt(s:jd)kb(Λ:Nat->Prop)(Γ:ja)gb Q dom v:Prop where
 we:WE w c cnt
 wk:WK w c cnt s kb
 hn:∀n,¬s.u n->Λ n
 wg:WG w c s Λ Γ gb
 pe:PE w Q nd v
 hq:∀b,Q b->b≠c.cb
 sc:tQ c.mks c.nl dom nd
 hd:∀x,dom x->Γ x≠none
 ft:Fit c cnt (nn nd)
 mf:MkFine c.mks
def ExC nd:=∀(c:WC)(w:World)(cnt:Nat)(s:jd)(kb:Nat)(Λ:Nat->Prop)(Γ:ja)(gb:Nat)(Q:Nat->Prop)(dom:BA->Prop)(v:Value),Vt nd c w cnt s kb Λ Γ gb Q dom v->
 Cq 279 #[Pv c.eb,Mv kb,Mv gb,v] w (bW c (1100*nn nd) (1000*nn nd) (jm c.mks nd Γ) s cnt w)
section
variable {c:WC} {cnt:Nat}
def Vt.part(h:Vt nd c w cnt s kb Λ Γ gb Q dom v)(hb:Bq w w1)(hp:PE w Q x u)(hs:tQ c.mks c.nl dom x)(hx:nn x<=nn nd):Vt x c w1 cnt s kb Λ Γ gb Q dom u:=
 ⟨h.we.af hb,h.wk.af hb,h.hn,h.wg.af hb,hp.af hb,h.hq,hs,h.hd,h.ft.le ae hx,h.mf⟩
end
section
variable {c:WC} {cnt:Nat}
def KU(h:WK w c cnt s kb)(hn:∀n,¬s.u n->Λ n)(hf:Fr (λi=>i=c.cb) w w1):j9 s (.ok (cnt+1,⟨s.k,λn=>s.u n\/n=cnt+1⟩))/\KS w w1 c (cnt+1) s ⟨s.k,λn=>s.u n\/n=cnt+1⟩ Λ kb/\jl Λ ⟨s.k,λn=>s.u n\/n=cnt+1⟩ (.var<|cnt+1):=by
 have hm:j9 s (.ok (cnt+1,⟨s.k,λn=>s.u n\/n=cnt+1⟩)):=⟨cnt+1,λq=>by have:=h.u _ q;unfold us at this;omega,rfl⟩;have⟨g1,g2,_⟩:=In.mD h.ok hn _ _ hm;exact⟨hm,⟨⟨h.k.fr hf h.n<|λ_ p _=>p,h.n,λn q=>by obtain q|q:=q;have:=h.u n q;unfold us at*;omega;unfold us;omega,g1.ok,h.wh⟩,g1.new,g1⟩,g2⟩
def alf:CN pH:=zt rfl
def agn:pH≠uk:=by grind[uk]
def TW.fn{a b}{va vb}(ha:TW w (fh c) S1 a va)(hb:TW w (fh c) S2 b vb)(hc:c.cb<w.heap.size):TW (w.alloc<|.cells #[va,vb] 98) (fh c) (1+S1+S2) (ql a b) (.iface 260<|.agg #[.string<|pn pH,.slice (some ⟨w.heap.size,0,none⟩) 2 2]):=by
 obtain⟨⟨x1,y1,e1,z1⟩,wx⟩:=ha;obtain⟨⟨x2,y2,e2,z2⟩,wy⟩:=hb;exact⟨⟨.aM pH [x1,x2],rh.ty alf y1 y2 (by show w.heap.size≠c.cb;omega),dl.akA pH agn e1 e2,by simp only[size,ak];omega⟩,⟨agn,wx,wy,trivial⟩⟩
def mV.or{x}(h:mV c cnt s Λ x y f t w e w'):abL c s x y f t w e w'\/PA c cnt s Λ x y f t w e w':=by
 by_cases hc:aix s x y
 .exact zn (h.ok hc)
 .exact zt (h.no hc)
end
section
variable {c:WC} {cnt:Nat}
def PB(mk:ji)s n x f t a(Γ:ja):jm mk (.mk 9 s n [x] f t a) Γ=jc j9 λv=>jc (jm mk x<|jj Γ s<|In.mono<|.var v) λa=>jt<|ql (.var v) a:=by simp[jm,qn,qp,qu]
def ye w c n S(h:1<=S):TW w (fh c) S (.var<|n+1) (.iface 248<|Iv<|(n:Int)+1):=TW.of (x:=.var<|n+1) (by have:=dA.var (w:=w) (P:=fh c)<|n+1;simpa using this) trivial (by simpa[size]using h)
def abM(h:TW w (fh c) S T (.iface ta xa))(hS:S<=900000):ri w (fh c) (In.mono T) (.agg #[.iface ta xa,.slice none 0 0]):=⟨ta,xa,none,0,rfl,h.le hS,zt rfl⟩
def WG.set{w':World}{Uu:Nat}{d:j8}{x:BA}(h:WG w c s Λ Γ gb)(he:bR w' (fh c) Uu (jj Γ x d))(hn:Uu≠c.cb)(hi:In.s_ Λ s d)(hd:d.any.Nodup)(hx:x∈c.nl):WG w' c s Λ (jj Γ x d) Uu where
 e:=he
 n:=hn
 i:=h.i.set x hi
 nd y d' q:=by
  rw[jj]at q;split at q
  .grind
  .exact h.nd y d' q
 dm y q:=by
  rw[jj]at q;split at q
  .rename_i e;rw[e];exact hx
  .exact h.dm y q
def abN{x}(h:∀y,dom y->Γ y≠none):∀y,(dom y\/y=x)->jj Γ x d y≠none:=λy q=>by
 rw[jj];split
 .simp
 .grind
end
structure aiy(c:WC)S D(m:jh Ty)(s:jd)cnt w(aw:Nat)(T:Ty)(s1:jd)(ta:TypeId)(xa:Value)(nj:Nat)(w':World):Prop where
 F:Fr (λi=>i=c.cb) w w'
 c1:cnt<=aw
 c2:aw<=cnt+D
 we:WE w' c aw
 m:m s (.ok (T,s1))
 u:∀n,s1.u n->s.u n\/(cnt<n/\n<=aw)
 wh:∀n,Whole<|s1.k n
 n:nj≠c.cb
 k:KW w' (fh c) nj s1.k
 t:TW w' (fh c) S T (.iface ta xa)
structure aiz{α:Type}(c:WC)D(m:jh α)(s:jd)cnt w(aw:Nat)(z:jz)(vl vr:Value)(w':World):Prop where
 F:Fr (λi=>i=c.cb) w w'
 c1:cnt<=aw
 c2:aw<=cnt+D
 we:WE w' c aw
 m:m s (.error z)
 f:vM w' (fh c) z vl vr
section
variable {c:WC} {cnt:Nat} {m:jh α} {g:α->jh Ty} {a:α}
def Ql{p:Prop}(h:p:=by
 split
 .obtain⟨q1,q2⟩:=h5;refine⟨λn q=>?_,q2⟩;obtain r|r:=q1 n q
  .grind
  .omega
 .exact h5):p:=h
def bW.and(h:bW c S D1 (g a) s1 aw w1 e w')(hm:m s (.ok (a,s1)))(hf:Fr (λi=>i=c.cb) w w1)(hc:cnt<=aw)(hu:∀n,s1.u n->s.u n\/(cnt<n/\n<=aw))(hD:aw+D1<=cnt+D):bW c S D (jc m g) s cnt w e w':=by
 obtain⟨F,aC,o,h1,h2,h3,h4,h5⟩:=h;refine⟨hf.trans F,aC,o,ae,ae,h3,zn ⟨a,s1,hm,h4⟩,?_⟩;unfold ald at*;exact Ql
def Qs{p:Prop}(h:p:=by
 obtain⟨vl,vr,rfl,hF⟩:=h5
 exact zt ⟨aC,z,vl,vr,rfl,F,h1,h2,h3,h4,hF⟩):p:=h
def bW.split{m}(h:bW c S D m s cnt w e w'):(∃aw z vl vr,e=CO z.f vl vr/\aiz c D m s cnt w aw z vl vr w')\/(∃aw T s1 ta xa nj,e=.returned (.tuple #[.iface ta xa,Mv nj])/\aiy c S D m s cnt w aw T s1 ta xa nj w'):=by
 obtain⟨F,aC,o,h1,h2,h3,h4,h5⟩:=h;obtain z|⟨T,s1⟩:=o
 .exact Qs
 .obtain⟨q1,q2,ta,xa,kb,rfl,q3,q4,q5⟩:=h5;exact zn ⟨aC,T,s1,ta,xa,kb,rfl,F,h1,h2,h3,h4,q1,q2,q3,q4,q5⟩
def aiz.post(h:aiz c D1 m s cnt w0 aw z vl vr w')(hf:Fr (λi=>i=c.cb) w w0)(hD:D1<=D):bW c S D (jc m g) s cnt w (CO z.f vl vr) w':=⟨hf.trans h.F,aw,.error z,h.c1,by have:=h.c2;omega,h.we,zt ⟨z,h.m,rfl⟩,vl,vr,rfl,h.f⟩
def ago(hw:WE w c cnt)(hk:WK w c cnt s kb)(ht:TW w (fh c) S T (.iface ta xa))(hb:Fr (λi=>i=c.cb) w0 w):bW c S D (jt T) s cnt w0 (.returned<|.tuple #[.iface ta xa,Mv kb]) w:=⟨hb,cnt,.ok (T,s),br _,ae,hw,rfl,λn q=>zt q,hk.wh,ta,xa,kb,rfl,hk.n,hk.k,ht⟩
def abL.post{x:Ty}(h:abL c s x y f t w0 e w')(hw:WE w0 c cnt)(hf:Fr (λi=>i=c.cb) w w0){g}:∃fl vl vr,e=CO fl vl vr/\bW c S D (jc (ju x y f t) g) s cnt w e w':=by
 obtain⟨fl,vl,vr,rfl,k6,z,rfl,he,hF⟩:=h;exact⟨z.f,vl,vr,rfl,hf.trans<|Fr.of k6,cnt,.error z,br _,ae,hw.af k6,zt ⟨z,he,rfl⟩,vl,vr,rfl,hF⟩
def PA.up{x:Ty}(h:PA c cnt s Λ x y f t w0 e w')(hb:Bq w w0):PA c cnt s Λ x y f t w e w':=by
 obtain⟨b,h1,h2,h3⟩:=h;exact⟨b,h1,hb.trans<|h2.mono hb.size,h3⟩
def KS.and{w2}{dI kb2}{s2}(h:KS w w1 c aw s s1 Λ nj)(k:KS w1 w2 c dI s1 s2 Λ kb2):KS w w2 c dI s s2 Λ kb2:=⟨k.k,k.n,h.p.trans k.p⟩
def aiy.step{mk}{x}{T}{ta}{xa}(q:aiy c S D (jm mk x Γ) s cnt w0 aw T s1 ta xa nj w1)(hk:WK w c cnt s kb)(hn:∀n,¬s.u n->Λ n)(hg:WG w c s Λ Γ gb):KS w w1 c aw s s1 Λ nj/\jl Λ s1 T:=abK hk hn hg q.m q.u q.c1 q.wh q.n q.k
def Cl c S D(p:jh Ty)(s:jd)cnt w D1(p1:jh Ty)(s1:jd)aw w1:=∀e w',bW c S D1 p1 s1 aw w1 e w'->bW c S D p s cnt w e w'
def Cl.and{p}{w2}{dI}{s2}(h:Cl c S D p s cnt w D1 (jc m g) s1 aw w1)(hm:m s1 (.ok (a,s2)))(hf:Fr (λi=>i=c.cb) w1 w2)(hc:aw<=dI)(hu:∀n,s2.u n->s1.u n\/(aw<n/\n<=dI)){D2}(hD:dI+D2<=aw+D1):Cl c S D p s cnt w D2 (g a) s2 dI w2:=λe w' hh=>h e w'<|hh.and hm hf hc hu hD
def alg{k}(hu:m0 k)w c S(h:1<=S):TW w (fh c) S (.aM k []) (.iface 260<|.agg #[.string k,.slice none 0 0]):=by
 have q:=dA.aM (w:=w) (P:=fh c) k [] none 0 (λ_=>Zv) (zt<|zn<|zn hu) (zt rfl)<|λi h=>xA;rw[fG hu]at q;exact TW.of q ⟨λe=>by obtain⟨a,r,h1,h2⟩:=hu;rw[e,show uk.toList=[116,111,111,32,108,97,114,103,101]from toList_mk _]at h1;injection h1 with h1 _;subst h1;revert h2;decide,trivial⟩ (by simpa[size,ak]using h)
end
section
variable {c:WC} {cnt:Nat}
noncomputable def MK (rc:Bool) (st:BA) (Γ:ja):ja:=if rc then In.aes Γ st else Γ
end
section
variable {c:WC} {cnt:Nat} {p:jh Ty}
def bW.below(h:bW c S D p s cnt w0 e w')(hb:Bq w w0):bW c S D p s cnt w e w':=⟨(Fr.of hb).trans h.1,h.2⟩
def Dsp w c cnt(s:jd)kb gb S D(p:jh Ty)fn T xs:=
 (∀W:World,Bq w W->Cq fn #[Pv c.eb,Mv kb,Mv gb,.agg xs] W (bW c S D p s cnt W))->
  Cq 279 #[Pv c.eb,Mv kb,Mv gb,.iface T<|.agg xs] w (bW c S D p s cnt w)
def akg:
 (∀{a y:Nat}{st tx ax},Dsp w c cnt s kb gb S D p 296 191 #[Nv f,Nv t,Nv a,Nv y,.string st,.iface tx ax])/\
 (∀{n sc sa tx ax},Dsp w c cnt s kb gb S D p 299 82 #[Nv f,Nv t,.iface tx ax,.slice sa n sc]):=by
 refine⟨?_,?_⟩;all_goals
  intros;intro H;go_enter func279,ntmps279;go_wp2_with fail;refine(H _<|bw _).mono ?_;intro e w1 hp;have HP:=ai<|hp.below<|bw _;obtain⟨aw,zz,vl,vr,rfl,q⟩|⟨aw,T1,s1,ND,NE,nj,rfl,q⟩:=hp.split
  .go_wp2
   exact⟨rfl,HP⟩
  .go_wp2
   go_ret2;exact HP
def akf(hw:WE w c cnt)(hk:WK w c cnt s kb)(hS:1<=S)(n:Nat):Cq 279 #[Pv c.eb,Mv kb,Mv gb,.iface 206<|.agg #[Nv f,Nv t,Nv n]] w (bW c S D (jt<|.aM lA []) s cnt w):=by
 have HW:=ai hw;have HK:=ai hk;clear hw hk;go_enter func279,ntmps279;go_wp2_with fail;refine RK.mono ?_;rintro e w1⟨rfl,rfl⟩
 go_wp2
 go_ret2;have k0:=(vf w.heap.size w).alloc<|br _;exact ago (HW.af<|k0 _) (HK.af<|k0 _) (alg EY _ c _ hS)<|Fr.of<|k0 _
end
abbrev qH(c:WC)gv i:=i≠c.cb/\i≠gv
structure CP w c gv cnt(s:jd)kb:Prop where
 k:KW w (qH c gv) kb s.k
 n:qH c gv kb
 u:∀n,s.u n->us cnt n
 ok:In.Ok s
 wh:∀n,Whole<|s.k n
section
variable {c:WC} {cnt:Nat}
def CP.wk(h:CP w c gv cnt s kb):WK w c cnt s kb:=⟨h.k.wide λ_ p=>p.1,h.n.1,h.u,h.ok,h.wh⟩
def CP.of(h:WK w c cnt s kb)(hg:w.heap.size<=gv):CP w c gv cnt s kb:=⟨h.k.move (br _) rfl (λ_ _ _=>rfl) (λi p z=>⟨p,ae⟩),⟨h.n,by have:=h.k.lt;omega⟩,h.u,h.ok,h.wh⟩
def CP.fr(h:CP w c gv cnt s kb)(hf:Fr (λi=>i=c.cb\/i=gv) w w'):CP w' c gv cnt s kb:=⟨h.k.fr hf (λq=>q.elim h.n.1 h.n.2)<|λi p _ q=>q.elim p.1 p.2,h.n,h.u,h.ok,h.wh⟩
def CP.af(h:CP w c gv cnt s kb)(hb:Bq w w'):CP w' c gv cnt s kb:=h.fr<|Fr.of hb
def alh c gv cnt(s:jd)Λ x y f t w(e:Ending)w':=∃b,e=.returned (Mv b)/\Bq w w'/\∃s',ju x y f t s (.ok ((),s'))/\qg Λ s s'/\CP w' c gv cnt s' b/\s'.u=s.u
def akb(h:WE w c cnt)(hg:gv<w.heap.size)(hk:CP w c gv cnt s kb)(hn:∀n,¬s.u n->Λ n)(hc:cnt<=1000000)(hS:S<=900000){x}(hx:TW w (qH c gv) S x v)(hy:TW w (qH c gv) S y u)(tx:jl Λ s x)(ty:jl Λ s y)f t:
 Cq 280 #[Mv kb,v,u,.agg #[Nv f,Nv t]] w (λe w'=>abL c s x y f t w e w'\/alh c gv cnt s Λ x y f t w e w'):=by
 have zc:=h.fX;refine(KT hk.k hk.n (hk.wk.aep hc<|zn trivial) hS hx hy f t s.u).mono ?_;rintro e w1⟨k1,o,ho,hm⟩
 cases o with
 |ok q=>
  obtain⟨b,rfl,hb,hK,hW⟩:=hm;have⟨g1,_⟩:=In.qE (s:=s) hk.ok hn tx ty f t q.1 q.2 ho;have hu:q.2.u=s.u:=by
   exact AX
  exact zn ⟨b,rfl,k1,q.2,ho,g1,⟨hK.wide λi p=>by obtain p|p:=p;exact p;exact⟨ae,ae⟩,⟨ae,ae⟩,λn q=>hk.u n<|hu▸q,g1.ok,hW⟩,hu⟩
 |error z=>
  obtain⟨vl,vr,rfl,hF⟩:=hm;refine zt ⟨z.f,vl,vr,rfl,k1,z,rfl,ho,hF.tK,λq=>?_,hF.k⟩;have wd:∀i,(qH c gv i\/w.heap.size<=i)->fh c i:=λi p=>by obtain p|p:=p;exact p.1;show i≠c.cb;omega
  exact⟨(hF.apart q).1.wide wd,(hF.apart q).2.wide wd⟩
end
def ali(c:WC)(gv S:Nat)(s:jd)(cnt:Nat)(w':World)(aC:Nat)(e:Ending)(o:Except jz ((Ty×ja)×jd)):Prop:=match o with
 |.ok ((T,g'),s')=>(∀n,s'.u n->s.u n\/(cnt<n/\n<=aC))/\(∀n,Whole<|s'.k n)/\∃ta xa kb,e=.returned (.tuple #[.iface ta xa,Mv kb])/\qH c gv kb/\KW w' (qH c gv) kb s'.k/\TW w' (qH c gv) S T (.iface ta xa)/\bR w' (qH c gv) gv g'|.error z=>∃vl vr,e=CO z.f vl vr/\vM w' (fh c) z vl vr
def dU c gv S D(p:jh (Ty×ja))(s:jd)cnt w e w':=Fr (λi=>i=c.cb\/i=gv) w w'/\∃aC o,cnt<=aC/\aC<=cnt+D/\WE w' c aC/\p s o/\ali c gv S s cnt w' aC e o
structure PaA nd c w cnt(s:jd)kb(Λ:Nat->Prop)(g:ja)gv Q v:Prop where
 we:WE w c cnt
 wk:CP w c gv cnt s kb
 hn:∀n,¬s.u n->Λ n
 e:bR w (qH c gv) gv g
 i:jx Λ s g
 l:c.gL<=gv
 pp:PP w Q nd v
 hq:∀b,Q b->b≠c.cb/\b≠gv
 sc:oX c.mks c.nl nd
 ft:Fit c cnt (nn nd)
 mf:MkFine c.mks
def PaC nd:=∀(c:WC)(w:World)(cnt:Nat)(s:jd)(kb:Nat)(Λ:Nat->Prop)(g:ja)(gv:Nat)(Q:Nat->Prop)(v:Value),PaA nd c w cnt s kb Λ g gv Q v->
 Cq 313 #[Pv c.eb,Mv kb,Mv gv,v] w (dU c gv (1100*nn nd) (1000*nn nd) (jf c.mks nd g) s cnt w)
section
variable {c:WC} {cnt:Nat}
def agp(hw:WE w c cnt)(hk:CP w c gv cnt s kb)(ht:TW w (qH c gv) S T (.iface ta xa))(he:bR w (qH c gv) gv g)(hb:Fr (λi=>i=c.cb\/i=gv) w0 w):dU c gv S D (jt (T,g)) s cnt w0 (.returned<|.tuple #[.iface ta xa,Mv kb]) w:=⟨hb,cnt,.ok ((T,g),s),br _,ae,hw,rfl,λn q=>zt q,hk.wh,ta,xa,kb,rfl,hk.n,hk.k,ht,he⟩
def alj{k}(hu:m0 k)w c gv S(h:1<=S):TW w (qH c gv) S (.aM k []) (.iface 260<|.agg #[.string k,.slice none 0 0]):=TW.of (abO w _ hu) ⟨λe=>by obtain⟨a,r,h1,h2⟩:=hu;rw[e,show uk.toList=[116,111,111,32,108,97,114,103,101]from toList_mk _]at h1;injection h1 with h1 _;subst h1;revert h2;decide,trivial⟩ (by simpa[size,ak]using h)
def aeX w c gv n S(h:1<=S):TW w (qH c gv) S (.var<|n+1) (.iface 248<|Iv<|(n:Int)+1):=TW.of (x:=.var<|n+1) (by have:=dA.var (w:=w) (P:=qH c gv)<|n+1;simpa using this) trivial (by simpa[size]using h)
end
def Rp{cn}(hq:k=3/\cn=lA\/k=4/\cn=kC\/k=5/\cn=pS)st n f t a:PaC (.mk k st n [] f t a):=by
 intro c w cnt s kb Λ g gv Q v h;have hu:m0 cn:=by obtain⟨-,rfl⟩|⟨-,rfl⟩|⟨-,rfl⟩:=hq;exact EY;exact To;exact Tp
 have en:nn (.mk k st n [] f t a)=1:=qBi;have ep:jf c.mks (.mk k st n [] f t a) g=jt (.aM cn [],g):=by obtain⟨rfl,rfl⟩|⟨rfl,rfl⟩|⟨rfl,rfl⟩:=hq<;>simp[jf,j5]
 rw[en,ep];have hp:=h.pp;obtain⟨T,xs,rfl,hv⟩:∃T xs,v=Fv T (Av xs)/\(T=206/\cn=lA/\(∃n:Nat,xs=#[Nv f,Nv t,Nv n])\/T=201/\cn=kC/\(∃n:Bool,xs=#[Nv f,Nv t,.bool n])\/T=204/\cn=pS/\xs=#[Nv f,Nv t]):=by
  obtain⟨rfl,rfl⟩|⟨rfl,rfl⟩|⟨rfl,rfl⟩:=hq
  .cases hp;exact⟨_,_,rfl,zt ⟨rfl,rfl,_,rfl⟩⟩
  .cases hp;exact⟨_,_,rfl,zn<|zt ⟨rfl,rfl,_,rfl⟩⟩
  .cases hp;exact⟨_,_,rfl,zn<|zn ⟨rfl,rfl,rfl⟩⟩
 have k0:=(vf w.heap.size w).alloc (br _)<|Cv xs T;have HW:=h.we.af k0;have HK:=h.wk.af k0;have HE:=h.e.af k0;have K0:=ai k0;clear hq hp ep;obtain⟨rfl,rfl,n,rfl⟩|⟨rfl,rfl,n,rfl⟩|⟨rfl,rfl,rfl⟩:=hv;all_goals
  go_enter func313,ntmps313;go_wp2_with fail;first|refine RK.mono ?_|refine abP.mono ?_|refine abQ.mono ?_
  rintro e w1⟨rfl,rfl⟩
  go_wp2
  go_ret2;exact agp HW HK (alj hu _ c gv _ ae) HE<|Fr.of K0
def ahk st n f t a:PaC (.mk 15 st n [] f t a):=by
 intro c w cnt s kb Λ g gv Q v h;have en:nn (.mk 15 st n [] f t a)=1:=qBi;have ep:jf c.mks (.mk 15 st n [] f t a) g=jc j9 λv=>jt (.var v,g):=by simp[jf,j5]
 rw[en,ep];obtain⟨-,rfl⟩:∃_:Unit,v=Fv 217 (Av #[Nv f,Nv t]):=by cases h.pp;exact⟨(),rfl⟩
 have k0:Bq w (w.alloc<|Cv #[Nv f,Nv t] 217):=bw _;have zc:=h.we.fX;have fta:=h.ft.a;rw[en]at fta;have W0:=ai<|h.we.af k0;have⟨e1,e2,e3⟩:=h.we.bx;have HF:=rT cnt ae (h.we.af k0).ct;have HA:=ai h;have K0:=ai k0;have lg:=h.e.lt;have ll:=h.l;have lc:=h.we.l;clear h k0;go_enter func313,ntmps313;go_wp2_with fail;refine HF.mono ?_;rintro e w3⟨rfl,alk⟩;have⟨rC,F3⟩:=W0.fresh;rw[<-alk]at rC F3;clear alk HF e1 e2 e3;have h:=uh HA;have F03:=(Fr.of (S:=λi=>i=c.cb) K0).trans F3;have⟨Cb,st3,ty3⟩:=KU h.wk.wk h.hn F03;have FG:=F03.gL (T:=λi=>i=c.cb\/i=gv) λ_ q=>Or.inl q;have HW3:=ai rC;have FF:=ai FG;have HNW:=ai Cb;have ag2:=ai F03;clear h F3 F03 FG Cb st3 ty3 rC
 go_wp2
 go_ret2;have h:=uh HA;have k3:=h.wk.fr FF;exact⟨FF,cnt+1,.ok ((.var<|cnt+1,g),⟨s.k,λn=>s.u n\/n=cnt+1⟩),ae,ae,HW3,zn ⟨cnt+1,_,HNW,rfl⟩,λn q=>q.imp id λq=>ae,h.wk.wh,_,_,kb,rfl,k3.n,k3.k,aeX _ c gv cnt _ ae,h.e.move FF.size (ag2.block _ h.e.lt ae) (λb p z=>FF.block b z<|λq=>q.elim p.1 p.2)<|λ_ p _=>p⟩
structure aeY(c:WC)gv S D(m:jh (Ty×ja))(s:jd)cnt w(aw:Nat)(T:Ty)(g1:ja)(s1:jd)(ta:TypeId)(xa:Value)(nj:Nat)(w':World):Prop where
 F:Fr (λi=>i=c.cb\/i=gv) w w'
 c1:cnt<=aw
 c2:aw<=cnt+D
 we:WE w' c aw
 m:m s (.ok ((T,g1),s1))
 u:∀n,s1.u n->s.u n\/(cnt<n/\n<=aw)
 wh:∀n,Whole<|s1.k n
 n:qH c gv nj
 k:KW w' (qH c gv) nj s1.k
 t:TW w' (qH c gv) S T (.iface ta xa)
 e:bR w' (qH c gv) gv g1
structure aeZ{α:Type}(c:WC)gv D(m:jh α)(s:jd)cnt w(aw:Nat)(z:jz)(vl vr:Value)(w':World):Prop where
 F:Fr (λi=>i=c.cb\/i=gv) w w'
 c1:cnt<=aw
 c2:aw<=cnt+D
 we:WE w' c aw
 m:m s (.error z)
 f:vM w' (fh c) z vl vr
section
variable {c:WC} {cnt:Nat} {m:jh α} {gg:α->jh (Ty×ja)} {a:α}
def dU.split{m}(h:dU c gv S D m s cnt w e w'):(∃aw z vl vr,e=CO z.f vl vr/\aeZ c gv D m s cnt w aw z vl vr w')\/(∃aw T g1 s1 ta xa nj,e=.returned (.tuple #[.iface ta xa,Mv nj])/\aeY c gv S D m s cnt w aw T g1 s1 ta xa nj w'):=by
 obtain⟨F,aC,o,h1,h2,h3,h4,h5⟩:=h;obtain z|⟨⟨T,g1⟩,s1⟩:=o
 .exact Qs
 .obtain⟨q1,q2,ta,xa,kb,rfl,q3,q4,q5,q6⟩:=h5;exact zn ⟨aC,T,g1,s1,ta,xa,kb,rfl,F,h1,h2,h3,h4,q1,q2,q3,q4,q5,q6⟩
def aeZ.post(h:aeZ c gv D1 m s cnt w0 aw z vl vr w')(hf:Fr (λi=>i=c.cb\/i=gv) w w0)(hD:D1<=D):dU c gv S D (jc m gg) s cnt w (CO z.f vl vr) w':=⟨hf.trans h.F,aw,.error z,h.c1,by have:=h.c2;omega,h.we,zt ⟨z,h.m,rfl⟩,vl,vr,rfl,h.f⟩
def dU.and(h:dU c gv S D1 (gg a) s1 aw w1 e w')(hm:m s (.ok (a,s1)))(hf:Fr (λi=>i=c.cb\/i=gv) w w1)(hc:cnt<=aw)(hu:∀n,s1.u n->s.u n\/(cnt<n/\n<=aw))(hD:aw+D1<=cnt+D):dU c gv S D (jc m gg) s cnt w e w':=by
 obtain⟨F,aC,o,h1,h2,h3,h4,h5⟩:=h;refine⟨hf.trans F,aC,o,ae,ae,h3,zn ⟨a,s1,hm,h4⟩,?_⟩;unfold ali at*;exact Ql
def PCl c gv S D(p:jh (Ty×ja))(s:jd)cnt w D1(p1:jh (Ty×ja))(s1:jd)aw w1:=∀e w',dU c gv S D1 p1 s1 aw w1 e w'->dU c gv S D p s cnt w e w'
def PCl.refl c gv S D(p:jh (Ty×ja))(s:jd)cnt w:PCl c gv S D p s cnt w D p s cnt w:=λ_ _ h=>h
def PCl.and{p}{w2}{dI}{s2}(h:PCl c gv S D p s cnt w D1 (jc m gg) s1 aw w1)(hm:m s1 (.ok (a,s2)))(hf:Fr (λi=>i=c.cb\/i=gv) w1 w2)(hc:aw<=dI)(hu:∀n,s2.u n->s1.u n\/(aw<n/\n<=dI)){D2}(hD:dI+D2<=aw+D1):PCl c gv S D p s cnt w D2 (gg a) s2 dI w2:=λe w' hh=>h e w'<|hh.and hm hf hc hu hD
end
section
variable {c:WC} {cnt:Nat}
def PaA.part(h:PaA nd c w cnt s kb Λ g gv Q v)(hb:Bq w w1)(hp:PP w Q x u)(hs:oX c.mks c.nl x)(hx:nn x<=nn nd):PaA x c w1 cnt s kb Λ g gv Q u:=
 ⟨h.we.af hb,h.wk.af hb,h.hn,h.e.af hb,h.i,h.l,hp.af hb,h.hq,hs,h.ft.le ae hx,h.mf⟩
structure alm w1 c gv aw(s s1:jd)(Λ:Nat->Prop)nj g1 T:Prop where
 k:CP w1 c gv aw s1 nj
 n:∀n,¬s1.u n->Λ n
 p:qg Λ s s1
 i:jx Λ s1 g1
 t:jl Λ s1 T
def aeY.step{mk}{w0}{T}{ta}{xa}(q:aeY c gv S D (jf mk x g) s cnt w0 aw T g1 s1 ta xa nj w1)(hk:CP w c gv cnt s kb)(hn:∀n,¬s.u n->Λ n)(hi:jx Λ s g):alm w1 c gv aw s s1 Λ nj g1 T:=by
 have⟨g1',g2,g3⟩:=In.uT mk x g s Λ hk.ok hn hi _ s1 q.m;exact⟨⟨q.k,q.n,λn p=>by obtain r|r:=q.u n p;have:=hk.u n r;have:=q.c1;unfold us at*;omega;rw[us];omega,g1'.ok,q.wh⟩,g1'.new,g1',g3,g2⟩
end
section
variable {c:WC} {cnt:Nat}
def PaA.next(h:PaA nd c w cnt s kb Λ g gv Q v)(hf:Fr (λi=>i=c.cb\/i=gv) w w1)(hw:WE w1 c aw)(st:alm w1 c gv aw s0 s1 Λ nj g1 T)(he:bR w1 (qH c gv) gv g1)(hp:PP w Q x u)(hs:oX c.mks c.nl x)(hz:aw+1000*nn x<=cnt+1000*nn nd)(hx:nn x<=nn nd):PaA x c w1 aw s1 nj Λ g1 gv Q u:=
 ⟨hw,st.k,st.n,he,st.i,h.l,hp.move hf.size (λb p z=>hf.block b z λq=>q.elim (h.hq b p).1 (h.hq b p).2)<|λ_ p _=>p,h.hq,hs,h.ft.le hz hx,h.mf⟩
def abR(mk:ji)s n x y f t a(g:ja):jf mk (.mk 6 s n [x,y] f t a) g=jc (jf mk x g) λa=>jc (jf mk y a.2) λb=>jt (qy a.1 b.1,b.2):=by simp[jf,j5,qh,qu]
end
def akd st n f t a{y}(Hx:PaC x)(Hy:PaC y):PaC (.mk 6 st n [x,y] f t a):=by
 intro c w cnt s kb Λ g gv Q v h;have en:nn (.mk 6 st n [x,y] f t a)=1+nn x+nn y:=qAd;rw[abR];obtain⟨sx,sy⟩:oX c.mks c.nl x/\oX c.mks c.nl y:=by
  cases h.sc with
  |pr _ _ _ _ _ _ _ hx hy=>exact⟨hx,hy⟩
 obtain⟨vx,vy,rfl,hx,HY⟩:∃vx vy,v=Fv 208 (Av #[Nv f,Nv t,vx,vy])/\PP w Q x vx/\PP w Q y vy:=by cases h.pp with|pr _ _ _ _ _ _ _ vx vy hx hy=>exact⟨vx,vy,rfl,hx,hy⟩
 have⟨k0,B0⟩:=Hu w #[Nv f,Nv t,vx,vy] 208;have H1:=Hx c _ cnt s kb Λ g gv Q vx<|h.part k0 hx sx qeo;have zc:=h.we.fX;have lg:=h.e.lt;have HA:=ai h;have C0:=PCl.refl c gv (1100*(1+nn x+nn y)) (1000*(1+nn x+nn y)) (In.andM (In.b_ c.mks x g) λa=>In.andM (In.b_ c.mks y a.2) λb=>In.eQ (In.tPr a.1 b.1,b.2)) s cnt w;rw[en];have K0:=ai k0;obtain⟨tx,ax,rfl⟩:=hx.iface;obtain⟨ty,ay,rfl⟩:=HY.iface;go_enter func313,ntmps313;go_wp2_with fail;refine H1.mono ?_;intro e w1 hp;obtain⟨aw,zz,vl,vr,rfl,q⟩|⟨aw,T1,g1,s1,ND,NE,nj,rfl,q⟩:=hp.split
 .have HP:=q.post (S:=1100*(1+nn x+nn y)) (D:=1000*(1+nn x+nn y)) (gg:=λa=>jc (jf c.mks y a.2) λb=>jt (qy a.1 b.1,b.2)) (Fr.of K0) ae
  go_wp2
  exact⟨rfl,HP⟩
 have h:=uh HA;have F01:=(Fr.of (S:=λi=>i=c.cb\/i=gv) K0).trans q.F;have c1:=q.c1;have c2:=q.c2;have ST1:=q.step h.wk h.hn h.i;have C1:=C0.and q.m F01 q.c1 q.u (D2:=1000*(1+nn y)) ae;have H2:=Hy c w1 aw s1 nj Λ g1 gv Q _<|h.next F01 q.we ST1 q.e HY sy qeo qeo;have B1:=B0.fr q.F ae;obtain⟨b1,b2,b3⟩:=B1;have WU:=ai q.t;go_wp2_with fail;refine H2.mono ?_;intro e w2 hp;obtain⟨dI,zz,vl,vr,rfl,q⟩|⟨dI,T2,g2,s2,ta2,xa2,kb2,rfl,q⟩:=hp.split
 .have HP:=q.post (S:=1100*(1+nn x+nn y)) (D:=1000*(1+nn y)) (gg:=λb=>jt (qy T1 b.1,b.2)) (Fr.refl _ _) ae
  go_wp2
  exact⟨rfl,C1 _ _ HP⟩
 have c3:=q.c1;have c4:=q.c2;have C2:=C1.and q.m q.F q.c1 q.u (D2:=1000) ae;have st2:=q.step ST1.k ST1.n ST1.i;have T12:=WU.move q.F.size (λb p z=>q.F.block b z λr=>r.elim p.1 p.2)<|λ_ p _=>p;have T2':=ai q.t;have K2':=ai st2.k;have E2:=ai q.e;have W2':=ai q.we;have z2:=q.we.fX;have lg2:=q.e.lt;have HP:=ae0 (w:=w2) ND ta2 NE xa2;go_wp2_with fail;refine HP.mono ?_;rintro e w3⟨rfl,rfl⟩
 go_wp2
 go_ret2;have k3:Bq w2 (w2.alloc<|Cv #[Fv ND NE,Fv ta2 xa2] 98):=bw _;obtain⟨⟨x1,y1,e1,z1⟩,wx⟩:=T12;have⟨⟨x2,y2,e2,z2'⟩,wy⟩:=uh T2';refine C2 _ _ (agp (W2'.af k3) (K2'.af k3) ⟨⟨.aM o6 [x1,x2],rh.ty (zn<|zt rfl) y1 y2 ⟨ae,ae⟩,dl.akA o6 (by rw[o6,uk];intro e;simp at e) e1 e2,?_⟩,?_⟩ (E2.af k3) (Fr.of k3))
 .simp only[size,ak];omega
 .exact⟨by rw[o6,uk];intro e;simp at e,wx,wy,trivial⟩
section
variable {c:WC} {cnt:Nat}
def aiA(h:WE w c cnt)(hk:WK w c cnt s kb)(hd:ri w (fh c) d v)(yS:d.any.Nodup)(hct:cnt<=1000000)(hz:size (sub s.k d.of)<=48->cnt+d.any.length<=1000000)f t:
 Cq 291 #[Pv c.eb,Mv kb,v,.agg #[Nv f,Nv t]] w (abJ c d f t s cnt w):=by
 have hf:=hk.aep ae<|zn trivial;obtain⟨ta,xa,sa,sc,rfl,t1,T2⟩:=hd;have XW:Whole (sub s.k d.of):=dn _ t1.wh λn _=>hf.wh n;have k0:Bq w ((w.alloc<|Cv #[Fv ta xa,Lv sa d.any.length sc] 418).alloc<|Cv #[Nv f,Nv t] 69):=(bw _).alloc ah _;have B1:=(v9 w #[Fv ta xa,Lv sa d.any.length sc] 418).below<|bw<|Cv #[Nv f,Nv t] 69;have B2:Hid (Bx ((w.alloc<|Cv #[Fv ta xa,Lv sa d.any.length sc] 418).alloc<|Cv #[Nv f,Nv t] 69) (w.heap.size+1) #[Nv f,Nv t]):=by
  have:=v9 (w.alloc<|Cv #[Fv ta xa,Lv sa d.any.length sc] 418) #[Nv f,Nv t] 69;rw[cM]at this;exact ai this
 have HO:=Fy (hk.k.af k0) hk.n hf (br _)<|t1.af k0;have hcz:=t1.aeq hf<|br _;have zc:=h.fX;have K0:=ai k0;clear hk t1 k0;go_enter func291,ntmps291;go_wp2_with fail;refine HO.mono ?_;rintro e w1⟨u,rfl,hu,k1⟩;have HS:=pk _ w1 _ _ hu hcz;obtain⟨n1,wY⟩:∃n,n=sz (bN<|sub s.k d.of):=⟨_,rfl⟩;rw[<-wY]at HS;have E1:=Fz (sub s.k d.of) XW;rw[<-wY]at E1;obtain⟨tu,xu,rfl⟩:=hu.iface;have z0:=K0.size;simp only[cM]at z0;have KK1:=K0.trans<|k1.mono K0.size;have U1:=hu.wide (Q:=fh c) λi p=>by obtain p|p:=p;exact p;simp only[cM]at p;show i≠c.cb;omega
 have B3:=B1.below k1;have B4:=B2.below k1;clear hu k1 HO wY B1 B2;go_wp2_with fail;refine HS.mono ?_;rintro e w2⟨rfl,k2⟩;have Uw:=KK1.trans<|k2.mono KK1.size;have⟨c3,f3,z3⟩:=B3.below k2;have⟨c4,f4,z4⟩:=B4.below k2;have U2:=U1.af k2;clear k2 HS U1 B3 B4;by_cases aaI:48<n1
 .have hm:(48:Int)<(n1:Int):=ae;have HT:=mC (w:=w2) (f:Int) (t:Int);go_wp2_with fail;refine HT.mono ?_;rintro e w3⟨rfl,K3⟩;clear HT;go_wp2_with fail;have hkk:=Uw.trans<|K3.mono Uw.size;exact⟨rfl,Fr.of hkk,zt ⟨E1.1.1 aaI,h.af hkk,rfl⟩⟩
 .have hm:¬(48:Int)<(n1:Int):=ae;have hs:size (sub s.k d.of)<=48:=by have:=E1.1;omega
  have HA:=abH (sc:=sc) (h.af Uw) (T2.move Uw.size (λi _ hi=>Uw.block i hi)<|λ_ p _=>p) yS<|hz hs;have MJ:=E1.2 hs;rw[MJ]at U2;go_wp2_with fail;refine HA.mono ?_;rintro e w3⟨b,rfl,hb,W3,hs3,F3⟩;have ev:=aeW cnt d.any;have hu3:=U2.fr F3<|λi p _=>p;have Zk:=Rj hs3 (show fh c b by have:=Uw.size;show b≠c.cb;omega) hu3 ae (by rw[ev,lI];omega);rw[ev]at Zk;have hcut:bN (sub (jo<|y8 cnt d.any)<|sub s.k d.of)=sub (jo<|y8 cnt d.any) (sub s.k d.of):=AG (by rw[lI];exact hs)<|tZ _ _ XW;rw[hcut]at Zk;have HF3:=(Fr.of Uw).trans F3;clear hs3 F3 HA ev hu3 hcut MJ;go_wp2_with fail;refine Zk.mono ?_;rintro e w4⟨u4,rfl,U4,k4⟩;obtain⟨tu4,xu4,rfl⟩:=U4.iface;have K4:=ai k4;clear k4 Zk
  go_wp2
  go_ret;have k4:=uh K4;have f3:=HF3;refine⟨f3.trans<|Fr.of k4,zn ⟨hs,W3.af k4,tu4,xu4,rfl,U4.wide λi p=>?_⟩⟩;obtain p|p:=p
  .exact p
  .show i≠c.cb;have:=f3.size;omega
end
section
variable {c:WC} {cnt:Nat}
def bR.look{P}{b}(h:bR w P b Γ){x}{d}(hx:Γ x=some d):∃v,ri w P d v/\(Instr.lookup 152 (Mv b) (.string x) false).run vh w=.ok v w:=by
 obtain⟨L,h1,h2,h3⟩:=h;have hl:=h1.ms.look KLS iB (AE w) x trivial (λ_ _=>trivial) false
 cases hg:bd x L with
 |none=>grind|some v=>
  rw[hg]at hl;have⟨d',e,hs⟩:=h3 x v hg;rw[hx]at e;injection e with e;subst e;exact⟨v,hs,by simpa using hl⟩
def abS(h:In.s_ Λ s d)(hn:d.any.Nodup):d.any.length<=size (sub s.k d.of):=by
 have h1:=Gu (V:=vars []<|sub s.k d.of) hn λv hv=>(cE (sub s.k d.of) [] v).2 (zn<|(nZ d.of).2 ⟨v,h.sub v hv,by rw[(h.fix v hv).1];simp[aG]⟩);rw[dH]at h1;have h2:=eR (occs<|sub s.k d.of) [];have h3:=eS<|sub s.k d.of;simp only[eF]at h2;omega
def ae1(mk:ji)x n f t a{Γ}(h:Γ x=some d):jm mk (.mk 1 x n [] f t a) Γ=λs o=>(48<size (sub s.k d.of)/\o=.error (qz f t))\/(size (sub s.k d.of)<=48/\∃ρ s',In.zP d.any qd s (.ok (ρ,s'))/\o=.ok (sub (jo ρ)<|sub s.k d.of,s')):=by
 simp[jm,qn,In.Ca,h]
def Zq{x}{a}(h:Vt (.mk 1 x n [] f t a) c w cnt s kb Λ Γ gb Q dom (.iface 305<|.agg #[Nv f,Nv t,.string x])):
 Cq 279 #[Pv c.eb,Mv kb,Mv gb,.iface 305<|.agg #[Nv f,Nv t,.string x]] w (bW c (1100*nn (.mk 1 x n [] f t a)) (1000*nn (.mk 1 x n [] f t a)) (jm c.mks (.mk 1 x n [] f t a) Γ) s cnt w):=by
 have en:nn (.mk 1 x n [] f t a)=1:=qBi;have hx:dom x:=by
  cases h.sc with
  |low _ _ _ _ _ _ hx=>exact hx
 obtain⟨d,hd⟩:∃d,Γ x=some d:=by
  cases hg:Γ x with
  |none=>exact absurd hg (h.hd x hx)|some d=>exact⟨d,rfl⟩
 rw[en,ae1 c.mks x n f t a hd];have fta:=h.ft.a;rw[en]at fta;have yS:=h.wg.nd x d hd;have kX:=abS (h.wg.i x d hd) yS;have k0:Bq w (w.alloc<|Cv #[Nv f,Nv t,Sv x] 305):=bw _;have⟨v,hv,vC⟩:=(h.wg.af k0).e.look hd;have H1:=aiA (h.we.af k0) (h.wk.af k0) hv yS ae (λq=>ae) f t;obtain⟨ta,xa,sa,sc,rfl,WV,hv2⟩:=hv;have HA:=ai h;have K0:=ai k0;have HWD:=ai WV.wh;go_enter func279,ntmps279;go_wp2_with fail;refine H1.mono ?_;rintro e w1⟨F1,hp⟩;obtain⟨hb,HW,rfl⟩|⟨hs,HW,tb,xb,rfl,HT⟩:=hp
 .have FF:=ai F1
  go_wp2
  exact⟨rfl,(Fr.of K0).trans FF,cnt,.error<|qz f t,br _,ae,HW,zt ⟨hb,rfl⟩,Zv,Zv,rfl,λ_=>⟨rfl,rfl⟩,λq=>by simp[qz]at q,zn rfl⟩
 .have FF:=(Fr.of (S:=λi=>i=c.cb) K0).trans F1
  go_wp2
  go_ret2;have h:=uh HA;refine⟨FF,cnt+d.any.length,.ok (sub (jo<|y8 cnt d.any)<|sub s.k d.of,⟨s.k,λn=>s.u n\/(cnt<n/\n<=cnt+d.any.length)⟩),ae,ae,HW,zn ⟨hs,_,_,⟨_,_,WR cnt d.any yS h.wk.u,rfl⟩,rfl⟩,λn q=>q,h.wk.wh,tb,xb,kb,rfl,h.wk.n,h.wk.k.fr FF h.wk.n<|λ_ p _=>p,TW.of HT ?_ ?_⟩
  .exact tZ _ _ (dn _ HWD λn _=>h.wk.wh n)
  .rw[lI];omega
end
section
variable {c:WC} {cnt:Nat}
def JX(h:iI w 248 base v (wM l)):∃sa sc,v=.slice sa l.length sc/\JW w (λi=>base<=i) sa l:=by
 by_cases hl:l=[]
 .subst hl;have⟨va,vc,e⟩:=gY h (n:=0) (by simp[wM]);exact⟨va,vc,e,zt rfl⟩
 .have aln:0<(wM l).length:=by rw[mW];exact Nat.pos_of_ne_zero<|λe=>hl<|List.eq_nil_of_length_eq_zero e
  obtain⟨g,cp,m,rfl,hg,mn,hm⟩:=me h aln;have hm:=uh hm;rw[mW]at hm;subst hm;refine⟨some ⟨g,0,none⟩,cp,rfl,zn ⟨g,rfl,hg,mn,λi hi=>?_⟩⟩;have:=py h i (by rw[mW];exact hi);rw[this];simp[wM]
def Qt{p:Prop}(h:p:=by
 rw[dH];have h2:=eR (occs m) [];have h3:=eS m;simp only[eF]at h2
 omega):p:=h
def Vr(h:WE w c cnt)(hm:dA w P m v)(hz:size m<=1000)(hc:cnt<=900000):Cq 292 #[Pv c.eb,v] w (KR c cnt (vars [] m) w):=by
 have HV:=kM hm ae;have hl:(vars [] m).length<=1000:=by
  exact Qt
 obtain⟨ta,xa,rfl⟩:=hm.iface;have zc:=h.fX;go_enter func292,ntmps292;go_wp2_with fail;refine HV.mono ?_;rintro e w1⟨V,rfl,ho,K1⟩;obtain⟨sa,sc,rfl,hr⟩:=JX ho;have HA:=abH (sc:=sc) (h.af K1) (hr.move (br _) (λ_ _ _=>rfl) (Q:=fh c) λi p _=>by show i≠c.cb;omega) (gV m List.nodup_nil) ae;go_wp2_with fail;refine HA.mono ?_;rintro e w2⟨b,rfl,HB,W2,S2,VE⟩
 go_wp2
 go_ret;exact⟨b,rfl,zv K1.size HB,W2,S2,(Fr.of K1).trans VE⟩
end
section
variable {c:WC} {cnt:Nat}
def IY tk m:size m+tk.length<=size (j7 tk m):=by
 induction tk with
 |nil=>exact br _|cons t tk ih=>
  show _<=size (ql t<|j7 tk m);simp only[size,ak,de];omega
def ae2:Tryz.prog.underlying 150=some (.map 9 421):=qkr
def aiB w:(zeroValue 421).run vh w=.ok (.agg #[.slice none 0 0,.nilIface]) w:=qkr
def mH.look{P}{b}{mk}(h:mH w P b mk){x}{tk}{m}(hx:mk x=some (tk,m)):∃v,Zx w P tk m v/\∀w':World,w'.heap[b]? =w.heap[b]? ->(Instr.lookup 150 (Mv b) (.string x) false).run vh w'=.ok v w':=by
 obtain⟨L,h1,h2,h3⟩:=h
 cases hg:bd x L with
 |none=>grind|some v=>
  have⟨tk',m',e,hs⟩:=h3 x v hg;rw[hx]at e;injection e with e;injection e with e1 e2;subst e1 e2;refine⟨v,hs,λw' hb=>?_⟩;have hl:=(h1.same hb).ms.look KLS ae2 (aiB w') x trivial (λ_ _=>trivial) false;rw[hg]at hl;simpa using hl
theorem Zx.move{P Q}{w'}{tk}{m}{v}(h:Zx w P tk m v)(hs:w.heap.size<=w'.heap.size)(hb:∀b,P b->b<w.heap.size->w'.heap[b]? =w.heap[b]?)(hq:∀b,P b->b<w.heap.size->Q b):Zx w' Q tk m v:=by
 obtain⟨sa,sc,ta,xa,rfl,q1,q2⟩:=h;exact⟨sa,sc,ta,xa,rfl,q1.move hs hb hq,q2.move hs hb hq⟩
end
open Classical in
noncomputable def gQ (R:jv) (D:Nat->Prop):jv:=λv=>if D v then R v else none
def y9(R:jv):gQ R (λ_=>False)=qd:=by funext v;simp[gQ,qd]
def fQ{D:Nat->Prop}{v:Nat}(h:D v):gQ R D v=R v:=by simp[gQ,h]
def uU{D:Nat->Prop}{v:Nat}(h:¬D v):gQ R D v=none:=by simp[gQ,h]
def jY{D:Nat->Prop}{v:Nat}(h:gQ R D v=some n):D v/\R v=some n:=by grind[gQ]
def comes(R:jv)(D:Nat->Prop)t(u:Nat->Prop)n:=u n\/∃v,¬D v/\aG v t/\R v=some n
def WW{D:Nat->Prop}{u:Nat->Prop}{t:Ty}(ht:∀v,aG v t->R v≠none)(hi:∀v v' n,R v=some n->R v'=some n->v=v')(hu:∀v n,¬D v->R v=some n->¬u n):
 In.DL (vars [] t) (gQ R D) (gQ R<|λv=>D v\/aG v t) u (comes R D t u) where
 gB v n h:=by have⟨h1,h2⟩:=jY h;rw[fQ<|zt h1];exact h2
 out v h:=by
  have h:¬aG v t:=λq=>h<|In.bM.2 q;by_cases q:D v
  .rw[fQ<|zt q,fQ q]
  .rw[uU<|λr=>r.elim q h,uU q]
 all v h:=by
  have h:=In.bM.1 h;rw[fQ<|zn h];exact ht v h
 new v n h1 h2:=by
  have⟨h3,h4⟩:=jY h2;by_cases q:D v
  .rw[fQ q]at h1;rw[h1]at h4;cases h4
  .exact hu v n q h4
 one v v' n _ h2 h3:=hi v v' n (jY h2).2 (jY h3).2
 use n:=by
  rw[comes];refine⟨λq=>q.imp id ?_,λq=>q.imp id ?_⟩
  .rintro⟨v,h1,h2,h3⟩;exact⟨v,uU h1,by rw[fQ<|zn h2];exact h3⟩
  .rintro⟨v,h1,h2⟩;have⟨h3,h4⟩:=jY h2;by_cases q:D v
   .rw[fQ q]at h1;rw[h1]at h4;cases h4
   .grind
def DP{D:Nat->Prop}{t:Ty}(ht:∀v,aG v t->R v≠none)(hi:∀v v' n,R v=some n->R v'=some n->v=v')(hu:∀v n,¬D v->R v=some n->¬s.u n):
 qi t (gQ R D) s (.ok ((sub (jo R) t,gQ R<|λv=>D v\/aG v t),⟨s.k,comes R D t s.u⟩)):=by
 refine zn ⟨gQ R<|λv=>D v\/aG v t,_,⟨_,_,WW ht hi hu,rfl⟩,?_⟩;have e:sub (jo<|gQ R<|λv=>D v\/aG v t) t=sub (jo R) t:=sub_congr t λn hn=>by unfold jo;rw[fQ (D:=λv=>D v\/aG v t)<|zn hn]
 show Except.ok _=Except.ok _;rw[e]
def gZ{β γ:Type}{m}{g:α->jh β}{h:β->jh γ}{o:Except jz (γ×jd)}(q:jc m (λa=>jc (g a) h) s o):jc (jc m g) h s o:=by
 obtain⟨x,q1,rfl⟩|⟨a,s1,q1,⟨x,q2,rfl⟩|⟨b,s2,q2,q3⟩⟩:=q
 .exact zt ⟨x,zt ⟨x,q1,rfl⟩,rfl⟩
 .exact zt ⟨x,zn ⟨a,s1,q1,q2⟩,rfl⟩
 .exact zn ⟨b,s2,zn ⟨a,s1,q1,q2⟩,q3⟩
def abT m(q:ja×jv):=jc (qi m q.2) λi=>jt (i.1,q.1)
def gM(mk:ji)(tk:List Ty)m(L:List Nd)j(g:ja)(ρ:jv):=jc (qt (tk.drop j) (L.drop j) (qh mk<|L.drop j) g ρ)<|abT m
def yZ{tk}(h:mk st=some (tk,m))n L f t a(g:ja):jf mk (.mk 2 st n L f t a) g=gM mk tk m L 0 g qd:=by
 simp[jf,j5,h,gM];rfl
def Qy{p:Prop}(h:p:=by
 obtain⟨x,q1,rfl⟩|⟨b,s2,q2,h⟩:=h
 .exact zt ⟨x,q1,rfl⟩
 exact zn ⟨b,s2,q2,gZ h⟩):p:=h
def uj{tk:List Ty}(hl:L.length=tk.length)(hj:j<L.length){o:Except jz ((Ty×ja)×jd)}(h:jc (jf mk L[j] g) (λq=>jc (qi (tk[j]' ae) ρ) λi=>jc (ju q.1 i.1 (jy L[j])<|j3 L[j]) λ_=>gM mk tk m L (j+1) q.2 i.2) s o):gM mk tk m L j g ρ s o:=by
 unfold gM at*;rw[xd hj,xd<|show j<tk.length by omega];show jc (jc (jf mk L[j] g) λq=>jc (qi (tk[j]' ae) ρ) λi=>jc (ju q.1 i.1 (jy L[j])<|j3 L[j]) λ_=>qt (tk.drop<|j+1) (L.drop<|j+1) (qh mk<|L.drop<|j+1) q.2 i.2) (abT m) s o;refine gZ ?_;obtain⟨x,q1,rfl⟩|⟨a,s1,q1,h⟩:=h
 .exact zt ⟨x,q1,rfl⟩
 refine zn ⟨a,s1,q1,gZ ?_⟩;exact Qy
def Jj{tk}(hl:L.length=tk.length){o:Except jz ((Ty×ja)×jd)}(h:abT m (g,ρ) s o):gM mk tk m L L.length g ρ s o:=by
 rw[gM];rw[xn,hl,xn];exact zn ⟨(g,ρ),s,rfl,h⟩
structure MdR(c:WC)cnt(tk:List Ty)m(R:jv):Prop where
 e:R=y8 cnt (vars [] m)
 a:∀i(h:i<tk.length)v,aG v tk[i]->aG v m
def MdR.one{c:WC}{cnt}{tk}{m:Ty}{R:jv}(h:MdR c cnt tk m R):∀v v' n,R v=some n->R v'=some n->v=v':=λv v' n h1 h2=>by
 rw[h.e]at h1 h2;rw[y8]at h1 h2;split at h1<;>split at h2
 .rename_i q1 q2;injection h1 with h1;injection h2 with h2;exact KP q1 q2 ae
 .cases h2
 .cases h1
 .cases h1
def MdR.num{c:WC}{cnt}{tk}(h:MdR c cnt tk m R){v:Nat}(q:R v=some n):cnt<n/\n<=cnt+(vars [] m).length:=by
 rw[h.e]at q;rw[y8]at q;split at q
 .rename_i q1;have:=List.idxOf_lt_length_iff.2 q1;injection q with q;omega
 .cases q
def MdR.has{c:WC}{cnt}{tk}(h:MdR c cnt tk m R){v:Nat}(q:aG v m):R v≠none:=by
 rw[h.e];rw[y8];rw[if_pos<|In.bM.2 q];simp
structure MdS(c:WC)gv cnt(s:jd)w(R:jv)(p:jh (Ty×ja))(Λ:Nat->Prop)tk m L j wr cj(sj:jd)kj(g:ja)D:Prop where
 F:Fr (λi=>i=c.cb\/i=gv) w wr
 we:WE wr c cj
 wk:CP wr c gv cj sj kj
 n:∀n,¬sj.u n->Λ n
 e:bR wr (qH c gv) gv g
 i:jx Λ sj g
 r:In.nQ Λ sj (gQ R D)
 fr:∀v n,¬D v->R v=some n->¬sj.u n
 u:∀n,sj.u n->s.u n\/(cnt<n/\n<=cj)
 c1:cnt+(vars [] m).length<=cj
 c2:cj+1000*cV (L.drop j)<=cnt+1000*(1+cV L)
 p:∀o,gM c.mks tk m L j g (gQ R D) sj o->p s o
structure MdT(c:WC)gv cnt(s:jd)w(R:jv)(p:jh (Ty×ja))(Λ:Nat->Prop)tk m L j wr cj(sj:jd)kj(g:ja)D T U f t:Prop where
 F:Fr (λi=>i=c.cb\/i=gv) w wr
 we:WE wr c cj
 wk:CP wr c gv cj sj kj
 n:∀n,¬sj.u n->Λ n
 e:bR wr (qH c gv) gv g
 i:jx Λ sj g
 r:In.nQ Λ sj (gQ R D)
 fr:∀v n,¬D v->R v=some n->¬sj.u n
 u:∀n,sj.u n->s.u n\/(cnt<n/\n<=cj)
 c1:cnt+(vars [] m).length<=cj
 c2:cj+1000*cV (L.drop<|j+1)<=cnt+1000*(1+cV L)
 ti:jl Λ sj T
 ui:jl Λ sj U
 p:∀o,jc (ju T U f t) (λ_=>gM c.mks tk m L (j+1) g<|gQ R D) sj o->p s o
section
variable {wr:World} {c:WC} {cnt cj c1:Nat} {sj:jd} {kj k1:Nat} {D:Nat->Prop} {p:jh (Ty×ja)} {tk:List Ty}
def MdS.arg{DD:Nat}(hR:MdR c cnt tk m R)(hl:L.length=tk.length)(hj:j<L.length)(lF:∀n,s.u n->us cnt n)(h:MdS c gv cnt s w R p Λ tk m L j wr cj sj kj g D)(q:aeY c gv S (1000*nn L[j]) (jf c.mks L[j] g) sj cj wr c1 T g1 s1 ta xa k1 w1):∃s2,MdT c gv cnt s w R p Λ tk m L j w1 c1 s2 k1 g1 (λv=>D v\/aG v (tk[j]' ae)) T (sub (jo R)<|tk[j]' ae) (jy L[j])<|j3 L[j]:=by
 have st:=q.step h.wk h.n h.i;have BE:∀v n,¬D v->R v=some n->¬s1.u n:=λv n a b z=>by
  have hb:=hR.num b;obtain r|r:=q.u n z
  .exact h.fr v n a b r
  .have:=h.c1;omega
 have hin:=DP (R:=R) (s:=s1) (t:=tk[j]' ae) (λv o=>hR.has<|hR.a j ae v o) hR.one BE;have⟨g1',g2,g3⟩:=In.AH st.k.ok st.n (h.r.run st.p.run) (tk[j]' ae) _ _ hin;have hd:cV (L.drop j)=nn L[j]+cV (L.drop<|j+1):=by rw[xd hj];rfl
 have c2:=h.c2;have qc1:=q.c1;have qc2:=q.c2;have hc1:=h.c1;have anh:∀v n,R v=some n->cnt<n/\n<=c1:=λv n r=>by have:=hR.num r;omega
 refine⟨⟨s1.k,comes R D (tk[j]' ae) s1.u⟩,h.F.trans q.F,q.we,⟨st.k.k,st.k.n,λn z=>?_,g1'.ok,st.k.wh⟩,g1'.new,q.e,st.i.run g1'.run,g3,λv n a b z=>?_,λn z=>?_,ae,ae,st.t.run g1'.run,g2,λo ho=>h.p o<|uj hl hj<|zn ⟨(T,g1),s1,q.m,zn ⟨_,_,hin,ho⟩⟩⟩
 .obtain z|⟨v,_,_,z⟩:=z
  .exact st.k.u n z
  .have:=anh v n z;rw[us];omega
 .obtain z|⟨v',z1,z2,z3⟩:=z
  .grind
  .exact a (zn<|hR.one v' v n z3 b▸z2)
 .obtain z|⟨v,_,_,z⟩:=z
  .obtain r|r:=q.u n z
   .exact(h.u n r).imp id λr=>ae
   .omega
  .grind
def MdT.next(h:MdT c gv cnt s w R p Λ tk m L j wr cj sj kj g D T U f t)(hb:Bq wr w1){s'}(he:ju T U f t sj (.ok ((),s')))(hk:qg Λ sj s')(hw:CP w1 c gv cj s' b)(hu:s'.u=sj.u):MdS c gv cnt s w R p Λ tk m L (j+1) w1 cj s' b g D:=
 ⟨h.F.trans<|Fr.of hb,h.we.af hb,hw,hk.new,h.e.af hb,h.i.run hk.run,h.r.run hk.run,λv n a b z=>h.fr v n a b<|hu▸z,λn z=>h.u n<|hu▸z,h.c1,h.c2,λo ho=>h.p o<|zn ⟨(),s',he,ho⟩⟩
def MdT.no(h:MdT c gv cnt s w R p Λ tk m L j wr cj sj kj g D T U f t)(hb:Bq wr w1)(hD:1000*(1+cV L)<=DD)(he:ju T U f t sj (.error z))(hf:vM w1 (fh c) z vl vr):dU c gv S DD p s cnt w (CO z.f vl vr) w1:=
 ⟨h.F.trans<|Fr.of hb,cj,.error z,by have:=h.c1;omega,by have:=h.c2;omega,h.we.af hb,h.p _<|zt ⟨z,he,rfl⟩,vl,vr,rfl,hf⟩
def MdS.no(hl:L.length=tk.length)(hj:j<L.length)(h:MdS c gv cnt s w R p Λ tk m L j wr cj sj kj g D)(hD:1000*(1+cV L)<=DD)(q:aeZ c gv (1000*nn L[j]) (jf c.mks L[j] g) sj cj wr c1 z vl vr w1):dU c gv S DD p s cnt w (CO z.f vl vr) w1:=
 ⟨h.F.trans q.F,c1,.error z,by have:=h.c1;have:=q.c1;omega,by
  have hd:cV (L.drop j)=nn L[j]+cV (L.drop<|j+1):=by rw[xd hj];rfl
  have:=h.c2;have:=q.c2;omega,q.we,h.p _<|uj hl hj<|zt ⟨z,q.m,rfl⟩,vl,vr,rfl,q.f⟩
def MdS.done(hR:MdR c cnt tk m R)(hl:L.length=tk.length)(h:MdS c gv cnt s w R p Λ tk m L L.length wr cj sj kj g D)(hb:Bq wr w1)(hD:1000*(1+cV L)<=DD)(ht:TW w1 (qH c gv) S (sub (jo R) m) (.iface ta xa)):dU c gv S DD p s cnt w (.returned<|.tuple #[.iface ta xa,Mv kj]) w1:=by
 have hin:=DP (R:=R) (s:=sj) (t:=m) (λv o=>hR.has o) hR.one h.fr;refine⟨h.F.trans<|Fr.of hb,cj,.ok ((sub (jo R) m,g),⟨sj.k,comes R D m sj.u⟩),by have:=h.c1;omega,by have:=h.c2;omega,h.we.af hb,h.p _<|Jj hl<|zn ⟨_,_,hin,rfl⟩,λn z=>?_,h.wk.wh,ta,xa,kj,rfl,h.wk.n,h.wk.k.af hb,ht,h.e.af hb⟩;obtain z|⟨v,_,_,z⟩:=z
 .exact h.u n z
 .have:=hR.num z;exact zn ⟨this.1,by have:=h.c1;omega⟩
def fK.bare{R:jv}(h:fK w P b (λv=>(R v).map vj)):fK w Q b (λv=>(R v).map vj):=by
 obtain⟨L,h1,h2,h3,h4⟩:=h;refine⟨L,h1,h2,λn u hu=>?_,h4⟩;have⟨t,e,ht⟩:=h3 n u hu;refine⟨t,e,?_⟩
 cases hr:R n with
 |none=>simp[hr]at e|some k=>
  simp only[hr,Option.map_some,Option.some.injEq]at e;subst e
  cases ht
  exact .var k
end
section
variable {c:WC} {cnt:Nat}
def Zj w C1 C2 v wc:=∃p,v=Pv p/\w.heap.size<p/\Bx wc w.heap.size C1/\Bx wc p C2/\Bq w wc
theorem Zj.a w C1 C2 t1 t2:Zj w C1 C2 (Pv<|w.heap.size+1) ((w.alloc<|.cells C1 t1).alloc<|.cells C2 t2).drew:=by
 have⟨p,q,h1,h2,h3,h4,h5,h6,h7⟩:=pX.a w C1 C2 t1 t2;injection h1 with h1;injection h1 with h1;injection h1 with h1;injection h2 with h2;injection h2 with h2;injection h2 with h2;subst h1 h2;exact⟨_,rfl,Nat.lt_succ_self _,h5,h6,h7⟩
def afW{ab}(hs:fK w (qH c gv) ab (λv=>(R v).map vj))(nI:qH c gv ab){t}(ht:dA w P t v)(hz:size t<=1000)(XW:Whole t)(hcb:c.cb<w.heap.size)(hgv:gv<w.heap.size):
 Cq 270 #[Mv ab,v] w (λe w'=>∃tr xr,e=.returned (.iface tr xr)/\TW w' (qH c gv) 1100 (sub (jo R) t) (.iface tr xr)/\Bq w w'):=by
 have ev:ED (λv=>(R v).map vj)=jo R:=by
  funext v;show((R v).map vj).getD (.var v)=_;rw[jo]
  cases R v<;>rfl
 have Zk:=Rj hs nI ht ae (by rw[ev,lI];omega);rw[ev]at Zk;refine Zk.mono ?_;rintro e w'⟨u,rfl,hu',hk⟩;obtain⟨tr,xr,rfl⟩:=hu'.iface;have hw':=tZ R _ XW;refine⟨tr,xr,rfl,⟨⟨_,hu'.wide λi p=>by obtain p|p:=p;exact p;exact⟨ae,ae⟩,(dl.refl _).cut hw',?_⟩,hw'⟩,hk⟩;have hlq:(vars []<|sub (jo R) t).length<=1000:=by
  rw[dH];have h2:=eR (occs<|sub (jo R) t) [];have h3:=eS<|sub (jo R) t;rw[lI]at h3;simp only[eF]at h2;omega
 have:=jJ hw' hlq ae;omega
def aj_ c gv cnt(s:jd)w(R:jv)(p:jh (Ty×ja))Λ tk m L C1 C2 pb ab gk v1 v31 wr:=
 ∃j cj sj kj g D,Hid (gk=L.length-j)/\j<=L.length/\v1=Mv kj/\v31=Nv j/\MdS c gv cnt s w R p Λ tk m L j wr cj sj kj g D/\Bx wr w.heap.size C1/\Bx wr pb C2/\fK wr (qH c gv) ab (λv=>(R v).map vj)
def yY tk m i(h:i<tk.length):size tk[i]<=size (j7 tk m)/\(Whole (j7 tk m)->Whole tk[i])/\∀v,aG v tk[i]->aG v (j7 tk m):=by
 induction tk generalizing i with
 |nil=>simp at h|cons t tk ih=>
  have e:j7 (t::tk) m=ql t (j7 tk m):=rfl;rw[e]
  cases i with
  |zero=>
   refine⟨by simp only[xj,size,ak];omega,λq=>q.2.1,λv q=>?_⟩;simp only[aG,ck,or_false];exact zt q
  |succ i=>
   have⟨h1,h2,h3⟩:=ih i xB;refine⟨by simp only[xk,size,ak];omega,λq=>h2 q.2.2.1,λv q=>?_⟩;simp only[aG,ck,or_false];exact zn<|h3 v q
def Zl tk m:Whole (j7 tk m)->Whole m:=by
 induction tk with
 |nil=>exact id|cons t tk ih=>exact λq=>ih q.2.2.1
def adT{a y}{vs:Nat->Value}(H:∀i(h:i<L.length),PaC L[i])(h:PaA (.mk 2 st n L f t a) c w cnt s kb Λ g gv Q (.iface 185<|.agg #[Nv f,Nv t,Nv a,Nv y,.string st,.slice sa L.length sc]))(aE:L=[]\/∃g,sa=some ⟨g,0,none⟩/\Q g/\g<w.heap.size/\∀i,i<L.length->w.cell? ⟨g,i,none⟩=some (vs i))(hr:∀i(h:i<L.length),PP w Q L[i]<|vs i):
 Cq 320 #[Pv c.eb,Mv kb,Mv gv,.agg #[Nv f,Nv t,Nv a,Nv y,.string st,.slice sa L.length sc]] w (dU c gv (1100*nn (.mk 2 st n L f t a)) (1000*nn (.mk 2 st n L f t a)) (jf c.mks (.mk 2 st n L f t a) g) s cnt w):=by
 have en:nn (.mk 2 st n L f t a)=1+cV L:=by simp[nn]
 obtain⟨tk,m,hx,hl,hsc⟩:∃tk m,c.mks st=some (tk,m)/\L.length=tk.length/\∀i(h:i<L.length),oX c.mks c.nl L[i]:=by
  cases h.sc with
  |up _ _ _ _ _ _ tk m hx hl hr=>exact⟨tk,m,hx,hl,hr⟩|leaf _ _ _ _ _ _ hk=>omega
 obtain⟨p,hp⟩:∃p,p=jf c.mks (.mk 2 st n L f t a) g:=⟨_,rfl⟩;have lG:=hp;rw[yZ hx]at lG;rw[<-hp,en];have fta:=h.ft.a;have ftb:=h.ft.b;rw[en]at fta ftb;have kX:=h.mf.sz st tk m hx;have XW:=h.mf.wh st tk m hx;have hvs:=h.mf.vs st tk m hx;have has:=IY tk m;have IZ:(vars [] m).length<=size m:=by
  exact Qt
 obtain⟨R,hR⟩:∃R,R=y8 cnt (vars [] m):=⟨_,rfl⟩;have MR:MdR c cnt tk m R:=⟨hR,λi hi v o=>hvs v<|(yY tk m i hi).2.2 v o⟩;have hta:∀i(h:i<tk.length),size tk[i]<=1000/\Whole tk[i]:=λi hi=>⟨Nat.le_trans (yY tk m i hi).1 kX,(yY tk m i hi).2.1 XW⟩;have hwm:=Zl tk m XW;have k0:Bq w (w.alloc<|Cv #[Nv f,Nv t,Nv a,Nv y,Sv st,Lv sa L.length sc] 185):=bw _;have⟨v,hv,vC⟩:=h.we.ms.look hx;obtain⟨ma,mc,ta,xa,rfl,hmr,g_⟩:=hv;have zc:=h.we.fX;have lg:=h.e.lt;have lgl:=h.l;have⟨l1,l2,l3,l4,l5⟩:=h.we.l;have⟨d1,d2,d3⟩:=h.we.d;have ahi:=vC (w.alloc<|Cv #[Nv f,Nv t,Nv a,Nv y,Sv st,Lv sa L.length sc] 185).drew<|k0.drew.block c.mb ae;have k00:Bq w ((w.alloc<|Cv #[Nv f,Nv t,Nv a,Nv y,Sv st,Lv sa L.length sc] 185).alloc<|Cv #[Lv none 0 0,Zv] 421):=k0.alloc k0.size _;have Vq:=vC _<|k00.drew.block c.mb ae;have⟨e1,e2,e3⟩:=h.we.bx;have an5:size m<=1000:=ae;have hln:L.length<=1000:=ae;clear k00;have HA:=ai h;have HL:=ai hl;have HM:=ai<|And.intro hmr g_;have HT:=ai hta;have HS:=ai hsc;have HP':=ai lG;have MR':=ai MR;clear h vC hmr g_ hta hsc k0 hp lG hvs XW kX MR hl;go_enter func320,ntmps320;go_wp2_with fail;go_cut[10]from 16 (λv1 wc=>Zj w #[Nv f,Nv t,Nv a,Nv y,Sv st,Lv sa L.length sc] #[Lv ma tk.length mc,Fv ta xa] v1 wc)
 case first=>
  go_region
  all_goals(
   go_wp2_with fail
   go_meet
   case rel=>exact Zj.a w _ _ _ _)
 case rest=>
  obtain⟨pb,rfl,zp,X1,X2,kc⟩:=hcut;clear ahi Vq e1 e2 e3;have h:=uh HA;have HRN:=Vr (h.we.af kc) ((HM.2.w.af kc)) ae ae;obtain⟨x1,x2,x3⟩:=X2;have X1':=ai X1;have X2':=show Bx wc pb #[Lv ma tk.length mc,Fv ta xa]from⟨x1,x2,x3⟩;have KC:=ai kc;clear X1 kc h;go_wp2_with fail;refine HRN.mono ?_;rintro e w2⟨ab,rfl,nI,Qp,BU,F2⟩;clear HRN x1 x2 x3;have h:=uh HA;have zkc:=KC.size;have F02:Fr (λi=>i=c.cb\/i=gv) w w2:=((Fr.of KC).trans F2).gL λ_ q=>zt q;have FB:=(Fr.of (S:=λi=>i=c.cb) KC).trans F2;have X1:=X1'.fr F2 ae;have X2:=X2'.fr F2 ae;rw[<-hR]at BU;have SB:fK w2 (qH c gv) ab (λv=>(R v).map vj):=BU.bare;have M0':MdS c gv cnt s w R p Λ tk m L 0 w2 (cnt+(vars [] m).length) s kb g (λ_=>False):=by
   have k2:=h.wk.fr F02;refine⟨F02,Qp,⟨k2.k,k2.n,λn q=>by have:=k2.u n q;unfold us at*;omega,k2.ok,k2.wh⟩,h.hn,h.e.move F02.size (FB.block _ h.e.lt ae) (λb p z=>FB.block b z p.1)<|λ_ p _=>p,h.i,by rw[y9];exact In.nQ.zero Λ s,λv n _ q z=>?_,λn q=>zt q,br _,by rw[xt];omega,λo ho=>by rw[y9]at ho;rw[uh HP'];exact ho⟩;have:=MR'.num q;have:=h.wk.u n z;rw[us]at this;omega
  have SB':=ai SB;have T1:=ai X1;have T2:=ai X2;obtain⟨y1,y2,y3⟩:=X1;clear h Qp BU F2 F02 FB X2 SB X1' X2' KC
  go_wp2
  go_loopg[1,31] L.length (λgk v1 v31 wr=>aj_ c gv cnt s w R p Λ tk m L #[Nv f,Nv t,Nv a,Nv y,Sv st,Lv sa L.length sc] #[Lv ma tk.length mc,Fv ta xa] pb ab gk v1 v31 wr)
  case atStart=>exact⟨0,_,_,_,_,_,ai ah,zy _,rfl,rfl,M0',T1,T2,SB'⟩
  case round=>
   clear M0' SB' T1 T2 y1 y2 y3;obtain⟨j,cj,sj,kj,gj,D,bE,hj,rfl,rfl,MS,X1,X2,SB2⟩:=hrel;have h:=uh HA;have zcr:=MS.we.fX;have lgr:=MS.e.lt;have zab:=SB2.lt;have nab:qH c gv ab:=⟨ae,ae⟩;by_cases aI:j<L.length
   .have aZ:(j:Int)<(L.length:Int):=ae;have Cz:(0:Int)<=(j:Int):=ae;have hjt:j<tk.length:=by have:=uh HL;omega
    have ahj:(j:Int)<(tk.length:Int):=ae;obtain⟨gg,rfl,hQ,hz,bX⟩:=aE.resolve_left<|λe=>qBs;have y_:=hr j aI;have cg:=(vd (a:=⟨gg,j,none⟩)<|MS.F.block gg hz λq=>q.elim (h.hq gg hQ).1 (h.hq gg hQ).2).trans<|bX j aI;have⟨tx,ax,evs⟩:=y_.iface;rw[evs]at cg y_;have plx:=y_.place;dsimp only[PlF]at plx;have hdn:cV (L.drop j)=nn L[j]+cV (L.drop<|j+1):=by rw[xd aI];rfl
    have mc2:=MS.c2;have mc1:=MS.c1;have hnj:nn L[j]<=cV L:=by
     have:cV (L.take j)+cV (L.drop j)=cV L:=by rw[<-Rl,xw]
     omega
    have H1:=H j aI c wr cj sj kj Λ gj gv Q _ ⟨MS.we,MS.wk,MS.n,MS.e,MS.i,h.l,y_.move MS.F.size (λb p z=>MS.F.block b z λq=>q.elim (h.hq b p).1 (h.hq b p).2)<|λ_ p _=>p,h.hq,HS j aI,⟨ae,ae,h.ft.l⟩,h.mf⟩;obtain⟨gt,vt,rfl,pgt,zgt,hct⟩:=HM.1.resolve_left (λe=>by subst e;simp at hjt);have⟨CT,TT⟩:=hct j hjt;have⟨tb,xb,evt⟩:=TT.w.iface;rw[evt]at CT TT;have B1:=ai X1;have B2:=ai X2;have HWU:=ai h.wk.u;obtain⟨y1,y2,y3⟩:=X1;clear X2 h y_ bX hct;go_wp2_with fail;refine H1.mono ?_;intro e w3 hp3;clear H1 y1 y2 y3 cg;obtain⟨c3,zz,vl,vr,rfl,q⟩|⟨c3,T3,g3,s3,ta3,xa3,kb3,rfl,q⟩:=hp3.split
    .have HP:=MS.no (S:=1100*(1+cV L)) (DD:=1000*(1+cV L)) HL aI (br _) q;clear hp3 q
     go_wp2
     exact⟨rfl,HP⟩
    have⟨s4,mt⟩:=MS.arg (DD:=0) MR' HL aI HWU q;have an6:=mt.c1;have an7:=mt.c2;have zmt:=mt.we.fX;have zgm:=mt.e.lt;have F3:=q.F;have F03:=mt.F;have aka:=SB2.fr F3 (λr=>r.elim nab.1 nab.2)<|λb p _ r=>r.elim p.1 p.2;have ct3:=(vd (a:=⟨gt,j,none⟩)<|F03.block gt zgt (by have:=pgt;omega)).trans CT;have tt3:=TT.w.move (Q:=λ_=>True) F03.size (λb p z=>F03.block b z (by have:=p;omega))<|λ_ _ _=>trivial;have⟨ht1,ht2⟩:=uh HT j hjt;have Zm:=afW aka nab tt3 ht1 ht2 zmt zgm;have zE:=B1.fr F3 ae;have X2:=B2.fr F3 ae;obtain⟨x1,x2,x3⟩:=X2;have Vs:=show Bx w3 pb #[Lv (some ⟨gt,0,none⟩) tk.length mc,Fv ta xa]from⟨x1,x2,x3⟩;have MT:=ai mt;have T3':=ai q.t;clear hp3 q mt F3 F03 tt3 B1 B2 SB2 MS CT TT;go_wp2_with fail;refine Zm.mono ?_;rintro e w4⟨tr,xr,rfl,U4,K4⟩;clear Zm x1 x2 x3 ct3;go_wp2_with fail;refine(my _ _).mono ?_;rintro e w5⟨rfl,k5⟩;have K5:=K4.trans<|k5.mono K4.size;have mt:=uh MT;have HEQ:=akb (mt.we.af K5) (zu zgm K5.size) (mt.wk.af K5) mt.n ae (S:=1100*nn L[j]+1100) ae ((T3'.af K5).le ae) ((U4.af k5).le ae) mt.ti mt.ui (jy L[j])<|j3 L[j];clear mt k5 U4;go_wp2_with fail;refine HEQ.mono ?_;intro e w6 hq6;clear HEQ;obtain hn|hq6:=hq6
    .obtain⟨fl,vl,vr,rfl,k6,z,rfl,he,hf⟩:=hn;have HP:=MT.no (S:=1100*(1+cV L)) (DD:=1000*(1+cV L)) (K5.trans<|k6.mono K5.size) (br _) he hf;clear k6 he hf
     go_wp2
     exact⟨rfl,HP⟩
    .obtain⟨b6,rfl,k6,s6,he6,kp6,wk6,hu6⟩:=hq6;have K6:=K5.trans<|k6.mono K5.size;have MS6:=MT.next K6 he6 kp6 wk6 hu6;clear k6 he6 kp6 wk6 hu6
     go_wp2
     go_roundg(L.length-(j+1))
     case measure=>rw[uh bE];omega
     case rel=>exact⟨j+1,_,_,_,_,_,ai rfl,zx aI,rfl,d_,MS6,zE.below K6,Vs.below K6,aka.af K6⟩
   .have aZ:¬(j:Int)<(L.length:Int):=ae;have ej:j=L.length:=ae;subst ej;have tmm:=HM.2.w.move (Q:=λ_=>True) MS.F.size (λb p z=>MS.F.block b z (by have:=p;omega))<|λ_ _ _=>trivial;have Zm:=afW SB2 nab tmm ae hwm zcr lgr;obtain⟨x1,x2,x3⟩:=X2;clear X1 h tmm;go_wp2_with fail;refine Zm.mono ?_;rintro e w4⟨tr,xr,rfl,hu4,k4⟩;have HD:=MS.done (DD:=1000*(1+cV L)) MR' HL k4 (br _) (hu4.le<|show 1100<=1100*(1+cV L) by omega);clear hu4 k4 Zm
    go_wp2
    go_ret2;exact HD
end
section
variable {c:WC} {cnt:Nat} {p:jh (Ty×ja)}
def dU.below(h:dU c gv S D p s cnt w0 e w')(hb:Bq w w0):dU c gv S D p s cnt w e w':=⟨(Fr.of hb).trans h.1,h.2⟩
end
def akc st n f t a(H:∀i(h:i<L.length),PaC L[i]):PaC (.mk 2 st n L f t a):=by
 intro c w cnt s kb Λ g gv Q v h;obtain⟨y,sa,sc,vs,rfl,aE,hr⟩:∃(y:Nat)(sa:Option Addr)(sc:Nat)(vs:Nat->Value),v=Fv 185 (Av #[Nv f,Nv t,Nv a,Nv y,Sv st,Lv sa L.length sc])/\(L=[]\/∃g,sa=some ⟨g,0,none⟩/\Q g/\g<w.heap.size/\∀i,i<L.length->w.cell? ⟨g,i,none⟩=some (vs i))/\∀i(h:i<L.length),PP w Q L[i]<|vs i:=by
  cases h.pp with
  |up _ _ _ _ _ _ y sa sc vs hu hy aE hr=>exact⟨_,sa,sc,vs,rfl,aE,hr⟩
 have k0:Bq w (w.alloc<|Cv #[Nv f,Nv t,Nv a,Nv y,Sv st,Lv sa L.length sc] 185):=bw _
 have H1:=adT H (h.part k0 h.pp h.sc<|br _) (aE.imp id λq=>by
  obtain⟨g,q1,q2,q3,q4⟩:=q
  exact⟨g,q1,q2,zu q3 k0.size,λi hi=>(vd (a:=⟨g,i,none⟩)<|k0.block g q3).trans<|q4 i hi⟩)<|λi hi=>(hr i hi).af k0
 have K0:=ai k0;have q1:=Zn;have q2:=CM;have q3:=Rm;have q4:=Ro;go_enter func313,ntmps313;go_wp2_with fail;refine H1.mono ?_;intro e w1 hp;have lG:=hp.below K0;obtain⟨aw,zz,vl,vr,rfl,q⟩|⟨aw,T1,g1,s1,ND,NE,nj,rfl,q⟩:=hp.split
 .have HP:=ai lG
  go_wp2
  exact⟨rfl,HP⟩
 .have HP:=ai lG
  go_wp2
  go_ret2;exact HP
def NK:∀(L:List Nd)(i:Nat)(h:i<L.length),nn L[i]<=cV L
 |x::l,0,_=>by simp only[xj,cV];omega|x::l,i+1,h=>by simp only[xk,cV];have:=NK l i xB;omega
def adU:∀(k:Nat)(nd:Nd),nn nd<=k->PaC nd:=by
 intro k
 induction k with
 |zero=>intro nd h;cases nd;simp only[nn]at h;omega|succ k ih=>
  intro nd hk c w cnt s kb Λ g gv Q v h;have hp:=h.pp
  cases hp with
  |any st n f t a=>exact ahk st n f t a c w cnt s kb Λ g gv Q _ h|low=>cases h.sc with|leaf _ _ _ _ _ _ hk=>omega
  |num st n f t a=>exact Rp (zt ⟨rfl,rfl⟩) st _ f t a c w cnt s kb Λ g gv Q _ h|word st n f t a b=>exact Rp (zn<|zt ⟨rfl,rfl⟩) st n f t a c w cnt s kb Λ g gv Q _ h|unit=>cases h.sc with|leaf _ _ _ _ _ _ hk=>omega
  |pr st n x y f t a vx vy hx hy=>exact akd st n f t a (ih x qAa) (ih y qAa) c w cnt s kb Λ g gv Q _ h|up st n L f t a y sa sc vs hu hy aE hr=>exact akc st n f t a (λi hi=>ih _ (by have:=NK L i hi;simp only[nn]at hk;omega)) c w cnt s kb Λ g gv Q _ h
def ahl nd:PaC nd:=adU _ nd<|br _
def uV(l:List BA)(g g':ja):=(∀y,g' y≠none↔g y≠none\/y∈l)/\∀y d,g' y=some d->g y=some d\/d.any=[]
def uV.refl(g:ja):uV [] g g:=⟨λy=>ah,λy d h=>zt h⟩
def uV.and{l l'}{g2}(h:uV l g g1)(k:uV l' g1 g2):uV (l++l') g g2:=⟨λy=>by rw[k.1,h.1,xo,or_assoc],λy d q=>(k.2 y d q).elim (λq=>h.2 y d q) zn⟩
def pA{m:jh α}:qj m s λ_ _=>True:=λ_ _ _=>trivial
def KY(mk:ji):∀(tk:List Ty)(L:List Nd),L.length=tk.length->(∀i(h:i<L.length),∀g s,qj (jf mk L[i] g) s λq _=>uV (kB L[i]) g q.2)->∀g ρ s,qj (qt tk L (qh mk L) g ρ) s λq _=>uV (fS L) g q.1
 |[],[],_,_,g,ρ,s=>.ret (uV.refl g)|[],_::_,h,_,_,_,_=>xA|_::_,[],h,_,_,_,_=>xA|u::tk,x::L,hl,H,g,ρ,s=>by
  refine(H 0 ah g s).and λq s1 h1=>pA.and λi s2 _=>pA.and λ_ s3 _=>?_;exact(KY mk tk L (by simpa using hl) (λi hi=>H (i+1) bi) q.2 i.2 s3).imp λa s' h=>h1.and h
def Gw(h:oX mk nl nd):∀g s,qj (jf mk nd g) s λq _=>uV (kB nd) g q.2:=by
 induction h with
 |leaf k st n f t a hk=>
  intro g s;have e:kB (.mk k st n [] f t a)=[]:=by
   have:¬k=1:=ae;simp[kB,fS,this]
  rw[e];obtain rfl|rfl|rfl:=hk
  .simp only[jf,j5,if_true];exact pA.and λv s' _=>.ret<|uV.refl g
  .simp[jf,j5];exact .ret<|uV.refl g
  .simp[jf,j5];exact .ret<|uV.refl g
 |pr st n x y f t a hx hy tL Bu=>
  intro g s;rw[abR];have e:kB (.mk 6 st n [x,y] f t a)=kB x++kB y:=by simp[kB,fS]
  rw[e];exact(tL g s).and λq s1 h1=>(Bu q.2 s1).and λr s2 h2=>.ret<|h1.and h2
 |up st n L f t a tk m hm hl hr ih=>
  intro g s;rw[yZ hm];have e:kB (.mk 2 st n L f t a)=fS L:=by simp[kB]
  rw[e];unfold gM;rw[xt,xt];exact(KY mk tk L hl ih g qd s).and λq s1 h1=>pA.and λi s2 _=>.ret h1
def KZ{nl:List BA}:∀(L:List Nd),(∀i(h:i<L.length),∀y,y∈kB L[i]->y∈nl)->∀y,y∈fS L->y∈nl
 |[],_,y,h=>by simp[fS]at h|x::l,H,y,h=>by
  simp only[fS,xo]at h;obtain h|h:=h
  .exact H 0 ah y h
  .exact KZ l (λi hi=>H (i+1) bi) y h
def ae3(h:oX mk nl nd):∀y,y∈kB nd->y∈nl:=by
 induction h with
 |leaf k st n f t a hk=>intro y q;have:¬k=1:=ae
                        simp[kB,fS,this]at q
 |pr st n x y f t a hx hy tL Bu=>
  intro z q;simp[kB,fS]at q;exact q.elim (tL z)<|Bu z
 |up st n L f t a tk m hm hl hr ih=>
  intro y q;have e:kB (.mk 2 st n L f t a)=fS L:=by simp[kB]
  rw[e]at q;exact KZ L ih y q
noncomputable def lJ (mk:ji) (Γ:ja) (T r:Ty) (A:List (Nd×Nd)) (j:Nat):jh Ty:=jc (In.m_ mk Γ T r (bh<|A.drop j)<|qp mk<|bh<|A.drop j) λ_=>jt r
def NO(mk:ji)s n x A f t a(Γ:ja):jm mk (.mk 13 s n (x::bh A) f t a) Γ=jc (jm mk x Γ) λa=>jc j9 λv=>lJ mk Γ a (.var v) A 0:=by
 simp[jm,qn,qp,qu,lJ]
noncomputable def abU (mk:ji) (Γ:ja) (T r:Ty) (A:List (Nd×Nd)) (j:Nat) (h:j<A.length):jh Ty:=jc (jf mk A[j].1 λ_=>none) λq=>jc (ju T q.1 (jy A[j].1)<|j3 A[j].1) λ_=>jc (jm mk A[j].2<|jq q.2 Γ) λu=>jc (ju r u (jy A[j].2)<|j3 A[j].2) λ_=>lJ mk Γ T r A<|j+1
def CR{r}hj{o}(h:abU mk Γ T r A j hj s o):lJ mk Γ T r A j s o:=by
 unfold abU lJ at*;rw[xd hj];show jc (jc (jf mk A[j].1 λ_=>none) λq=>jc (ju T q.1 (jy A[j].1)<|j3 A[j].1) λ_=>jc (jm mk A[j].2<|jq q.2 Γ) λu=>jc (ju r u (jy A[j].2)<|j3 A[j].2) λ_=>In.m_ mk Γ T r (bh<|A.drop<|j+1)<|qp mk<|bh<|A.drop<|j+1) (λ_=>jt r) s o;refine gZ ?_;obtain⟨x,q1,rfl⟩|⟨a,s1,q1,h⟩:=h
 .exact zt ⟨x,q1,rfl⟩
 refine zn ⟨a,s1,q1,gZ ?_⟩;obtain⟨x,q1,rfl⟩|⟨b,s2,q2,h⟩:=h
 .exact zt ⟨x,q1,rfl⟩
 refine zn ⟨b,s2,q2,gZ ?_⟩;exact Qy
def I1(mk:ji)(Γ:ja)T r A(s:jd)(o:Except jz (Ty×jd))(h:jt r s o):lJ mk Γ T r A A.length s o:=by
 unfold lJ;rw[xn];exact zn ⟨(),s,rfl,h⟩
section
variable {c:WC} {cnt:Nat} {p p1 p2:jh Ty}
def Cl.imp(h:Cl c S D p s cnt w D1 p1 s1 aw w1)(k:∀o,p2 s1 o->p1 s1 o):Cl c S D p s cnt w D1 p2 s1 aw w1:=λe w' q=>h e w' (by obtain⟨a1,c',o,a2,a3,a4,a5,a6⟩:=q;exact⟨a1,c',o,a2,a3,a4,k o a5,a6⟩)
def Zo(hb:Bq w w0)(hg:w.heap.size<=gv)(hf:Fr (λi=>i=c.cb\/i=gv) w0 w'):Fr (λi=>i=c.cb) w w':=⟨hf.os.trans hb.os,hf.tape.trans hb.tape,hf.output.trans hb.output,zv hb.size hf.size,λk hk hn=>(hf.block k (zu hk hb.size)<|λq=>q.elim hn ae).trans<|hb.block k hk⟩
theorem WG.over{mk:ji}{nd:Nd}{T:Ty}{Uu:Nat}(h:WG w c s Λ Γ gb)(hs:oX mk c.nl nd){s0:jd}(hm:jf mk nd (λ_=>none) s0 (.ok ((T,g1),s1)))(hi:jx Λ s g1)(he:bR w' (fh c) Uu (jq g1 Γ))(hn:Uu≠c.cb):WG w' c s Λ (jq g1 Γ) Uu where
 e:=he
 n:=hn
 i:=hi.over h.i
 nd y d q:=by
  have⟨_,h2⟩:=Gw hs _ _ _ _ hm;unfold jq at q;split at q
  .rename_i c' hc;injection q with q;subst q;obtain r|r:=h2 y c' hc
   .cases r
   .grind
  .exact h.nd y d q
 dm y q:=by
  have⟨h1,_⟩:=Gw hs _ _ _ _ hm;unfold jq at q;split at q
  .rename_i c' hc;rcases(h1 y).1 (by show g1 y≠none;rw[hc];simp)with r|r
   .exact absurd rfl r
   .exact ae3 hs y r
  .exact h.dm y q
def I0(hs:oX mk nl nd)(hm:jf mk nd (λ_=>none) s0 (.ok ((T,g1),s1)))(hd:∀x,dom x->Γ x≠none):∀x,dom x\/x∈kB nd->jq g1 Γ x≠none:=λx q=>by
 have⟨h1,_⟩:=Gw hs _ _ _ _ hm;unfold jq;split
 .simp
 .rename_i hc;obtain q|q:=q
  .exact hd x q
  .grind
end
structure jK n0 M c w0 cnt0(s0:jd)Λ(Γ:ja)gb(Q:Nat->Prop)(dom:BA->Prop)D p(P:World->jd->Prop)(s:jd)cnt kb w:Prop where
 wg:WG w0 c s0 Λ Γ gb
 hq:∀b,Q b->b≠c.cb
 hd:∀x,dom x->Γ x≠none
 ft:Fit c cnt0 n0
 mf:MkFine c.mks
 f:Fr (λi=>i=c.cb) w0 w
 we:WE w c cnt
 st:KS w0 w c cnt s0 s Λ kb
 cl:Cl c (1100*n0) (1000*n0) M s0 cnt0 w0 D p s cnt w
 lv:∀w' s',Fr (λi=>i=c.cb) w w'->qg Λ s s'->P w' s'
 cn:cnt+D<=cnt0+1000*n0
section
variable {M:jh Ty} {c:WC} {cnt kb0:Nat} {P:World->jd->Prop} {post:Ending->World->Prop}
def jK.start(h:Vt nd c w0 cnt0 s0 kb0 Λ Γ gb Q dom v)(e:jm c.mks nd Γ=q):jK (nn nd) (jm c.mks nd Γ) c w0 cnt0 s0 Λ Γ gb Q dom (1000*nn nd) q (λ_ _=>True) s0 cnt0 kb0 w0:=⟨h.wg,h.hq,h.hd,h.ft,h.mf,Fr.refl _ _,h.we,⟨h.wk,h.hn,In.Kp.refl h.wk.ok h.hn⟩,λ_ _ h=>e▸h,λ_ _ _ _=>trivial,br _⟩
def jK.p(H:jK n0 M c w0 cnt0 s0 Λ Γ gb Q dom D q P s cnt kb w):P w s:=H.lv _ _ (Fr.refl _ _)<|In.Kp.refl H.st.k.ok H.st.n
def jK.af(H:jK n0 M c w0 cnt0 s0 Λ Γ gb Q dom D q P s cnt kb w)(k:Bq w w'):jK n0 M c w0 cnt0 s0 Λ Γ gb Q dom D q P s cnt kb w':=
 ⟨H.wg,H.hq,H.hd,H.ft,H.mf,H.f.trans<|Fr.of k,H.we.af k,⟨H.st.k.af k,H.st.n,H.st.p⟩,λe w2 h=>H.cl e w2 ⟨(Fr.of k).trans h.1,h.2⟩,λw2 s2 a b=>H.lv w2 s2 ((Fr.of k).trans a) b,H.cn⟩
def jK.add(H:jK n0 M c w0 cnt0 s0 Λ Γ gb Q dom D q P s cnt kb w)(h:∀w' s',Fr (λi=>i=c.cb) w w'->qg Λ s s'->P' w' s'):jK n0 M c w0 cnt0 s0 Λ Γ gb Q dom D q (λw s=>P w s/\P' w s) s cnt kb w:=⟨H.wg,H.hq,H.hd,H.ft,H.mf,H.f,H.we,H.st,H.cl,λw s a b=>⟨H.lv w s a b,h w s a b⟩,H.cn⟩
def jK.box{t}(H:jK n0 M c w0 cnt0 s0 Λ Γ gb Q dom D q P s cnt kb w):jK n0 M c w0 cnt0 s0 Λ Γ gb Q dom D q (λw' s=>P w' s/\Bx w' w.heap.size C) s cnt kb (w.alloc<|.cells C t):=
 (H.af<|bw _).add λw' _ a _=>(v9 w C t).fr a (by have:=H.we.fX;omega)
def jK.asks(H:jK n0 M c w0 cnt0 s0 Λ Γ gb Q dom D q P s cnt kb w)(K:Bq w W)(he:bR W (fh c) b (jj Γ st d))(hz:w.heap.size<=b)(hi:In.s_ Λ s d)(ha:d.any.Nodup)(lF:st∈c.nl)(hx:PE w0 Q x vx)(sx:tQ c.mks c.nl aby x)(hd:∀y,aby y->dom y\/y=st)(hD:1000*nn x<=D)(hn:nn x<=n0):Vt x c W cnt s kb Λ (jj Γ st d) b Q aby vx:=
 ⟨H.we.af K,H.st.k.af K,H.st.n,(H.wg.fr H.f H.st.p.run).set he (by have:=H.we.fX;omega) hi ha lF,(hx.move H.f.size (λb p z=>H.f.block b z<|H.hq b p)<|λ_ p _=>p).af K,H.hq,sx,λy q=>abN H.hd y<|hd y q,H.ft.le qBw hn,H.mf⟩
def jK.exG{g:Ty->jh Ty}{Γ'}{Uu}(H:jK n0 M c w0 cnt0 s0 Λ Γ gb Q dom D (jc (jm c.mks x Γ') g) P s cnt kb w)(K:Bq w W)(Hx:ExC x)(a:Vt x c W cnt s kb Λ Γ' Uu Q aby vx)(ok:∀T ta xa s' aC NN w',jK n0 M c w0 cnt0 s0 Λ Γ gb Q dom D2 (g T) (λw s=>P w s/\TW w (fh c) (1100*nn x) T (.iface ta xa)/\jl Λ s T) s' aC NN w'->post (.returned<|.tuple #[.iface ta xa,Mv NN]) w')(hD:D2+1000*nn x<=D:=by omega)(bad:∀f l r w',bW c (1100*n0) (1000*n0) M s0 cnt0 w0 (CO f l r) w'->post (CO f l r) w':=by exact λ_ _ _ _ h=>⟨rfl,h⟩):
 Cq 279 #[Pv c.eb,Mv kb,Mv Uu,vx] W post:=by
 refine(Hx c W cnt s kb Λ Γ' Uu Q aby vx a).mono λe w' hp=>?_;obtain⟨aw,z,vl,vr,rfl,q⟩|⟨aw,T,s1,ta,xa,nj,rfl,q⟩:=hp.split
 .exact bad _ _ _ _ (H.cl _ _<|q.post (Fr.of K) ae)
 .have⟨st,ty⟩:=q.step a.wk a.hn a.wg;have:=q.c1;have:=q.c2;have:=H.cn;have F:=(Fr.of (S:=λi=>i=c.cb) K).trans q.F;exact ok T ta xa s1 aw nj w' ⟨H.wg,H.hq,H.hd,H.ft,H.mf,H.f.trans F,q.we,H.st.and ⟨st.k,st.n,st.p⟩,H.cl.and q.m F q.c1 q.u ae,λw2 s2 a b=>⟨H.lv w2 s2 (F.trans a)<|st.p.trans b,q.t.fr a<|λ_ p _=>p,ty.run b.run⟩,ae⟩
def jK.ex{g:Ty->jh Ty}(H:jK n0 M c w0 cnt0 s0 Λ Γ gb Q dom D (jc (jm c.mks x Γ) g) P s cnt kb w)(Hx:ExC x)(hx:PE w0 Q x vx)(sx:tQ c.mks c.nl dom x)(ok:∀T ta xa s' aC NN w',jK n0 M c w0 cnt0 s0 Λ Γ gb Q dom D2 (g T) (λw s=>P w s/\TW w (fh c) (1100*nn x) T (.iface ta xa)/\jl Λ s T) s' aC NN w'->post (.returned<|.tuple #[.iface ta xa,Mv NN]) w')(hD:D2+1000*nn x<=D:=by omega)(hn:nn x<=n0:=by rw[en];omega)(bad:∀f l r w',bW c (1100*n0) (1000*n0) M s0 cnt0 w0 (CO f l r) w'->post (CO f l r) w':=by exact λ_ _ _ _ h=>⟨rfl,h⟩):
 Cq 279 #[Pv c.eb,Mv kb,Mv gb,vx] w post:=
 H.exG (vf _ _) Hx ⟨H.we,H.st.k,H.st.n,H.wg.fr H.f H.st.p.run,hx.move H.f.size (λb p z=>H.f.block b z<|H.hq b p)<|λ_ p _=>p,H.hq,sx,H.hd,H.ft.le qBw hn,H.mf⟩ ok hD bad
section
variable {Y:Ty} {g:Unit->jh Ty} {v1 v2:Value}
def jK.eqc(H:jK n0 M c w0 cnt0 s0 Λ Γ gb Q dom D (jc (ju X Y f t) g) P s cnt kb w)(K:Bq w W)(hx:TW W (fh c) S X v1)(hy:TW W (fh c) S Y v2)(tx:jl Λ s X)(ty:jl Λ s Y)(hS:S<=900000:=by omega):
 Cq 280 #[Mv kb,v1,v2,.agg #[Nv f,Nv t]] W λe w'=>(∃fl l r,e=CO fl l r/\bW c (1100*n0) (1000*n0) M s0 cnt0 w0 e w')\/PA c cnt s Λ X Y f t w e w':=by
 have:=H.cn;have:=H.ft.a;refine(ale (H.we.af K) (H.st.k.af K) H.st.n ae hS hx hy tx ty f t).mono λe w' q=>?_;obtain q|q:=q.or
 .obtain⟨fl,l,r,h1,h2⟩:=q.post (H.we.af K)<|Fr.of K;exact .inl ⟨fl,l,r,h1,H.cl _ _ h2⟩
 .exact .inr (q.up K)
def jK.eqd(H:jK n0 M c w0 cnt0 s0 Λ Γ gb Q dom D (jc (ju X Y f t) g) P s cnt kb w)(q:PA c cnt s Λ X Y f t w (.returned u) w'):∃NN s',u=Mv NN/\jK n0 M c w0 cnt0 s0 Λ Γ gb Q dom D (g ()) P s' cnt NN w':=by
 obtain⟨b,e,k,s',he,kp,wk,hu⟩:=q;injection e with e;exact⟨b,s',e,H.wg,H.hq,H.hd,H.ft,H.mf,H.f.trans<|Fr.of k,H.we.af k,⟨wk,kp.new,H.st.p.trans kp⟩,H.cl.and he (Fr.of k) (br _) (λn q=>zt<|hu▸q)<|br _,λw2 s2 a b=>H.lv w2 s2 ((Fr.of k).trans a)<|kp.trans b,H.cn⟩
def jK.eq(H:jK n0 M c w0 cnt0 s0 Λ Γ gb Q dom D (jc (ju X Y f t) g) P s cnt kb w)(hx:TW w (fh c) S X v1)(hy:TW w (fh c) S Y v2)(tx:jl Λ s X)(ty:jl Λ s Y)(ok:∀NN s' w',jK n0 M c w0 cnt0 s0 Λ Γ gb Q dom D (g ()) P s' cnt NN w'->post (.returned<|Mv NN) w')(hS:S<=900000:=by omega)(bad:∀f l r w',bW c (1100*n0) (1000*n0) M s0 cnt0 w0 (CO f l r) w'->post (CO f l r) w':=by exact λ_ _ _ _ h=>⟨rfl,h⟩):Cq 280 #[Mv kb,v1,v2,.agg #[Nv f,Nv t]] w post:=
 (H.eqc (vf _ _) hx hy tx ty hS).mono λe w' q=>by
  obtain⟨fl,l,r,rfl,q⟩|q:=q
  .exact bad _ _ _ _ q
  .have h:=q;obtain⟨b,rfl,-⟩:=q;have⟨NN,s',e,H⟩:=H.eqd h
   cases e
   exact ok _ _ _ H
end
def jK.new{g}(H:jK n0 M c w0 cnt0 s0 Λ Γ gb Q dom D (jc j9 g) P s cnt kb w)(ok:∀s' w',jK n0 M c w0 cnt0 s0 Λ Γ gb Q dom D2 (g<|cnt+1) (λw s=>P w s/\jl Λ s (.var<|cnt+1)) s' (cnt+1) kb w'->post (.returned<|Iv<|(cnt:Int)+1) w')(hD:D2+1<=D:=by omega):Cq 86 #[Pv c.cb] w post:=by
 have cn:=H.cn;have:=H.ft.a;have⟨W,F⟩:=H.we.fresh;have⟨m,st,ty⟩:=KU H.st.k H.st.n F;refine(rT cnt ae H.we.ct).mono ?_;rintro e w'⟨rfl,rfl⟩;exact ok _ _ ⟨H.wg,H.hq,H.hd,H.ft,H.mf,H.f.trans F,W,H.st.and st,H.cl.and m F ae (λn q=>q.imp id λq=>ae) ae,λw2 s2 a b=>⟨H.lv w2 s2 (F.trans a)<|st.p.trans b,ty.run b.run⟩,ae⟩
def ani{a b:Ty}{tb}{xb}(ha:TW w (fh c) S1 a (.iface ta xa))(hb:TW w (fh c) S2 b (.iface tb xb))(hc:c.cb<w.heap.size):Cq 310 #[.iface ta xa,.iface tb xb] w λe w'=>∃g,e=.returned (.iface 260<|.agg #[.string<|pn pH,.slice (some ⟨g,0,none⟩) 2 2])/\Bq w w'/\TW w' (fh c) (1+S1+S2) (ql a b) (.iface 260<|.agg #[.string<|pn pH,.slice (some ⟨g,0,none⟩) 2 2]):=
 (K_ _ _ _ _).mono λe w' h=>by
  obtain⟨rfl,rfl⟩:=h;exact⟨_,rfl,bw _,TW.fn ha hb hc⟩
def jK.ret(H:jK n0 M c w0 cnt0 s0 Λ Γ gb Q dom D (jt X) P s cnt kb w)(ht:TW w (fh c) S X (.iface ta xa))(hS:S<=1100*n0:=by rw[en];omega):bW c (1100*n0) (1000*n0) M s0 cnt0 w0 (.returned<|.tuple #[.iface ta xa,Mv kb]) w:=H.cl _ _<|ago H.we H.st.k (ht.le hS)<|Fr.refl _ _
end
section
variable {c:WC} {cnt:Nat} {a:Nat} {y z:Nd}
def aaJ:Tryz.prog.underlying 148=some (.map 9 249):=qkr
end
section
variable {c:WC} {cnt:Nat} {a:Nat} {y z:Nd}
def akh{y}(Hx:ExC x)(h:Vt (.mk 9 st n [x] f t a) c w cnt s kb Λ Γ gb Q dom (.iface 191<|.agg #[Nv f,Nv t,Nv a,Nv y,.string st,vx]))(hx:PE w Q x vx):
 Cq 296 #[Pv c.eb,Mv kb,Mv gb,.agg #[Nv f,Nv t,Nv a,Nv y,.string st,vx]] w (bW c (1100*nn (.mk 9 st n [x] f t a)) (1000*nn (.mk 9 st n [x] f t a)) (jm c.mks (.mk 9 st n [x] f t a) Γ) s cnt w):=by
 have en:nn (.mk 9 st n [x] f t a)=1+nn x:=qBi;have kX:=AE;obtain⟨lF,sx⟩:st∈c.nl/\tQ c.mks c.nl (λv=>dom v\/v=st) x:=by
  cases h.sc with
  |fn _ _ _ _ _ _ _ hs hx=>exact⟨hs,hx⟩
 have H:=jK.start h<|PB ..
 replace en:=ai en
 clear h;have HX:=ai hx;obtain⟨tx,ax,rfl⟩:=hx.iface;clear hx;have⟨e1,e2,e3⟩:=H.we.bx;go_enter func296,ntmps296;go_wp2_with fail;refine H.box.new (D2:=1000*nn x+999) ?_ qAb;intro s3 w3 H;clear e1 e2 e3;have⟨⟨_,b1,b2,b3⟩,_⟩:=H.p
 go_wp2
 go_region_with(first
  |(go_at_call 275;go_loud(refine(Sy ((H.wg.fr H.f H.st.p.run).e.af (vf _ _).drew) st<|abM (ye w3.drew c cnt 1<|br _) ae).mono ?_);rintro e w5⟨b5,rfl,z5,h5,k5⟩;have K5:=ai<|(vf w3.heap.size w3).drew.trans k5;have⟨⟨_,d1,d2,d3⟩,_⟩:=(H.af K5).p;have E5:=ai h5;have Z5:=ai z5;clear k5 h5 z5)
  |(go_at_call 279;go_loud(refine H.exG (D2:=999) K5 Hx (H.asks K5 E5 Z5 H.p.2.mono xq lF HX sx (λ_ q=>q) ae qAb) ?_);intro T6 ta6 xa6 s6 aob kb6 w6 H6))
 all_goals
  have z6:=H6.we.fX;go_wp2_with fail;refine(ani (ye w6 c cnt 1<|br _) H6.p.2.1 z6).mono ?_;rintro e w7⟨g,rfl,k7,t7⟩
  go_wp2
  go_ret2;exact(H6.af k7).ret t7 qAb
end
section
variable {M:jh Ty} {c:WC} {cnt:Nat} {q2:jh Ty} {P:World->jd->Prop} {post:Ending->World->Prop} {y:Nd}
def jK.t9(H:jK n0 M c w0 cnt0 s0 Λ Γ gb Q dom D q P s cnt kb w)(k:∀o,q2 s o->q s o):jK n0 M c w0 cnt0 s0 Λ Γ gb Q dom D q2 P s cnt kb w:=⟨H.wg,H.hq,H.hd,H.ft,H.mf,H.f,H.we,H.st,H.cl.imp k,H.lv,H.cn⟩
def jK.imp(H:jK n0 M c w0 cnt0 s0 Λ Γ gb Q dom D q P s cnt kb w)(k:∀w s,P w s->P' w s):jK n0 M c w0 cnt0 s0 Λ Γ gb Q dom D q P' s cnt kb w:=⟨H.wg,H.hq,H.hd,H.ft,H.mf,H.f,H.we,H.st,H.cl,λw s a b=>k _ _<|H.lv w s a b,H.cn⟩
def jK.t_{g}(H:jK n0 M c w0 cnt0 s0 Λ Γ gb Q dom D (jc (jf c.mks y λ_=>none) g) P s cnt kb w)(K:Bq w W)(E:bR W (qH c gv) gv λ_=>none)(hg:w.heap.size<=gv)(hy:PP w0 Q y vy)(sy:oX c.mks c.nl y)(ok:∀T g1 ta xa s' aC NN w',jK n0 M c w0 cnt0 s0 Λ Γ gb Q dom D2 (g (T,g1)) (λw s=>P w s/\(TW w (fh c) (1100*nn y) T (.iface ta xa)/\jl Λ s T)/\bR w (fh c) gv g1/\jx Λ s g1) s' aC NN w'->jf c.mks y (λ_=>none) s (.ok ((T,g1),s'))->w.heap.size<=w'.heap.size->post (.returned<|.tuple #[.iface ta xa,Mv NN]) w')(hD:D2+1000*nn y<=D)(hn:nn y<=n0)(bad:∀f l r w',bW c (1100*n0) (1000*n0) M s0 cnt0 w0 (CO f l r) w'->post (CO f l r) w':=by exact λ_ _ _ _ h=>⟨rfl,h⟩):
 Cq 313 #[Pv c.eb,Mv kb,Mv gv,vy] W post:=by
 have cn:=H.cn;have zc:=H.we.fX;have k:=(CP.of H.st.k hg).af K;have pp:=(hy.move (Q:=λb=>Q b/\b<w.heap.size) H.f.size (λb p z=>H.f.block b z<|H.hq b p)<|λb p z=>⟨p,zu z H.f.size⟩).af K;refine(ahl y c W cnt s kb Λ (λ_=>none) gv _ _ ⟨H.we.af K,k,H.st.n,E,(λy d q=>eh),by have:=H.we.l.2.2.2.2;omega,pp,(λb q=>⟨H.hq b q.1,by have:=q.2;omega⟩),sy,H.ft.le ae hn,H.mf⟩).mono λe w' hp=>?_;obtain⟨c3,zz,vl,vr,rfl,q⟩|⟨c3,T3,g3,s3,ta3,xa3,kb3,rfl,q⟩:=hp.split
 .exact bad _ _ _ _ (H.cl _ _ ⟨Zo K hg q.F,c3,.error zz,q.c1,by have:=q.c2;omega,q.we,zt ⟨zz,q.m,rfl⟩,vl,vr,rfl,q.f⟩)
 .have st:=q.step k H.st.n<|λy d q=>eh;have F:=Zo (c:=c) K hg q.F;have:=q.c1;have:=q.c2;exact ok T3 g3 ta3 xa3 s3 c3 kb3 w' ⟨H.wg,H.hq,H.hd,H.ft,H.mf,H.f.trans F,q.we,H.st.and ⟨st.k.wk,st.n,st.p⟩,H.cl.and q.m F q.c1 q.u ae,λw2 s2 a b=>⟨H.lv w2 s2 (F.trans a)<|st.p.trans b,⟨(q.t.wide (Q:=fh c) λi p=>p.1).fr a<|λ_ p _=>p,st.t.run b.run⟩,(q.e.wide (Q:=fh c) λi p=>p.1).fr a ae<|λ_ p _=>p,st.i.run b.run⟩,ae⟩ q.m F.size
end
def ake n0(M:jh Ty)c w0 cnt0(s0:jd)Λ(Γ:ja)gb Q dom T ts xs rv nx A gk v1 v35 wr:=
 ∃j cj sj kj,Hid (gk=A.length-j)/\j<=A.length/\v1=Mv kj/\v35=Nv j/\jK n0 M c w0 cnt0 s0 Λ Γ gb Q dom (1000*cV (bh<|A.drop j)) (lJ c.mks Γ T (.var rv) A j) (λw s=>(TW w (fh c) (1100*nx) T (.iface ts xs)/\jl Λ s T)/\jl Λ s (.var rv)) sj cj kj wr
def CQ(h:j<A.length):cV (bh<|A.drop j)=nn A[j].1+nn A[j].2+cV (bh<|A.drop<|j+1):=by
 rw[xd h];simp only[bh,cV];omega
def nR:∀A:List (Nd×Nd),A.length<=cV (bh A)
 |[]=>ah|p::r=>by have:=nR r;have:=Ec p.1;simp only[de,bh,cV];omega
def rP:∀(A:List (Nd×Nd))(j:Nat)(h:j<A.length),nn A[j].1+nn A[j].2<=cV (bh A)
 |p::r,0,_=>by simp only[xj,bh,cV];omega|p::r,j+1,h=>by have:=rP r j xB;simp only[xk,bh,cV];omega
section
variable {c:WC} {cnt:Nat}
def ahm{a}{g}{vp ve:Nat->Value}(Hx:ExC x)(He:∀i(h:i<A.length),ExC A[i].2)(h:Vt (.mk 13 st n (x::bh A) f t a) c w cnt s kb Λ Γ gb Q dom (.iface 82<|.agg #[Nv f,Nv t,vx,.slice (some ⟨g,0,none⟩) A.length sc]))(hg:Q g)(mn:g<w.heap.size)(hc:∀i,i<A.length->(∃u v,w.cell? ⟨g,i*4,none⟩=some (Iv u)/\w.cell? ⟨g,i*4+1,none⟩=some (Iv v))/\w.cell? ⟨g,i*4+2,none⟩=some (vp i)/\w.cell? ⟨g,i*4+3,none⟩=some (ve i))(hx:PE w Q x vx)(hp:∀i(h:i<A.length),PP w Q A[i].1<|vp i)(he:∀i(h:i<A.length),PE w Q A[i].2<|ve i):
 Cq 299 #[Pv c.eb,Mv kb,Mv gb,.agg #[Nv f,Nv t,vx,.slice (some ⟨g,0,none⟩) A.length sc]] w (bW c (1100*nn (.mk 13 st n (x::bh A) f t a)) (1000*nn (.mk 13 st n (x::bh A) f t a)) (jm c.mks (.mk 13 st n (x::bh A) f t a) Γ) s cnt w):=by
 have en:nn (.mk 13 st n (x::bh A) f t a)=1+nn x+cV (bh A):=qAd;have⟨sx,SP,SE⟩:=afX h.sc;have SP:=λi h=>(SP i h).1;have fb:=h.ft.b;rw[en]at fb;have hAl:=nR A;have g_:= @run_makeMap Tryz.prog;have HX:=ai hx;obtain⟨tx,ax,rfl⟩:=hx.iface;have H:=jK.start h<|NO ..;obtain⟨n0,QM⟩:∃n0,n0=nn (.mk 13 st n (x::bh A) f t a):=⟨_,rfl⟩;obtain⟨M,hM⟩:∃M,M=In.inf c.mks (.mk 13 st n (x::bh A) f t a) Γ:=⟨_,rfl⟩;rw[<-hM,<-QM]at H⊢;rw[en]at QM;have EN:=ai QM;have HP:=ai hp;have HE:=ai he;have HC:=ai hc;clear h hx en QM hM hp he hc;go_enter func299,ntmps299;go_wp2_with fail;refine H.box.ex (D2:=1000*(1+cV (bh A))) Hx HX sx ?_ (by rw[uh EN];omega) (by rw[uh EN];omega);intro T1 ND NE s1 aw nj w1 H;have⟨⟨_,b1,b2,b3⟩,_⟩:=H.p;have⟨e1,e2,e3⟩:=H.we.bx;go_wp2_with fail;refine H.new (D2:=1000*cV (bh A)) ?_ ae;intro s3 w3 H;clear e1 e2 e3 b1 b2 b3;have⟨⟨⟨_,b1,b2,b3⟩,_⟩,_⟩:=H.p
 go_wp2
 go_loopg[1,35] A.length (λgk v1 v35 wr=>ake n0 M c w cnt s Λ Γ gb Q dom T1 ND NE (aw+1) (nn x) A gk v1 v35 wr)
 case atStart=>exact⟨0,_,_,_,ai ah,zy _,rfl,rfl,H.imp λ_ _ h=>⟨h.1.2,h.2⟩⟩
 case round=>
  clear H b1 b2 b3;obtain⟨j,cj,sj,kj,bE,hj,rfl,rfl,H⟩:=hrel;by_cases aI:j<A.length
  .have aZ:(j:Int)<(A.length:Int):=ae;have Cz:(0:Int)<=(j:Int):=ae;have⟨⟨u,v,d0,d1⟩,d2,d3⟩:=HC j aI;rw[<-vd (a:=⟨g,_,none⟩) (H.f.block g mn<|H.hq g hg)]at d0 d1 d2 d3;have⟨t1,x1,e1⟩:=(HP j aI).iface;have⟨t2,x2,e2⟩:=(HE j aI).iface;have PP1:=HP j aI;have PE2:=HE j aI;rw[e1]at d2 PP1;rw[e2]at d3 PE2;have pl1:=PP1.place;have pl2:=PE2.place;dsimp only[PlF]at pl1 pl2
   replace PP1:=ai PP1
   replace PE2:=ai PE2
   have hdn:=CQ aI;have hnn:=rP A j aI;have l5:=H.we.l.2.2.2.2;have H:=H.t9 λo q=>CR aI q;have zc:=H.we.fX;go_wp2_with fail;refine(H.box (C:=#[Iv u,Iv v,Fv t1<|Av x1,Fv t2<|Av x2]) (t:=117)).t_ (D2:=1000*(nn A[j].2+cV (bh<|A.drop<|j+1))) (gv:=wr.heap.size+1) (bw _) (by have:=bR.new (wr.alloc<|Cv #[Iv u,Iv v,Fv t1<|Av x1,Fv t2<|Av x2] 117)<|qH c<|wr.heap.size+1;simpa using this) ah PP1 (SP j aI) ?_ ae (by rw[uh EN];omega);intro T3 g3 ta3 xa3 s3 c3 kb3 w3 H hm3 z3;clear d0 d1 d2 d3;have⟨⟨_,b1,b2,b3⟩,_⟩:=H.p;go_wp2_with fail;refine(my _ _).mono ?_;rintro e w4⟨rfl,K4⟩;have H:=H.af K4;clear b1 b2 b3;have⟨⟨_,b1,b2,b3⟩,_⟩:=H.p;go_wp2_with fail;refine H.eq (S:=900000) (H.p.1.1.1.1.le ae) (H.p.2.1.1.le ae) H.p.1.1.1.2 H.p.2.1.2 ?_;intro b5 s5 w5 H;clear b1 b2 b3;have⟨⟨_,b1,b2,b3⟩,_⟩:=H.p
   replace hm3:=ai hm3
   go_wp2_with fail;go_cut[16,17]from 56 to 75 (λv16 v17 wc=>∃T6 s6 c6 ta6 xa6 kb6,v16=Mv kb6/\v17=Fv ta6 xa6/\jK n0 M c w cnt s Λ Γ gb Q dom (1000*cV (bh<|A.drop<|j+1)) (jc (ju (.var<|aw+1) T6 (jy A[j].2)<|j3 A[j].2) λ_=>lJ c.mks Γ T1 (.var<|aw+1) A<|j+1) (λw' s=>(((TW w' (fh c) (1100*nn x) T1 (Fv ND NE)/\jl Λ s T1)/\jl Λ s (.var<|aw+1))/\Bx w' wr.heap.size #[Iv u,Iv v,Fv t1<|Av x1,Fv t2<|Av x2])/\TW w' (fh c) (1100*nn A[j].2) T6 (Fv ta6 xa6)/\jl Λ s T6) s6 c6 kb6 wc)
   case first=>
    go_region_with(first
     |(go_at_call 287;go_loud(refine(CU ((H.wg.fr H.f H.st.p.run).e.af (vf _ _).drew)<|H.p.2.2.1.af (vf _ _).drew).mono ?_);rintro e w6⟨b6,rfl,z6,h6,k6⟩;have K6:=ai<|(vf w5.heap.size w5).drew.trans k6;have⟨⟨_,d1,d2,d3⟩,_⟩:=(H.af K6).p;have E6:=ai h6;have Z6:=ai z6;clear k6 h6 z6)
     |(go_at_call 279;go_loud(refine H.exG (D2:=1000*cV (bh<|A.drop<|j+1)) K6 (He j aI) ⟨H.we.af K6,H.st.k.af K6,H.st.n,(H.wg.fr H.f H.st.p.run).over (SP j aI) hm3 H.p.2.2.2 E6 (by have z:=uh Z6;have:=H.we.fX;have q:w5.heap.size<=b6:=z;omega),(PE2.move H.f.size (λb p z=>H.f.block b z<|H.hq b p)<|λ_ p _=>p).af K6,H.hq,SE j aI,I0 (SP j aI) hm3 H.hd,H.ft.le qBw (by rw[uh EN];omega),H.mf⟩ ?_ ae);intro T6 ta6 xa6 s6 c6 kb6 w7 H7))
    all_goals(
     go_wp2_with fail
     go_meet
     case rel=>exact⟨_,_,_,_,_,_,rfl,rfl,H7.imp λ_ _ h=>⟨h.1.1,h.2⟩⟩)
   case rest=>
    obtain⟨T6,s6,c6,ta6,xa6,kb6,rfl,rfl,H⟩:=hcut;clear b1 b2 b3;have⟨⟨_,b1,b2,b3⟩,_⟩:=H.p;go_wp2_with fail;refine(my _ _).mono ?_;rintro e w8⟨rfl,K8⟩;have H:=H.af K8;go_wp2_with fail;refine H.eq (S:=900000) (ye w8 c aw _ ae) (H.p.2.1.le ae) H.p.1.1.2 H.p.2.2 ?_;intro b9 s9 w9 H
    go_wp2
    go_roundg(A.length-(j+1))
    case measure=>rw[uh bE];omega
    case rel=>exact⟨j+1,_,_,_,ai rfl,zx aI,rfl,d_,H.imp λ_ _ h=>h.1.1⟩
  .have aZ:¬(j:Int)<(A.length:Int):=ae;have ej:j=A.length:=ae;subst ej;have H:=H.t9 λo q=>I1 c.mks Γ T1 (.var<|aw+1) A sj o q
   go_wp2
   go_ret2;exact H.ret (ye wr c aw 1<|br _) (by rw[uh EN];omega)
end
section
variable {c:WC} {cnt:Nat}
def Vt.self(h:Vt nd c w cnt s kb Λ Γ gb Q dom v)(hb:Bq w W):Vt nd c W cnt s kb Λ Γ gb Q dom v:=h.part hb h.pe h.sc<|br _
def Rq(mk:ji)(s:BA)(n f t a:Nat)(Γ:ja):jm mk (.mk 3 s n [] f t a) Γ=jt (.aM lA []):=by simp[jm,qn]
def yf k s n f t a:nn (.mk k s n [] f t a)=1:=qBi
end
def Zp:∀(k:Nat)(nd:Nd),nn nd<=k->ExC nd:=by
 intro k
 induction k with
 |zero=>intro nd h;cases nd;simp only[nn]at h;omega|succ k ih=>
  intro nd hk c w cnt s kb Λ Γ gb Q dom v h;have hp:=h.pe;have hs:=h.sc
  cases hs with
  |low _ st n f t a=>cases hp with|low _ _ _ _ _ hs=>exact Zq h
  |num _ st n f t a=>
   cases hp with
   |num=>
    rw[Rq c.mks st n f t a Γ,yf];exact akf h.we h.wk ae _
  |fn _ st n x f t a hn sx=>
   cases hp with
   |fn _ _ _ _ _ _ y vx hs hy hx=>
    have Zr:nn x<=k:=qAa;obtain⟨tx,ax,rfl⟩:=hx.iface;exact akg.1 λW hb=>akh (ih x Zr) (h.self hb)<|hx.af hb
  |mt _ st n x A f t a sx sp se=>
   obtain⟨vx,g,sc,vp,ve,rfl,hg,hz,hc,hx,y_,he⟩:=Yl hp;have Zr:nn x<=k/\cV (bh A)<=k:=qAa;obtain⟨tx,ax,rfl⟩:=hx.iface
   exact akg.2 λW hb=>ahm (ih x Zr.1) (λi hi=>ih _ (by have:=rP A i hi;omega)) (h.self hb) hg (zu hz hb.size) (λi hi=>by
    have jE:∀o,W.cell? ⟨g,o,none⟩=w.cell? ⟨g,o,none⟩:=λo=>vd (a:=⟨g,o,none⟩)<|hb.block g hz;simp only[jE]
    exact hc i hi) (hx.af hb) (λi hi=>(y_ i hi).af hb) (λi hi=>(he i hi).af hb)
def adV nd:ExC nd:=Zp _ nd<|br _
structure BdA rc st x c w cnt(s:jd)kb(Λ:Nat->Prop)(Γ:ja)gb Q(dom:BA->Prop)v:Prop where
 we:WE w c cnt
 wk:WK w c cnt s kb
 hn:∀n,¬s.u n->Λ n
 wg:WG w c s Λ Γ gb
 pe:PE w Q x v
 hq:∀b,Q b->b≠c.cb
 sc:tQ c.mks c.nl (λv=>dom v\/(rc=true/\v=st)) x
 hd:∀x,dom x->Γ x≠none
 ft:Fit c cnt (1+nn x)
 mf:MkFine c.mks
 lF:st∈c.nl
section
variable {c:WC} {cnt:Nat}
def BdA.af{rc}{st}{x}{v}{w1}(h:BdA rc st x c w cnt s kb Λ Γ gb Q dom v)(hb:Bq w w1):BdA rc st x c w1 cnt s kb Λ Γ gb Q dom v:=
 ⟨h.we.af hb,h.wk.af hb,h.hn,h.wg.af hb,h.pe.af hb,h.hq,h.sc,h.hd,h.ft,h.mf,h.lF⟩
def YY{a y:Nat}(Hx:ExC x)(h:BdA false st x c w cnt s kb Λ Γ gb Q dom vx):
 Cq 269 #[Pv c.eb,Mv kb,Mv gb,.agg #[.bool false,Nv a,Nv y,.string st,vx]] w (bW c (1100*(1+nn x)) (1000*(1+nn x)) (qf false st x (jm c.mks x) Γ) s cnt w):=by
 have k0:Bq w (w.alloc<|Cv #[.bool false,Nv a,Nv y,Sv st,vx] 75):=bw _;have h1:=h.af k0;have H1:=Hx c _ cnt s kb Λ Γ gb Q _ vx ⟨h1.we,h1.wk,h1.hn,h1.wg,h1.pe,h1.hq,h1.sc,λv q=>h1.hd v (q.resolve_right λr=>by cases r.1),h1.ft.le ae ae,h1.mf⟩;have K0:=ai k0;obtain⟨tx,ax,rfl⟩:=h.pe.iface;go_enter func269,ntmps269;go_wp2_with fail;refine H1.mono ?_;intro e w1 hp;obtain⟨aw,zz,vl,vr,rfl,q1⟩|⟨aw,T1,s1,ND,NE,nj,rfl,q1⟩:=hp.split
 .clear hp
  go_wp2
  exact⟨rfl,(Fr.of K0).trans q1.F,aw,.error zz,q1.c1,by have:=q1.c2;omega,q1.we,q1.m,vl,vr,rfl,q1.f⟩
 .have QQ:=ai q1
  go_wp2
  go_ret2;have q1:=uh QQ;exact⟨(Fr.of K0).trans q1.F,aw,.ok (T1,s1),q1.c1,by have:=q1.c2;omega,q1.we,q1.m,q1.u,q1.wh,ND,NE,nj,rfl,q1.n,q1.k,q1.t.le ae⟩
end
structure WT w c cnt(u:Nat->Prop)(Γ:ja):Prop where
 we:WE w c cnt
 e:bR w (λi=>i≠c.cb/\i≠c.eb) c.nb Γ
 n:c.nb≠c.cb/\c.nb≠c.eb
 hu:∀n,u n->us cnt n
 top:In.Tm ⟨vj,u⟩ Γ
 dm:∀x,Γ x≠none->x∈c.nl
def LetOk:Except jz (Ty×jd)->Prop
 |.error _=>False|.ok (a,s)=>size (sub s.k a)<=48
structure LtA rc st x c w cnt u(Γ:ja)Q(dom:BA->Prop)v:Prop where
 wt:WT w c cnt u Γ
 pe:PE w Q x v
 hq:∀b,Q b->b≠c.cb/\b≠c.eb
 sc:ScV c.mks c.nl rc (λv=>dom v\/(rc=true/\v=st)) x
 hd:∀x,dom x->Γ x≠none
 ft:Fit c cnt (1+nn x)
 mf:MkFine c.mks
 lF:st∈c.nl
 ok:∀o,qf rc st x (jm c.mks x) Γ ⟨vj,u⟩ o->LetOk o
def Qz{p:Prop}(h:p:=by
 induction h with
 |var n=>exact .var n|aM c L sa sc vs hc aE hr ih=>
  refine .aM c L sa sc vs hc ?_ ih;obtain h0|⟨g,h1,h2,h3,h4⟩:=aE
  .exact zt h0
  .by_cases h0:L=[]
   .exact zt h0
   .refine zn ⟨g,h1,⟨h2,λe=>?_⟩,h3,h4⟩;have hl:=List.length_pos_iff.2 h0;have q:=h4 0 hl;rw[e,hb]at q;injection q with q;obtain⟨a,y,r⟩:=(hr 0 hl).iface
    exact hx a y<|q.trans r):p:=h
def dA.not{t:Ty}{x:Value}(h:dA w P t v)(hb:w.cell? ⟨b,0,none⟩=some x)(hx:∀a y,x≠.iface a y):dA w (λi=>P i/\i≠b) t v:=by
 exact Qz
def eN.not{t:Ty}{x:Value}(h:eN w P t v)(hb:w.cell? ⟨b,0,none⟩=some x)(hx:∀a y,x≠.iface a y):eN w (λi=>P i/\i≠b) t v:=by
 exact Qz
def vM.hv(h:vM w P z vl vr):(vl=.nilIface/\vr=.nilIface)\/∃a b c d,vl=.iface a b/\vr=.iface c d:=by
 obtain k|k:=h.k
 .have⟨h1,h2⟩:=h.apart k;have⟨a,b,e1⟩:=h1.iface;have⟨c,d,e2⟩:=h2.iface;exact zn ⟨a,b,c,d,e1,e2⟩
 .exact zt (h.tK k)
def vM.one{w w':World}{P:Nat->Prop}{z:jz}{vl vr x:Value}{b:Nat}(h:vM w P z vl vr)(hb:w.cell? ⟨b,0,none⟩=some x)(hx:∀a y,x≠.iface a y)(hf:Fr (λi=>i=b) w w'):vM w' P z vl vr:=
 ⟨h.tK,λk=>⟨((h.apart k).1.not hb hx).move hf.size (λi p q=>hf.block i q p.2)<|λ_ p _=>p.1,((h.apart k).2.not hb hx).move hf.size (λi p q=>hf.block i q p.2)<|λ_ p _=>p.1⟩,h.k⟩
abbrev NP(f:Fl)(vl vr:Value):Value:=.agg #[Nv f.kind,Nv f.aD,Nv f.t9,vl,vr]
def Zs c cnt u(Γ:ja)rc st x w(e:Ending)w':=Fr (λi=>i=c.cb\/i=c.eb) w w'/\∃o,qf rc st x (jm c.mks x) Γ ⟨vj,u⟩ o/\match o with
 |.error _=>False|.ok (t,s)=>(size (sub s.k t)<=48/\∃T ta xa aC Vp,T=(if qm x then sub s.k t else j6 (sub s.k t))/\e=.returned (.tuple #[.iface ta xa,.agg Mz])/\dA w' (fh c) T (.iface ta xa)/\Whole T/\aC<=cnt+1000*(1+nn x)/\WT w' {c with nb:=Vp} aC s.u (jj Γ st ⟨T,vars [] T⟩))
def mH.not{w}{P}{mb b}{mk}{x}(h:mH w P mb mk)(hb:w.cell? ⟨b,0,none⟩=some x)(hx:∀a y,x≠.iface a y):mH w (λi=>P i/\i≠b) mb mk:=by
 obtain⟨L,h1,h2,h3⟩:=h;refine⟨L,h1,h2,λk v hk=>?_⟩;obtain⟨tk,m,e,sa,sc,ta,xa,rfl,q1,q2⟩:=h3 k v hk;refine⟨tk,m,e,sa,sc,ta,xa,rfl,?_,q2.not hb hx⟩;obtain q1|⟨g,vs,q3,q4,q5,q6⟩:=q1
 .exact zt q1
 .by_cases h0:tk=[]
  .exact zt h0
  .have hl:=List.length_pos_iff.2 h0;refine zn ⟨g,vs,q3,⟨q4,λe=>?_⟩,q5,λi hi=>⟨(q6 i hi).1,(q6 i hi).2.not hb hx⟩⟩;have⟨q7,q8⟩:=q6 0 hl;rw[e,hb]at q7;injection q7 with q7;have⟨a,y,r⟩:=q8.iface;exact hx a y<|q7.trans r
def MG.bF{enc}{L:List (κ×Value)}(h:MG enc w b L)(o:Nat):w.cell? ⟨b,o,none⟩=none:=by
 obtain⟨es,c,h1,_⟩:=h;simp[World.cell?,h1]
def rO{p:Prop}(h:p:=by
 have:=h.bx.c 0;rw[<-e]at this
 exact absurd this (by rw[hM.bF 0];simp)):p:=h
def WE.put{c:WC}{cnt}(h:WE w c cnt)(hf:Fr (λi=>i=c.eb\/c.gL<=i) w w')(he:Bx w' c.eb (ahn {c with nb:=nb})):WE w' {c with nb:=nb} cnt:=by
 have⟨l1,l2,l3,l4,l5⟩:=h.l;have⟨d1,d2,d3⟩:=h.d;have ne1:c.rb≠c.eb:=λe=>by
  have⟨L,hM,_⟩:=h.rs;exact rO
 have ne2:c.mb≠c.eb:=λe=>by
  have⟨L,hM,_⟩:=h.ms;exact rO
 refine⟨he,h.ct.fr hf ae,h.rs.same<|hf.block _ h.rs.lt ae,?_,h.d,⟨l1,l2,l3,l4,zv l5 hf.size⟩⟩;exact(h.ms.not (h.bx.c 0) ah).move hf.size (hf.block _ h.ms.lt ae) (λb p z=>hf.block b z (by have:=p;omega)) (λb p _=>p.1)
mutual
def zH:∀t,size (sub (λ_=>In.CV) t)=size t
 |.var n=>by simp[sub,size,ak]|.aM c l=>by simp only[sub,size,vR l]
def vR:∀l,ak (ba (λ_=>In.CV) l)=ak l
 |[]=>rfl|t::l=>by simp only[ba,ak,zH t,vR l]
end
def I4 t:size (j6 t)=size t:=zH t
end
def Vu(f:Fl)(l r:BA)(sa:Option Addr)(n c:Nat):Value:=.agg #[Nv f.kind,Nv f.aD,Nv f.t9,.string l,.string r,.slice sa n c,.slice none 0 0]
def ftL(z:jz):BA:=if z.f.kind=6 then bs (wr dec (vars [] z.l) z.l 0)else bs []
def ftR(z:jz):BA:=if z.f.kind=6 then bs (wr dec (vars (vars [] z.l) z.r) z.r 0)else bs []
section
open Go.MapKept
def JV{fn:Func}{P:Program}(h4:fn.results=#[.tmp 4,.cell 5 100])(T:Array Value)(i:Nat)(v:Value)(h:i≠4/\i≠5):results fn (T.setIfInBounds i v)=results fn T:=by
 have e:∀j,j≠i->(T.setIfInBounds i v).getD j undef=T.getD j undef:=λj hj=>by
  simp only[Array.getD_eq_getD_getElem?,Array.getElem?_setIfInBounds_ne<|vu hj]
 unfold results;rw[h4];simp only[Array.mapM_eq_mapM_toList,List.mapM_cons,List.mapM_nil,e 4<|vu h.1,e 5<|vu h.2]
def OP{fn:Func}{P}(h4:fn.results=#[.tmp 4,.cell 5 100])T i v(h:i≠4/\i≠5)R:∀(ds:List Deferred)(u:FrameMode)(w:World),Leaves P fn (T.setIfInBounds i v) R ds u w->Leaves P fn T R ds u w:=by
 intro ds
 induction ds with
 |nil=>
  intro u w q
  cases u with
  |returning=>simp only[Leaves]at q⊢;rw[JV (P:=P) h4 T i v h]at q;exact q|panicking c=>exact q|run=>exact q
 |cons d ds ih=>
  intro u w q;simp only[Leaves]at q⊢;obtain⟨q1,fv,cap,f,args,q2,q3,q4⟩:=q;refine⟨q1,fv,cap,f,args,q2,q3,q4.mono ?_⟩;intro e u' w' hq
  cases e with
  |returned v=>exact ih _ _ hq|panicked c=>exact ih _ _ hq|outgrown=>exact hq
def Wh{fn:Func}{P}(h4:fn.results=#[.tmp 4,.cell 5 100]){K}{R}{i}(h:i≠4/\i≠5)v c a w(q:(Exit.then K<|bodyPostD P fn R) (.panic c) (a.put (some i) v) w):(Exit.then K<|bodyPostD P fn R) (.panic c) a w:=OP h4 a.tmps i v h R a.defers _ w q
section
variable {c:WC} {cnt:Nat} {u:Nat->Prop}
def oh{P}{Q}{md}{S}{oi}{fuel}{listed}{a}{w}i(h:wpAnyH P md ops Q S fuel (listed.setIfInBounds i true) (a.put oi.dst v) w)(hi:ops[i]? =some oi:=by rfl)(hs:Region.noSelect ops=true:=by kernel_rfl)(hf:Region.free md ops listed i=true:=by kernel_rfl)(hr:(Region.ready md ops listed).contains i=true:=by kernel_rfl)(hy:YieldsIf P ops S oi v a:=by exact .inl ⟨by rfl,by intro w hSw;(try dsimp only at hSw);go_simp;try with_reducible rfl⟩)(hQ:∀c a w,Q (.panic c) (a.put oi.dst v) w->Q (.panic c) a w:=by exact λc a w q=>Wh am3 aA _ c a w q)(hS:S w:=by assumption):wpAnyH P md ops Q S (fuel+1) listed a w:=wpAnyH_take hi hs hf hr hQ hy hS h
def ah3{rc}{a y}(h:LtA rc st x c w cnt u Γ Q dom v):
 Cq 266 #[Pv c.eb,.agg #[.bool rc,Nv a,Nv y,.string st,v]] w (Zs c cnt u Γ rc st x w):=by
 obtain rfl:=h.sc.r;have hv9:=MU h.sc.k;have HV9:=ai hv9;clear hv9;obtain⟨tx,ax,rfl⟩:=h.pe.iface;have g_:= @run_makeMap vh;obtain⟨w0,I9⟩:∃w0,w0=(w.alloc<|Cv #[.bool false,Nv a,Nv y,Sv st,Fv tx<|Av ax] 75).alloc (Cv Mz 100):=⟨_,rfl⟩;have k0:Bq w w0:=by rw[I9];exact(bw _).alloc ah _
 have B0:Bx w0 w.heap.size #[.bool false,Nv a,Nv y,Sv st,Fv tx<|Av ax]:=by rw[I9];exact(v9 w #[.bool false,Nv a,Nv y,Sv st,Fv tx<|Av ax] 75).alloc (Cv Mz 100)
 have we0:=h.wt.we.af k0;have f0:w0.cell? ⟨c.eb,3,none⟩=some (Mv c.nb):=we0.bx.c 3;have f1:w0.cell? ⟨w.heap.size,0,none⟩=some (.bool false):=B0.c 0;have f2:=B0.c 1;have f3:=B0.c 2;have f4:=B0.c 3;have f5:=B0.c 4;have k1:Bq w0 (w0.alloc<|.map #[] 0).drew:=(bw _).drew;have we1:=we0.af k1;have zE:=B0.below k1;have K01:=k0.trans<|k1.mono k0.size;have zc:=h.wt.we.fX;have ze:=h.wt.we.bx.z;have zz0:w0.heap.size=w.heap.size+2:=by rw[I9];simp
 have Ce:Bx (w0.alloc<|.map #[] 0).drew (w.heap.size+1) Mz:=by
  have q:Bx w0 (w.heap.size+1) Mz:=by
   rw[I9];have:=v9 (w.alloc<|Cv #[.bool false,Nv a,Nv y,Sv st,Fv tx<|Av ax] 75) Mz 100;simpa using this
  exact q.below k1
 have g0:=we1.bx.c 3;have g1:=zE.c 0;have g2:=zE.c 1;have g3:=zE.c 2;have g4:=zE.c 3;have g5:=zE.c 4;have GS:=kg g0<|kg g1<|kg g2<|kg g3<|kg g4 g5;have KE:KW (w0.alloc<|.map #[] 0).drew (fh c) w0.heap.size vj:=⟨λ_=>none,(fK.new w0<|fh c).af (vf _ _).drew,λn=>⟨λ_=>rfl,λq=>absurd rfl q⟩⟩;have WK1:WK (w0.alloc<|.map #[] 0).drew c cnt ⟨vj,u⟩ w0.heap.size:=⟨KE,ae,h.wt.hu,qv u,λn=>trivial⟩;have wg1:WG (w0.alloc<|.map #[] 0).drew c ⟨vj,u⟩ (λn=>¬u n) Γ c.nb:=⟨(h.wt.e.af K01).wide λi p=>p.1,h.wt.n.1,h.wt.top.env,λy d q=>by rw[(h.wt.top y d q).1];exact gV _ xq,h.wt.dm⟩;have HB:=YY (a:=a) (y:=y) (adV x) (⟨we1,WK1,λn q=>q,wg1,h.pe.af K01,λb q=>(h.hq b q).1,h.sc.e,h.hd,h.ft,h.mf,h.lF⟩:BdA false st x c _ cnt ⟨vj,u⟩ w0.heap.size (λn=>¬u n) Γ c.nb Q dom (Fv tx<|Av ax));rw[zz0]at HB;have HA:=ai h;clear k0 k1 we0 we1 B0 KE WK1 wg1 g0 g1 g2 g3 g4 g5 h;have am3:Tryz.f266.results=#[.tmp 4,.cell 5 100]:=rfl
 go_enter_defers Tryz.func266,Tryz.ntmps266
 go_wp2_with fail;rw[<-I9];clear I9;refine wp_region_held_drew (S:=λw'=>w'.cell? ⟨c.eb,3,none⟩=some (Mv c.nb)/\w'.cell? ⟨w.heap.size,0,none⟩=some (.bool false)/\w'.cell? ⟨w.heap.size,1,none⟩=some (Nv a)/\w'.cell? ⟨w.heap.size,2,none⟩=some (Nv y)/\w'.cell? ⟨w.heap.size,3,none⟩=some (Sv st)/\w'.cell? ⟨w.heap.size,4,none⟩=some (Fv tx<|Av ax)) qkr ⟨f0,f1,f2,f3,f4,f5⟩<|λhHeld=>?_;refine oh 0 ?_;try simp only[vw,q9,xf,xg]
 refine oh 2 ?_;try simp only[vw,q9,xf,xg]
 refine oh 3 ?_;try simp only[vw,q9,xf,xg]
 refine oh 4 ?_;try simp only[vw,q9,xf,xg]
 refine oh 5 ?_;try simp only[vw,q9,xf,xg]
 refine oh 6 ?_;try simp only[vw,q9,xf,xg]
 refine wpAnyH_ready (rs:=[1]) qkr ah ?_;refine AllReadyH.cons rfl (λK hK=>?_) AllReadyH.nil;go_simp;refine hK.out _ _ GS<|λah4=>?_;clear hK K hHeld f0 f1 f2 f3 f4 f5;refine wpAnyH_ready (rs:=[7]) qkr ah ?_;refine AllReadyH.cons rfl (λK hK=>?_) AllReadyH.nil;go_simp;refine HB.mono ?_;intro e w2 hp;clear HB ah4 GS;obtain⟨aw,z,vl,vr,rfl,q⟩|⟨aw,T1,s1,ND,NE,nj,rfl,q⟩:=hp.split
 .exact((uh HA).ok _ q.m).elim
 have h:=uh HA;have Vs:=zE.fr q.F ae;refine hK.out _ _ ⟨q.we.bx.c 3,Vs.c 0,Vs.c 1,Vs.c 2,Vs.c 3,Vs.c 4⟩<|λah5=>?_;clear hK K;refine oh 8 ?_;try simp only[vw,q9,xf,xg]
 refine oh 9 ?_;try simp only[vw,q9,xf,xg]
 refine oh 10 ?_;try simp only[vw,q9,xf,xg]
 refine oh 11 ?_;try simp only[vw,q9,xf,xg]
 refine oh 12 ?_;try simp only[vw,q9,xf,xg]
 refine wpAnyH_done qkr ?_ _;clear ah5;have VE:=Ce.fr q.F ae;have⟨kp2,ti2⟩:=In.oj false st x (qx c.mks x) Γ ⟨vj,u⟩ (λn=>¬u n) (qv u) (λn r=>r) h.wt.top.env T1 s1 q.m;have c1:=q.c1;have c2:=q.c2;have fta:=h.ft.a;have ftb:=h.ft.b;have us2:∀n,s1.u n->us aw n:=λn p=>by obtain r|r:=q.u n p;have:=h.wt.hu n r;unfold us at*;omega;unfold us;omega
 have wk2:WK w2 c aw s1 nj:=⟨q.k,q.n,us2,kp2.ok,q.wh⟩;have hf:=wk2.aep ae<|zn trivial;have HO:=Fy wk2.k wk2.n hf ae q.t;have hcz:=q.t.aeq hf ae;have XW:=dn _ q.t.wh λn _=>q.wh n;have Q2:=ai q;have FF2:=((Fr.of K01).trans q.F);have zc2:=q.we.fX;have zq2:=VE.z;clear hp q h wk2 hf Ce zE;go_wp2_with fail;refine HO.mono ?_;rintro e w3⟨u3,rfl,hu3,K3⟩;clear HO;have HS:=pk _ w3 _ _ hu3 hcz;obtain⟨n1,wY⟩:∃n,n=sz (bN<|sub s1.k T1):=⟨_,rfl⟩;rw[<-wY]at HS;have E1:=Fz (sub s1.k T1) XW;rw[<-wY]at E1;obtain⟨t3,x3,rfl⟩:=hu3.iface;have U3:=hu3.wide (Q:=fh c) λi p=>by obtain p|p:=p;exact p;show i≠c.cb;omega
 clear hu3 wY;go_wp2_with fail;refine HS.mono ?_;rintro e w4⟨rfl,k4⟩;clear HS;have K4:=K3.trans<|k4.mono K3.size;have U4:=U3.af k4;clear k4 K3 U3;have hs:size (sub s1.k T1)<=48:=(uh HA).ok _ Q2.m;have hm:¬(48:Int)<(n1:Int):=by have:=E1.1;omega
 have MJ:=E1.2 hs;rw[MJ]at U4;clear MJ E1 hcz;have hwT:=XW;have h:=uh HA;have FF4:=FF2.trans<|Fr.of K4;have HV:=tP x h.sc.k w4 Q _<|h.pe.move FF4.size (λb p z=>FF4.block b z (h.hq b p).1)<|λ_ p _=>p;have⟨b1,b2,b3⟩:=Vs.below K4;clear h FF4;go_wp2_with fail;refine HV.mono ?_;rintro e w5⟨rfl,k5⟩;have K5:=K4.trans<|k5.mono K4.size;have U5:=ai<|U4.af k5;clear HV k5 b1 b2 b3 U4 K4;have h:=uh HA;have FF5:=FF2.trans<|Fr.of K5;have we5:=Q2.we.af K5;have fb5:=VE.below K5;have nm5:=Vs.below K5;have nee:¬c.eb=w.heap.size:=ae;have neb:¬c.eb=w.heap.size+1:=ae;have akX:bR w5 (λi=>i≠c.cb/\i≠c.eb/\i≠w.heap.size+1) c.nb Γ:=h.wt.e.move FF5.size (FF5.block _ h.wt.e.lt h.wt.n.1) (λb p z=>FF5.block b z p.1)<|λb p z=>⟨p.1,p.2,ae⟩;have TOP:∀T:Ty,T=(if qm x then sub s1.k T1 else j6 (sub s1.k T1))->In.Tm ⟨vj,s1.u⟩ (jj Γ st ⟨T,vars [] T⟩):=λT hT y d hd=>by
  unfold jj at hd;split at hd
  .injection hd with hd;subst hd;refine⟨rfl,λv hv=>?_⟩;have hv:=In.bM.1 hv;rw[hT]at hv;split at hv
   .exact⟨(kp2.ok.IK ti2.use hv).1,rfl⟩
   .have⟨m,_,o⟩:=(In.bI _).1 hv;simp[aG,ck]at o
  .exact⟨(h.wt.top y d hd).1,λv hv=>⟨kp2.run.mono v ((h.wt.top y d hd).2 v hv).1,rfl⟩⟩
 have DM:∀d z,jj Γ st d z≠none->z∈c.nl:=λd z hz=>by
  unfold jj at hz;split at hz
  .rename_i e;rw[e];exact h.lF
  .exact h.wt.dm z hz
 have WE5:=ai we5;have FB5:=ai fb5;have NM5:=ai nm5;have am4:=ai akX;have am5:=ai FF5;clear h FF5 we5 fb5 nm5 akX Vs VE FF2 kp2 ti2 XW
 cases hV:qm x with
 |true=>
  have hnt:(Op.unary .not<|.bool true).run vh w5=.ok (.bool false) w5:=rfl;obtain⟨T,hT⟩:∃T,T=sub s1.k T1:=⟨_,rfl⟩;have HVT:Hid (T=if qm x=true then sub s1.k T1 else j6 (sub s1.k T1)):=ai (by rw[hV,hT];rfl);obtain⟨tz,xz,hz⟩:∃tz xz,tz=t3/\xz=x3:=⟨_,_,rfl,rfl⟩;obtain⟨rfl,rfl⟩:=hz;have hTs:size T<=48:=by rw[hT];exact hs
  have hTw:Whole T:=by rw[hT];exact hwT
  have TZ:Hid (dA w5 (fh c) T<|Fv tz xz):=by rw[hT];exact U5
  have KW:Hid (Bq w5 w5):=ai<|vf _ _;clear hV hT U5;obtain⟨wz,hz⟩:∃wz,wz=w5:=⟨_,rfl⟩;subst hz;go_wp2_with fail;have nm:=NM5.below KW;have fb:=FB5.below KW;have we:=WE5.af KW;have env:=am4.af KW;have tt:dA wz (λi=>i≠c.cb/\i≠c.eb/\i≠w.heap.size+1) T (Fv tz xz):=((TZ.not (we.bx.c 0) ah).not (fb.c 0) ah).wide λi p=>⟨p.1.1,p.1.2,p.2⟩;have HVA:Hid (∀W':World,Bq wz W'->Cq 276 #[Fv tz xz] W' (λe w'=>∃sa sc,e=Rv (Lv sa (vars [] T).length sc)/\JW w' (λi=>i≠c.cb/\i≠c.eb/\i≠w.heap.size+1) sa (vars [] T)/\Bq W' w')):=ai λW' hb=>by
   refine(kM (tt.af hb) ae).mono ?_;rintro e w'⟨V,rfl,ho,k⟩;obtain⟨sa,sc,rfl,hr⟩:=JX ho;exact⟨sa,sc,rfl,hr.move (br _) (λ_ _ _=>rfl) (λi p _=>by have:=hb.size;have:=KW.size;have:=FB5.z;omega),k⟩
  have HWI:Hid (∀(W':World)(sa:Option Addr)(sc:Nat),Bq wz W'->JW W' (λi=>i≠c.cb/\i≠c.eb/\i≠w.heap.size+1) sa (vars [] T)->Cq 275 #[Mv c.nb,Sv st,Av #[Fv tz xz,Lv sa (vars [] T).length sc]] W' (FC (λi=>i≠c.cb/\i≠c.eb/\i≠w.heap.size+1) (jj Γ st ⟨T,vars [] T⟩) W')):=ai λW' sa sc hb hr=>Sy (env.af hb) st ⟨tz,xz,sa,sc,rfl,TW.of (tt.af hb) hTw<|show size T<=_ by omega,hr⟩;have f0:wz.cell? ⟨c.eb,3,none⟩=some (Mv c.nb):=we.bx.c 3;have f1:wz.cell? ⟨w.heap.size,3,none⟩=some (Sv st):=nm.c 3;have NM:=ai nm;have FB:=ai fb;have WEW:=ai we;have TT:=ai tt;clear nm fb we env tt;refine wp_region_noPanic ?_
  go_region_with(first
   |(go_at_call 276;go_loud(refine(HVA _ (vf _ _).drew).mono ?_);rintro e w6⟨sa,sc,rfl,hr6,k6⟩;have V7:=(vf _ _).drew.trans k6;have g0:w6.cell? ⟨c.eb,3,none⟩=some (Mv c.nb):=(WEW.af V7).bx.c 3;have g1:w6.cell? ⟨w.heap.size,3,none⟩=some (Sv st):=(NM.below V7).c 3;have K6:=ai V7;have R6:=ai hr6;clear k6 V7 hr6)
   |(go_at_call 275;go_loud(refine(HWI _ _ _ K6 R6).mono ?_);rintro e w7⟨b7,rfl,z7,h7,k7⟩;have k7':=K6.trans<|k7.mono K6.size;have g2:w7.cell? ⟨c.eb,3,none⟩=some (Mv c.nb):=(WEW.af k7').bx.c 3;have g3:w7.cell? ⟨w.heap.size,3,none⟩=some (Sv st):=(NM.below k7').c 3;have g4:w7.frozen? ⟨c.eb,3,none⟩=false:=(WEW.af k7').bx.f 3;have K7:=ai k7';have E7:=ai h7;have Z7:=ai z7;clear k7 k7' h7 z7))
  all_goals(
   refine NoPanic.normal ?_;have fb7:=FB.below K7;have FB7:=ai fb7;obtain⟨y1,y2,y3⟩:=fb7;go_wp2_with fail;have z7:=uh Z7;have z6:=K6.size;have zw:=FB.z;have l5:=HA.wt.we.l.2.2.2.2;have F8:=(FB7.bJ (b2:=c.eb) ae 3<|Mv b7).Sz rfl (Iv 0) (Iv 0) (Iv 0) Zv .nilIface;have we7:=WEW.af K7;have E8:=(((((we7.bx.aP 3 (Mv b7) (ahn {c with nb:=b7}) rfl ah).bJ (b2:=w.heap.size+1) ae 0 (Iv 0)).bJ (b2:=w.heap.size+1) ae 1 (Iv 0)).bJ (b2:=w.heap.size+1) ae 2 (Iv 0)).bJ (b2:=w.heap.size+1) ae 3 Zv).bJ (b2:=w.heap.size+1) ae 4 .nilIface;have G8:=((((((Fr.refl (λi=>i=c.eb\/i=w.heap.size+1) w7).set (b:=c.eb) (zt<|zt rfl) 3<|Mv b7).set (b:=w.heap.size+1) (zt<|zn rfl) 0<|Iv 0).set (b:=w.heap.size+1) (zt<|zn rfl) 1<|Iv 0).set (b:=w.heap.size+1) (zt<|zn rfl) 2<|Iv 0).set (b:=w.heap.size+1) (zt<|zn rfl) 3 Zv).set (b:=w.heap.size+1) (zt<|zn rfl) 4 .nilIface;refine leaves_cons (f:=268) (args:=#[Pv<|w.heap.size+1]) ah qBb ?_;refine(aer<|w.heap.size+1).mono ?_;rintro e u' w9⟨rfl,rfl,rfl⟩;obtain⟨c9,_,_⟩:=F8;simp[Leaves,settle,results,Tryz.results266,go_sem,c9];have k7:=uh K7;have FW:=am5.trans<|Fr.of KW
   refine⟨((FW.gL λ_ r=>zt r).trans<|Fr.of k7).iH G8<|λi r=>r.elim (λr=>zt<|zn r)<|λr=>zn ae,.ok (T1,s1),Q2.m,⟨hs,T,tz,xz,aw,b7,HVT,rfl,(TT.af k7).move G8.size (λb p z=>G8.block b z<|λr=>r.elim p.2.1 p.2.2)<|λb p _=>p.1,hTw,ae,?_⟩⟩
   exact⟨we7.put (G8.gL λi r=>r.imp id λr=>ae) E8,E7.move G8.size (G8.block _ E7.lt ae) (λb p z=>G8.block b z<|λr=>r.elim p.2.1 p.2.2)<|λb p _=>⟨p.1,p.2.1⟩,⟨by show b7≠c.cb;omega,by show b7≠c.eb;omega⟩,us2,TOP T HVT,DM _⟩)
 |false=>rw[uh HV9]at hV;cases hV
end
def QTy:EQ Ty:=λw P t c=>eN w P t<|c 0
def im:cu QTy:=by grind[cu,QTy,eN.move]
def vsT(j:Nat):List Ty:=(zh j).map λi=>.var<|i+1
def Zu j:vsT (j+1)=vsT j++[.var<|j+1]:=by simp[vsT,List.range_succ]
def pd j:(vsT j).length=j:=by simp[vsT]
def Ru{s:BA}:∀{ns:List BA},s∉ns->ix s ns=ns.length/\ix s (ns++[s])=ns.length
 |[],_=>⟨rfl,by simp[ix]⟩|a::ns,h=>by
  have h1:¬a.toList=s.toList:=λe=>h (by rw[show a=s from by have:=congrArg List.toArray e;cases a;cases s;simp_all[ByteArray.toList_eq]];simp);have⟨h2,h3⟩:=Ru (s:=s) (ns:=ns)<|λq=>h qBf;simp[ix,h1,h2,h3]
def Fr.grown{S}{a}{row}(h:Fr S a W)(hg:W.grownBy w' row)(hr:∀b,row=some b->S b\/a.heap.size<=b):Fr S a w':=
 ⟨hg.os.trans h.os,hg.tape.trans h.tape,hg.output.trans h.output,zv h.size hg.size,λk hk hn=>(hg.block k (zu hk h.size) (λe=>by obtain q|q:=hr k e.symm;exact hn q;omega)).trans (h.block k hk hn)⟩
def db.ty{c}{L:List Ty}(hc:m0 c)(h:db QTy 98 1 w base va vc L):eN w (λb=>base<=b) (.aM c L) (.iface 260<|.agg #[.string c,.slice va L.length vc]):=by
 have⟨nk,np,cs,e,aE,hq⟩:=h.v im;injection e with e1 _ e2;subst e1 e2;have:=eN.aM (w:=w) (P:=λb=>base<=b) c L va vc (λi=>cs i 0) (zn<|zn hc) (aE.imp id λ⟨g,q1,q2,q3,q4⟩=>⟨g,q1,q2,q3,λi hi=>by simpa using q4 i hi 0 aA⟩) (λi hi=>hq i hi)
 rwa[fG hc]at this
def db.amy{L:List Ty}(h:db QTy 98 1 w base va vc L):Zw w (λb=>base<=b) va L:=by
 have⟨nk,np,cs,e,aE,hq⟩:=h.v im;injection e with e1 _ e2;subst e1 e2;exact aE.imp id λ⟨g,q1,q2,q3,q4⟩=>⟨g,λi=>cs i 0,q1,q2,q3,λi hi=>⟨by simpa using q4 i hi 0 aA,hq i hi⟩⟩
def rQ:Tryz.prog.underlying 150=some (.map 9 421):=qkr
def vS{a}(hg:o.guard=none)m x v(tI:o.op=Op.insert 150 m x v\/o.op=Op.mapUpdate 150 m x v)(hm:a.eval m=Mv b)(h:mH w P b mk)(hP:¬P b){tk}{mt}(hc:Zx w P tk mt u)n(hx:a.eval x=.string n)(hv:a.eval v=u)(hK:∀w',mH w' P b (λy=>if y=n then some (tk,mt)else mk y)->One b w w'->wpList vh ops F rest (a.put o.dst undef) w'):
 wpList vh ops F (o::rest) a w:=by
 obtain⟨L,h1,h2,h3⟩:=h;refine cK KLS rQ hg m x v tI hm h1 n u hx hv λw' hM o=>hK w' ⟨_,hM,λy hy=>?_,λy z hy=>?_⟩ o
 .rw[aN]at hy;by_cases e:n=y
  .grind
  .grind
 .have mv:∀{tk m v},Zx w P tk m v->Zx w' P tk m v:=λh=>h.move qAg (λx p _=>o.block x<|λe=>hP<|e▸p)<|λ_ p _=>p;rw[aN]at hy;by_cases e:n=y
  .grind
  .grind
def zI(t:vk)(vs:List vk)(m:Nd):∀(l:List Nd)(mk:ji),jk t vs (l++[m]) mk=λy=>if y=qr m then some (In.Zy (vs.map (·.text)) m,qe t vs)else jk t vs l mk y
 |[],mk=>rfl|x::l,mk=>by
  show jk t vs (l++[m]) _=_;rw[zI t vs m l];rfl
def Rw ns(L:List Nd):=L.map λx=>(eJ ns x).1
def Zz{ns:List BA}:∀{L:List Nd},(∀k(hk:k<L.length),(eJ ns L[k]).2=ns/\eJ ns (es L[k])=eJ ns L[k])->bC ns (Hz L)=(Rw ns L,ns)
 |[],_=>rfl|x::l,h=>by
  have⟨h1,h2⟩:=h 0 ah;have h1:(eJ ns x).2=ns:=h1;have h2:eJ ns (es x)=eJ ns x:=h2;have h3:=Zz (L:=l) λk hk=>h (k+1) bi;simp[Hz,bC,h2,h1,h3,Rw]
def ZA(h:k<L.length):Rw ns (L.take<|k+1)=Rw ns (L.take k)++[(eJ ns L[k]).1]:=by
 rw[Rw];rw[xh h,List.map_append];rfl
def adW(h:k<=L.length):(Rw ns<|L.take k).length=k:=by grind[Rw]
def amz w7 B p4 mm kb fb cb mb(t:vk)(vs:List vk)(ms:List Nd)va vc gk v wr:=
 ∃(j:Nat),Hid (gk=ms.length-j)/\j<=ms.length/\v=Nv j/\NM wr kb fb cb mb (vs.map (·.text))/\Bx wr p4 #[.string t.text,.slice va vs.length vc]/\eN wr (λi=>B<=i/\i≠cb/\i≠mb/\i≠mm) (qe t vs) (.iface 260<|.agg #[.string t.text,.slice va vs.length vc])/\mH wr (λi=>B<=i/\i≠cb/\i≠mb/\i≠mm) mm (jk t vs (ms.take j) λ_=>none)/\Fr (λi=>i=cb\/i=mb\/i=mm) w7 wr
def amA w8 p10 kb fb cb mb(vs:List vk)(L:List Nd)mv gk v wr:=
 ∃(j:Nat)(va:Option Addr)(vc:Nat),Hid (gk=L.length-j)/\j<=L.length/\v=Nv j/\NM wr kb fb cb mb (vs.map (·.text))/\Bx wr p10 #[.slice va j vc,mv]/\db QTy 98 1 wr w8.heap.size va vc (Rw (vs.map (·.text))<|L.take j)/\Fr (λi=>i=cb\/i=mb\/i=p10) w8 wr
def amB w0 p4 kb fb cb mb(t:vk)(vs:List vk)gk v wr:=
 ∃(j:Nat)(va:Option Addr)(vc:Nat),Hid (gk=vs.length-j)/\j<=vs.length/\v=Nv j/\NM wr kb fb cb mb ((vs.map (·.text)).take j)/\Bx wr p4 #[.string t.text,.slice va j vc]/\db QTy 98 1 wr w0.heap.size va vc (vsT j)/\Fr (λi=>i=cb\/i=mb\/i=p4) w0 wr
def I6{t}{f u}(hv:RowV QName 3 w P vs vv)(hm:RowV QMaker 6 w P ms vm)(hd:TdF t vs ms):
 Calls vh 278 #[.agg #[.int .i64 f,.int .i64 u,.int .i64 (t.aD:Int),.int .i64 (t.t9:Int),.string t.text,vv,vm]] w (λe w'=>∃b,e=.returned (.map<|some b)/\Below w.heap.size w w'/\w.heap.size<=b/\mH w' (λi=>w.heap.size<=i) b (jk t vs ms λ_=>none)):=by
 obtain⟨pa,pc,cs,rfl,HR,HQ⟩:=hv;obtain⟨ma,mc,ds,rfl,HRM,HQM⟩:=hm;have hl:=hd.vl;have g_:= @run_makeMap Tryz.prog;have⟨i0,m6,ku,gS,gC⟩:=info_parts iP;have⟨k0,B0⟩:=Hu w #[.int .i64 f,.int .i64 u,.int .i64 (t.aD:Int),.int .i64 (t.t9:Int),Sv t.text,Lv pa vs.length pc,Lv ma ms.length mc] 95;have K0:=ai k0;clear k0;go_enter func278,ntmps278;go_wp2_with fail;refine(EH).mono ?_;rintro e w1⟨rfl,ud⟩;have k1:Below (w.alloc<|Cv #[.int .i64 f,.int .i64 u,.int .i64 (t.aD:Int),.int .i64 (t.t9:Int),Sv t.text,Lv pa vs.length pc,Lv ma ms.length mc] 95).heap.size (w.alloc<|Cv #[.int .i64 f,.int .i64 u,.int .i64 (t.aD:Int),.int .i64 (t.t9:Int),Sv t.text,Lv pa vs.length pc,Lv ma ms.length mc] 95) w1:=by rw[ud];exact bw _
 have C1:Bx w1 (w.heap.size+1) #[.int .i64 0]:=by rw[ud];have:=v9 (w.alloc<|Cv #[.int .i64 f,.int .i64 u,.int .i64 (t.aD:Int),.int .i64 (t.t9:Int),Sv t.text,Lv pa vs.length pc,Lv ma ms.length mc] 95) #[.int .i64 0] 3;simpa using this
 have B1:=B0.below k1;have K1:=K0.trans<|k1.mono K0.size;have HN:=adX _ C1;have YC:w1.heap.size=w.heap.size+2:=by rw[ud];simp
 clear ud k1 C1 B0 K0;go_wp2_with fail;refine HN.mono ?_;rintro e w2⟨kb,fb,mb,rfl,nm,k2,zmb⟩;clear HN;have⟨b1,b2,b3⟩:=B1.below k2;have K2:=K1.trans<|k2.mono K1.size;have B2:=B1.below k2;have NM2:=ai nm;have⟨y1,y2,y3,y4⟩:=nm.lt;have zz2:=B2.z;have zc1:=K1.size;clear nm k2 B1;go_wp2_with fail;obtain⟨w3,rC⟩:∃w3,w3=w2.alloc (Cv #[Sv t.text,Lv none 0 0] 260):=⟨_,rfl⟩;have k3:Below w2.heap.size w2 w3:=by rw[rC];exact bw _
 have P3':Bx w3 w2.heap.size #[Sv t.text,Lv none 0 0]:=by rw[rC];exact v9 w2 #[Sv t.text,Lv none 0 0] 260
 have z3:w3.heap.size=w2.heap.size+1:=by rw[rC];simp
 have NM3:=NM2.af k3;have B3:=B2.below k3;have K3:=K2.trans<|k3.mono K2.size;rw[<-rC];clear rC k3 NM2 B2 K2;go_loopg[22] vs.length (λgk v wr=>amB w3 w2.heap.size kb fb (w.heap.size+1) mb t vs gk v wr)
 case atStart=>exact⟨0,none,0,ai ah,zy _,rfl,by simpa using NM3,P3',by simpa[vsT]using db.nil QTy 98 1 w3 w3.heap.size,Fr.refl _ _⟩
 case round=>
  obtain⟨j,va,vc,bE,hj,rfl,nm,p4,ro,FR3⟩:=hrel;have zr:=FR3.size;by_cases aI:j<vs.length
  .have aZ:(j:Int)<(vs.length:Int):=ae;have Cz:(0:Int)<=(j:Int):=ae;obtain⟨g,rfl,hPg,mn,bX⟩:=HR.resolve_left<|λe=>qBs;obtain⟨q0,q1,q2,amC,-⟩:=HQ j aI;have jE:∀o,wr.cell? ⟨g,o,none⟩=w.cell? ⟨g,o,none⟩:=λo=>(vd (a:=⟨g,o,none⟩)<|FR3.block g (by have:=K3.size;omega) ae).trans<|vd (a:=⟨g,o,none⟩)<|K3.block g mn;have d0:wr.cell? ⟨g,j*3,none⟩=some (.int .i64 (vs[j].aD:Int)):=by rw[jE];exact(bX j aI 0 aA).trans (congrArg some q0)
   have d1:wr.cell? ⟨g,j*3+1,none⟩=some (.int .i64 (vs[j].t9:Int)):=by rw[jE];exact(bX j aI 1 aA).trans (congrArg some q1)
   have d2:wr.cell? ⟨g,j*3+2,none⟩=some (Sv<|tl vs[j].text):=by rw[jE];exact(bX j aI 2 aA).trans (congrArg some q2)
   obtain⟨s,hs⟩:∃s,s=vs[j].text:=⟨_,rfl⟩;have hsn:s∉(vs.map (·.text)).take j:=by
    have hn:=hd.vn;have e:(vs.map (·.text))=(vs.map (·.text)).take j++(vs.map (·.text)).drop j:=(xw _ _).symm;rw[e,List.nodup_append]at hn;intro q;refine hn.2.2 s q s ?_ rfl;rw[xd (show j<(vs.map (·.text)).length by simpa using aI),hs];simp
   have hln:((vs.map (·.text)).take j).length=j:=bi;have hix:=Ru hsn;have had:pK s ((vs.map (·.text)).take j)=(vs.map (·.text)).take (j+1):=by
    rw[pK];rw[hix.1,if_neg ae,xh (show j<(vs.map (·.text)).length by simpa using aI),hs];simp
   have aki:ix s (pK s ((vs.map (·.text)).take j))=j:=by
    rw[pK];rw[hix.1,if_neg ae,hix.2,hln]
   have HNA:∀W:World,Below wr.heap.size wr W->Calls vh 307 #[Sv<|tl s,.pointer<|some ⟨kb,0,none⟩,.pointer<|some ⟨fb,0,none⟩] W (λe w'=>e=Rv (Fv 248<|.int .i64<|(j:Int)+1)/\NM w' kb fb (w.heap.size+1) mb ((vs.map (·.text)).take<|j+1)/\Fr (Two (w.heap.size+1) mb) W w'):=λW hb=>by
    refine(I7 (nm.af hb) s (by rw[hs];exact amC) ae).mono ?_;rintro e w'⟨rfl,h2,h3⟩;rw[aki,had]at*;exact⟨rfl,h2,h3⟩
   rw[<-hs]at d2;obtain⟨fr0,akj⟩:∃x:Int,x=(vs[j].aD:Int):=⟨_,rfl⟩;obtain⟨to0,akk⟩:∃x:Int,x=(vs[j].t9:Int):=⟨_,rfl⟩;rw[<-akj]at d0;rw[<-akk]at d1;have⟨y1,y2,y3,y4⟩:=nm.lt;have⟨n1,n2,n3,n4,n5⟩:=nm.d1;have P4:=ai p4;have RO:=ai ro;obtain⟨x1,x2,x3⟩:=p4;have zp:=x3;have kA:Below wr.heap.size wr (wr.alloc<|Cv #[.int .i64 fr0,.int .i64 to0,Sv<|tl s] 71):=bw _;obtain⟨wA,xH⟩:∃wA,wA=wr.alloc (Cv #[.int .i64 fr0,.int .i64 to0,Sv<|tl s] 71):=⟨_,rfl⟩;have A1:wA.cell? ⟨w2.heap.size,1,none⟩=some (Lv va j vc):=by rw[xH];exact((uh P4).below kA).c 1
   have A2:wA.cell? ⟨wr.heap.size,2,none⟩=some (Sv<|tl s):=by rw[xH];exact(v9 wr #[.int .i64 fr0,.int .i64 to0,Sv<|tl s] 71).c 2
   rw[<-xH]at kA;have KA:=ai kA;clear nm bX q0 q1 q2 jE hix aki had hsn akj akk hs ro kA hln;go_wp2_with fail;rw[<-xH];clear xH d0 d1 d2 x1 x2;have⟨cs',OW,HPE⟩:=uh RO;rw[pd]at OW;have ME:=cN OW;have zKA:=(uh KA).size;have np4:¬w2.heap.size=w.heap.size+1:=ae;have np5:¬w2.heap.size=mb:=ae
   go_region_law(first
    |(go_simp;go_at_call 307;go_loud(refine(HNA _ KA.drew).mono ?_);rintro e w5⟨rfl,nm5,F5⟩;have B5:=(P4.below KA.drew).fr F5<|λq=>q.elim np4 np5;have A5:w5.cell? ⟨w2.heap.size,1,none⟩=some (Lv va j vc):=B5.c 1;have O5:Hid (w5.ownsRow w3.heap.size 98 1 (Lv va j vc) j<|bL cs' 1 j):=ai (lK OW λg hg=>(F5.block g (zu (ME g hg).2 KA.drew.size) (λq=>by have:=(ME g hg).1;obtain q|q:=q<;>omega)).trans<|KA.drew.block g (ME g hg).2);have BB5:=ai B5;have NM5:=ai nm5;have F5':=ai F5;have z5:wA.heap.size<=w5.heap.size:=F5.size;have z25:w2.heap.size<w5.heap.size:= ae;clear B5 nm5 F5;dsimp only)
    |(refine fk rfl (.tmp 27) (.tmp 32) 258 rfl w3.heap.size 98 i0 _ 1 16 fI m6 ku gS gC rfl aA (Lv va j vc) j _ rfl (gT O5<|bw _) ⟨w5.heap.size,0,none⟩ 1 1 [Fv 248<|.int .i64<|(j:Int)+1] rfl rfl (nS _ _ _ _ ah) qAn NR ae (by simp;have:=KA.size;omega) ?_;intro v6 w6 nT I8 vU;obtain⟨q3,c3,rfl⟩:=rR nT ae;have ZB:=BB5.below<|bw<|Cv #[Fv 248<|.int .i64<|(j:Int)+1] 98;have B6:=ZB.same I8.size (I8.block _ ZB.z (λe=>by have:=(ME _ e.symm).1;omega));have A6:w6.cell? ⟨w2.heap.size,1,none⟩=some (Lv va j vc):=B6.c 1;have A7:w6.frozen? ⟨w2.heap.size,1,none⟩=false:=B6.f 1;have BB6:=ai B6;have OW6:=ai nT;have HG6:=ai I8;have HL6:=ai vU;clear nT I8 vU ZB B6))
   all_goals(
    go_wp2
    go_roundg(vs.length-(j+1))
    case measure=>rw[uh bE];omega
    case rel=>
     have kA:=(uh KA).drew;have F5:=uh F5';have hg:=uh HG6;have k5:Below w5.heap.size w5 (w5.alloc<|Cv #[Fv 248<|.int .i64<|(j:Int)+1] 98):=bw _;have F56:=(Fr.of k5).grown hg<|λb e=>zt (ME b e).1;have zA:=kA.size;refine⟨j+1,some ⟨q3,0,none⟩,c3,ai rfl,zx aI,d_,((uh NM5).fr F56<|λb p=>ae).set ae 1 _,(uh BB6).aP 1 _ #[Sv t.text,Lv (some ⟨q3,0,none⟩) (j+1) c3] rfl ah,?_,?_⟩
     .rw[Zu];have PU:=db.push (Q:=QTy) (et:=98) (sz:=1) (base:=w3.heap.size) (va:=va) (vc:=vc) (L:=vsT j) (w1:=w5) (W:=w5.alloc<|Cv #[Fv 248<|.int .i64<|(j:Int)+1] 98) (w3:=w6) (lo:=w5.heap.size) (q3:=q3) (c3:=c3) (a:=.var<|j+1) (c:=λ_=>Fv 248<|.int .i64<|(j:Int)+1) (cs:=cs') im
       (λi hi=>im _ _ _ _ _ _ (HPE i hi) ae (λb p z=>(F5.block b ae (λq=>by have:=p.1;obtain q|q:=q<;>omega)).trans<|kA.block b z)<|λb p z=>⟨p.1,ae,p.2.2⟩)
       (by have:=eN.var (w:=w5) (P:=λb=>w5.heap.size<=b)<|j+1;show eN _ _ _ _;simpa using this) ae (λb e=>by rw[pd]at e;have:=(ME b e).2;omega) k5 (by rw[pd];exact uh OW6) (by rw[pd];exact hg) (by rw[pd];exact uh HL6)
      exact PU.pL im yG (λb h1 h2=>vg _ _ _ _ (by show b≠w2.heap.size;omega))
     .have Fa:=(FR3.trans<|Fr.of kA).trans<|F5.gL λi q=>q.elim zt<|λr=>zn<|zt r
      exact((Fa.trans<|Fr.of k5).grown hg<|λb e=>zn (ME b e).1).set (zt<|zn<|zn rfl) 1 _)
  .obtain⟨wx,hx⟩:∃wx,wx=wr:=⟨_,rfl⟩;subst hx;have aZ:decide ((j:Int)<(vs.length:Int))=false:=bi;have ej:j=vs.length:=ae;subst ej;rw[show(vs.map (·.text)).take vs.length=vs.map (·.text)from by rw[List.take_of_length_le];simp]at nm;have ms0:=ro.ty hd.up;rw[pd]at ms0;have zp:=p4.z;obtain⟨wm,hwm⟩:∃wm,wm=wx.alloc (.map #[] 0):=⟨_,rfl⟩;have km:Below wx.heap.size wx wm:=by rw[hwm];exact bw _
   have zm:wm.heap.size=wx.heap.size+1:=by rw[hwm];simp
   have MK0:mH wm (λi=>w.heap.size<=i/\i≠w.heap.size+1/\i≠mb/\i≠wx.heap.size) wx.heap.size (jk t vs (ms.take 0) λ_=>none):=(by rw[hwm];exact⟨[],MG.new _ wx,λ_ _=>rfl,λx v h=>qBg⟩);have kr:Below w.heap.size w wx:=⟨FR3.os.trans K3.os,FR3.tape.trans K3.tape,FR3.output.trans K3.output,zv K3.size FR3.size,λk hk=>(FR3.block k (by have:=K3.size;omega) ae).trans<|K3.block k hk⟩;have BD:=(B3.fr FR3 ae).below km;have⟨b1,b2,b3⟩:=B3.fr FR3 ae;have NMm:=nm.af km;have P4m:=p4.below km;have MSm:eN wm (λi=>w.heap.size<=i/\i≠w.heap.size+1/\i≠mb/\i≠wx.heap.size) (qe t vs) (Fv 260<|Av #[Sv t.text,Lv va vs.length vc]):=(ms0.move km.size (λb _ z=>km.block b z)<|λb p z=>⟨ae,ae,ae,ae⟩);have KM:=kr.trans<|km.mono kr.size;have⟨n1,n2,n3,n4,n5⟩:=nm.d1;have hml:=hd.ml;clear nm p4 ro ms0 km kr;go_wp2_with fail;rw[<-hwm];clear hwm b1 b2 b3;go_loopg[40] ms.length (λgk v wq=>amz wm w.heap.size w2.heap.size wx.heap.size kb fb (w.heap.size+1) mb t vs ms va vc gk v wq)
   case atStart=>exact⟨0,ai ah,zy _,rfl,NMm,P4m,MSm,MK0,Fr.refl _ _⟩
   case round=>
    clear NMm P4m MSm MK0;obtain⟨i,aho,hi,rfl,nm,p4,MKq,MWq,FMq⟩:=hrel;have zq:=FMq.size;by_cases XX:i<ms.length
    .have ahj:(i:Int)<(ms.length:Int):=ae;have akl:(0:Int)<=(i:Int):=ae;obtain⟨wq,hx⟩:∃wq,wq=wr:=⟨_,rfl⟩;subst hx;have⟨s,n,L,f',u',a',HEM,UU,HLT⟩:=hd.mt i XX;obtain⟨gm,rfl,hPm,hmz,U0⟩:=HRM.resolve_left (λe=>by subst e;simp at XX);have⟨s2,m2,L2,f2,t2,a2,y2,vL,e0,e1,e2,e3,e4,e5,e6,Ir,hy2,hRL⟩:=HQM i XX;have e0':=HEM.symm.trans e0;injection e0' with q1 q2 q3 q4 q5 q6 q7;subst q2 q4;obtain⟨la,lc,el,rfl,HRL,hqL⟩:=hRL;have jE:∀o,wq.cell? ⟨gm,o,none⟩=w.cell? ⟨gm,o,none⟩:=λo=>(vd (a:=⟨gm,o,none⟩)<|FMq.block gm (by have:=KM.size;omega) ae).trans<|vd (a:=⟨gm,o,none⟩)<|KM.block gm hmz;have d0:wq.cell? ⟨gm,i*6,none⟩=some (.int .i64 (f2:Int)):=by rw[jE];exact(U0 i XX 0 aA).trans (congrArg some e1)
     have d1:wq.cell? ⟨gm,i*6+1,none⟩=some (.int .i64 (t2:Int)):=by rw[jE];exact(U0 i XX 1 aA).trans (congrArg some e2)
     have d2:wq.cell? ⟨gm,i*6+2,none⟩=some (.int .i64 (a2:Int)):=by rw[jE];exact(U0 i XX 2 aA).trans (congrArg some e3)
     have d3:wq.cell? ⟨gm,i*6+3,none⟩=some (.int .i64 (y2:Int)):=by rw[jE];exact(U0 i XX 3 aA).trans (congrArg some e4)
     have d4:wq.cell? ⟨gm,i*6+4,none⟩=some (Sv s):=by rw[jE];exact(U0 i XX 4 aA).trans (congrArg some e5)
     have d5:wq.cell? ⟨gm,i*6+5,none⟩=some (Lv la L.length lc):=by rw[jE];exact(U0 i XX 5 aA).trans (congrArg some e6)
     obtain⟨w8,hw8⟩:∃w8,w8=(wq.alloc<|Cv #[.int .i64 (f2:Int),.int .i64 (t2:Int),.int .i64 (a2:Int),.int .i64 (y2:Int),Sv s,Lv la L.length lc] 182).alloc (Cv #[Lv none 0 0,Fv 260<|Av #[Sv t.text,Lv va vs.length vc]] 421):=⟨_,rfl⟩;have k8:Below wq.heap.size wq w8:=by rw[hw8];exact(bw _).alloc ah _
     have z8:w8.heap.size=wq.heap.size+2:=by rw[hw8];simp
     have B8:Bx w8 wq.heap.size #[.int .i64 (f2:Int),.int .i64 (t2:Int),.int .i64 (a2:Int),.int .i64 (y2:Int),Sv s,Lv la L.length lc]:=(by rw[hw8];exact(v9 wq #[.int .i64 (f2:Int),.int .i64 (t2:Int),.int .i64 (a2:Int),.int .i64 (y2:Int),Sv s,Lv la L.length lc] 182).alloc (Cv #[Lv none 0 0,Fv 260<|Av #[Sv t.text,Lv va vs.length vc]] 421))
     have M8:Bx w8 (wq.heap.size+1) #[Lv none 0 0,Fv 260<|Av #[Sv t.text,Lv va vs.length vc]]:=(by
      rw[hw8];have:=v9 (wq.alloc<|Cv #[.int .i64 (f2:Int),.int .i64 (t2:Int),.int .i64 (a2:Int),.int .i64 (y2:Int),Sv s,Lv la L.length lc] 182) #[Lv none 0 0,Fv 260<|Av #[Sv t.text,Lv va vs.length vc]] 421
      simpa using this)
     have NM8:=nm.af k8;have NMq:=ai nm;have P4q:=ai p4;have K8:=ai k8;have HQL:=ai hqL;have zpq:=p4.z;have zmm:=MWq.lt;have⟨v1,v2,v3,v4⟩:=nm.lt;obtain⟨x1,x2,x3⟩:=p4;clear nm k8 hqL e0 e1 e2 e3 e4 e5 e6 q1 q3 q5 q6 q7 jE U0 Ir hy2;go_wp2_with fail;rw[<-hw8];clear hw8 d0 d1 d2 d3 d4 d5 x1 x2 x3;go_loopg[50] L.length (λgk v wr=>amA w8 (wq.heap.size+1) kb fb (w.heap.size+1) mb vs L (Fv 260<|Av #[Sv t.text,Lv va vs.length vc]) gk v wr)
     case atStart=>exact⟨0,none,0,ai ah,zy _,rfl,NM8,M8,by simpa[Rw]using db.nil QTy 98 1 w8 w8.heap.size,Fr.refl _ _⟩
     case round=>
      clear NM8 M8;obtain⟨k,Vv,Vw,amD,hk,rfl,NMr,P10,ro,F8⟩:=hrel;have zr:=F8.size;by_cases hkl:k<L.length
      .have amE:(k:Int)<(L.length:Int):=ae;have an8:(0:Int)<=(k:Int):=ae;obtain⟨gl,rfl,hPl,hlz,hcl⟩:=HRL.resolve_left (λe=>by subst e;simp at hkl);have kw8:Below w.heap.size w w8:=by
        have h1:=FMq;have h2:=KM;have h3:=uh K8;exact⟨h3.os.trans<|h1.os.trans h2.os,h3.tape.trans<|h1.tape.trans h2.tape,h3.output.trans<|h1.output.trans h2.output,by have:=h1.size;have:=h2.size;have:=h3.size;omega,λb hb=>(h3.block b (by have:=h1.size;have:=h2.size;omega)).trans<|(h1.block b (by have:=h2.size;omega) ae).trans<|h2.block b hb⟩
       have cgl:wr.cell? ⟨gl,k,none⟩=some (el k 0):=by
        rw[vd (a:=⟨gl,k,none⟩) (w:=w8)<|F8.block gl (by have:=kw8.size;omega) ae,vd (a:=⟨gl,k,none⟩) (w:=w)<|kw8.block gl hlz];simpa using hcl k hkl 0 aA
       have⟨hT1,HT2,hT3⟩:=HLT k hkl;have Ef:PT wr (λb=>P b/\b<w.heap.size) L[k] (el k 0):=(show PT w P L[k] (el k 0)from uh HQL k hkl).move (by have:=kw8.size;omega) (λb p z=>(F8.block b (by have:=kw8.size;omega) ae).trans<|kw8.block b z)<|λb p z=>⟨p,z⟩;have⟨tv,xv,ev⟩:=Ef.cG;rw[ev]at cgl Ef;have hnl:(vs.map (·.text)).length<=2000:=bi;have Zm:∀W:World,Below wr.heap.size wr W->Calls vh 290 #[Fv tv<|Av xv,nmV kb fb] W (λe w'=>∃tu xu,e=Rv (Fv tu xu)/\eN w' (λb=>W.heap.size<=b) (eJ (vs.map (·.text)) L[k]).1 (Fv tu xu)/\NM w' kb fb (w.heap.size+1) mb (vs.map (·.text))/\Fr (Two (w.heap.size+1) mb) W w'):=λW hb=>by
        refine(akm L[k] hT1 W kb fb (w.heap.size+1) mb (vs.map (·.text)) (λb=>P b/\b<w.heap.size) _ (NMr.af hb) (Ef.af hb) (λb q=>ae) (by rw[HT2];exact hnl)).mono ?_;rintro e w'⟨uu,rfl,h2,h3,h4⟩;obtain⟨tu,xu,rfl⟩:=h2.iface;rw[HT2]at h3;exact⟨tu,xu,rfl,h2,h3,h4⟩
       have FR8:=ai F8;have A1:=P10.c 0;have zp:=P10.z;obtain⟨cs',OW,HPE⟩:=ro;have ekl:=adW (ns:=vs.map (·.text)) hk;rw[ekl]at OW;have ME:=cN OW;have EKL:=ai ekl;have np4:¬wq.heap.size+1=w.heap.size+1:=ae;have np5:¬wq.heap.size+1=mb:=ae;clear F8 hcl Ef hT1 hT3 ev ekl;go_wp2_with fail;clear cgl
       go_region_law(first
        |(go_simp;go_at_call 290;go_loud(refine(Zm _ (vf _ _).drew).mono ?_);rintro e w5⟨tu,xu,rfl,tu5,nm5,F5⟩;have B5:=(P10.below (vf _ _).drew).fr F5<|λq=>q.elim np4 np5;have A5:w5.cell? ⟨wq.heap.size+1,0,none⟩=some (Lv Vv k Vw):=B5.c 0;have O5:Hid (w5.ownsRow w8.heap.size 98 1 (Lv Vv k Vw) k<|bL cs' 1 k):=ai (lK OW λg hg=>F5.block g (ME g hg).2 (λq=>by have:=(ME g hg).1;obtain q|q:=q<;>omega));have BB5:=ai B5;have NM5:=ai nm5;have F5':=ai F5;have TU5:=ai tu5;have z5:wr.heap.size<=w5.heap.size:=F5.size;have z25:wq.heap.size+1<w5.heap.size:= ae;clear B5 nm5 F5 tu5;dsimp only)
        |(refine fk rfl (.tmp 55) (.tmp 59) 258 rfl w8.heap.size 98 i0 _ 1 16 fI m6 ku gS gC rfl aA (Lv Vv k Vw) k _ rfl (gT O5<|bw _) ⟨w5.heap.size,0,none⟩ 1 1 [Fv tu xu] rfl rfl (nS _ _ _ _ ah) qAn NR ae bi ?_;intro v6 w6 nT I8 vU;obtain⟨q3,c3,rfl⟩:=rR nT ae;have ZB:=BB5.below<|bw<|Cv #[Fv tu xu] 98;have B6:=ZB.same I8.size (I8.block _ ZB.z (λe=>by have:=(ME _ e.symm).1;omega));have A6:w6.cell? ⟨wq.heap.size+1,0,none⟩=some (Lv Vv k Vw):=B6.c 0;have A7:w6.frozen? ⟨wq.heap.size+1,0,none⟩=false:=B6.f 0;have BB6:=ai B6;have OW6:=ai nT;have HG6:=ai I8;have HL6:=ai vU;clear nT I8 vU ZB B6))
       all_goals(
        go_wp2
        go_roundg(L.length-(k+1))
        case measure=>rw[uh amD];omega
        case rel=>
         have F5:=uh F5';have hg:=uh HG6;have k5:Below w5.heap.size w5 (w5.alloc<|Cv #[Fv tu xu] 98):=bw _;have F56:=(Fr.of k5).grown hg<|λb e=>zt (ME b e).1;have ekl:=uh EKL;refine⟨k+1,some ⟨q3,0,none⟩,c3,ai rfl,zx hkl,d_,((uh NM5).fr F56<|λb p=>ae).set ae 0 _,(uh BB6).aP 0 _ #[Lv (some ⟨q3,0,none⟩) (k+1) c3,Fv 260<|Av #[Sv t.text,Lv va vs.length vc]] rfl ah,?_,?_⟩
         .rw[ZA hkl];have tu5:=uh TU5;have PU:=db.push (Q:=QTy) (et:=98) (sz:=1) (base:=w8.heap.size) (va:=Vv) (vc:=Vw) (L:=Rw (vs.map λv:vk=>v.text)<|L.take k) (w1:=w5) (W:=w5.alloc<|Cv #[Fv tu xu] 98) (w3:=w6) (lo:=wr.heap.size) (q3:=q3) (c3:=c3) (a:=(eJ (vs.map λv:vk=>v.text) L[k]).1) (c:=λ_=>Fv tu xu) (cs:=cs') im
           (λi hi=>im _ _ _ _ _ _ (HPE i hi) z5 (λb p z=>F5.block b z (λq=>by have:=p.1;obtain q|q:=q<;>omega))<|λb p z=>⟨p.1,ae,p.2.2⟩)
           tu5 ae (λb e=>by rw[ekl]at e;exact(ME b e).2) k5 (by rw[ekl];exact uh OW6) (by rw[ekl];exact hg) (by rw[ekl];exact uh HL6)
          exact PU.pL im yG (λb h1 h2=>vg _ _ _ _ (by show b≠wq.heap.size+1;omega))
         .have Fa:Fr (λi=>i=w.heap.size+1\/i=mb\/i=wq.heap.size+1) w8 w5:=((uh FR8).trans<|Fr.of (vf _ _).drew).trans<|F5.gL λi q=>q.elim zt<|λr=>zn<|zt r
          exact((Fa.trans<|Fr.of k5).grown hg<|λb e=>zn (ME b e).1).set (zt<|zn<|zn rfl) 0 _)
      .have amE:decide ((k:Int)<(L.length:Int))=false:=bi;have ek:k=L.length:=ae;subst ek;rw[xm]at ro;have amF:(Rw (vs.map (·.text)) L).length=L.length:=by simp[Rw]
       have k8:=uh K8;have mvr:∀b,(w.heap.size<=b/\b≠w.heap.size+1/\b≠mb/\b≠wx.heap.size)->b<wq.heap.size->wr.heap[b]? =wq.heap[b]? :=λb p z=>(F8.block b ae ae).trans<|k8.block b z;have MV:Zx wr (λi=>w.heap.size<=i/\i≠w.heap.size+1/\i≠mb/\i≠wx.heap.size) (Rw (vs.map (·.text)) L) (qe t vs) (Av #[Lv Vv L.length Vw,Fv 260<|Av #[Sv t.text,Lv va vs.length vc]]):=⟨Vv,Vw,_,_,by rw[amF],ro.amy.move (br _) (λ_ _ _=>rfl)<|λb p z=>⟨ae,ae,ae,ae⟩,MKq.move ae mvr<|λ_ p _=>p⟩;have MWr:=MWq.move ae ((F8.block _ ae ae).trans<|k8.block _ zmm) mvr<|λ_ p _=>p;have MKr:=MKq.move ae mvr<|λ_ p _=>p;have P4r:=(P4q.below k8).fr F8 ae;have FMr:=((FMq.trans<|Fr.of k8).iH F8 (λb q=>by obtain q|q|q:=q;exact zt<|zt q;exact zt<|zn<|zt q;exact zn ae));obtain⟨x1,x2,x3⟩:=P10;have⟨y1,y2,y3⟩:=B8.fr F8 ae;have HTK:In.Zy (vs.map (·.text)) ms[i]=Rw (vs.map (·.text)) L/\qr ms[i]=s:=(by rw[HEM];exact⟨congrArg Prod.fst<|Zz λk hk=>(HLT k hk).2,rfl⟩);clear ro F8 k8 mvr;go_wp2_with(refine vS rfl _ _ _ (zn rfl) rfl MWr (λq=>q.2.2.2 rfl) MV s rfl rfl ?_;intro w9 H' O';have M9:=ai H';have O9:=ai O';clear H' O');go_roundg(ms.length-(i+1))
       case measure=>rw[uh aho];omega
       case rel=>
        have o:=uh O9;have F9:Fr (λb=>b=wx.heap.size) wr w9:=⟨o.os,o.tape,o.output,qAg,λb _ hb=>o.block b hb⟩;refine⟨i+1,ai rfl,zx XX,d_,NMr.fr F9 (λb p=>by subst p;omega),P4r.fr F9 ae,MKr.move F9.size (λb p z=>F9.block b z p.2.2.2)<|λ_ p _=>p,?_,FMr.trans<|F9.gL λb q=>zn<|zn q⟩;rw[xh XX,zI,HTK.1,HTK.2];exact uh M9
    .have ahj:decide ((i:Int)<(ms.length:Int))=false:=bi;have ei:i=ms.length:=ae;subst ei;rw[xm]at MWq;have HX:∃b,Rv (.map<|some wx.heap.size)=Rv (.map<|some b)/\Below w.heap.size w wr/\w.heap.size<=b/\mH wr (λi=>w.heap.size<=i) b (jk t vs ms λ_=>none):=⟨_,rfl,⟨FMq.os.trans KM.os,FMq.tape.trans KM.tape,FMq.output.trans KM.output,zv KM.size FMq.size,λk hk=>(FMq.block k (by have:=KM.size;omega) ae).trans<|KM.block k hk⟩,ae,MWq.move (br _) rfl (λ_ _ _=>rfl) (λb p _=>p.1)⟩;clear nm p4
     go_wp2
     go_ret;exact HX
def ld(a b:ji):ji:=λy=>match a y with
 |some c=>some c|none=>b y
def vV(t:vk)(vs:List vk)(mk:ji):∀(ms:List Nd)(a:ji),jk t vs ms (ld a mk)=ld (jk t vs ms a) mk
 |[],_=>rfl|m::r,a=>by
  show jk t vs r _=ld (jk t vs r _) mk;rw[<-vV t vs mk r];congr 1;funext y;unfold ld;by_cases q:y=qr m
  .simp[q]
  .simp[q]
def zJ(t:vk)(vs:List vk)(mk:ji)ms:jk t vs ms mk=ld (jk t vs ms λ_=>none) mk:=vV t vs mk ms λ_=>none
open Classical in
noncomputable def ovM (Vz m1:ji) (done:List BA) (x:BA):Option (List Ty×Ty):=if x∈done then ld Vz m1 x else m1 x
def ahp P b1 b2(m1 Vz:ji)L w gk wr:=
 ∃done,IG vi wr w.heap.size b2 L done gk/\mH wr P b1 (ovM Vz m1 done)/\Fr (λi=>i=b1) w wr
def Rx{m1 Vz}(h1:mH w P b1 m1)(h2:mH w P b2 Vz)(hP:¬P b1)(aZ:∀x,P x->x<w.heap.size)(hn:b1≠b2):
 Cq 277 #[Mv b1,Mv b2] w λe w'=>e=.returned (.tuple #[])/\mH w' P b1 (ld Vz m1)/\Fr (λi=>i=b1) w w':=by
 have l1:=h1.lt;have l2:=h2.lt;obtain⟨L,m2,q1,q2⟩:=h2;obtain⟨o,cnt,hrg,ni⟩:=m2.range rQ;have k1:Bq w (w.alloc o):=bw _;have HI:=ai ni;have H1:=h1.move k1.size (k1.block _ h1.lt) (λb _ z=>k1.block b z)<|λ_ p _=>p;have K1:=ai k1;have Q:=And.intro q1 q2;go_enter func277,ntmps277
 go_wp2
 go_loopg[] cnt (λgk wr=>ahp P b1 b2 m1 Vz L w gk wr)
 case atStart=>
  refine⟨[],HI,?_,Fr.of K1⟩;have e:ovM Vz m1 []=m1:=by funext x;simp[ovM]
  rw[e];exact H1
 case round=>
  obtain⟨done,HI,HE,hF⟩:=hrel;have HF:=ai hF;have hiz:=HI.lt;have zr:=hF.size;rcases HI.next (P:=vh) str_inj with⟨ha,MW⟩|⟨x,u,w2,aC,hxd,Yi,MW,Yj,Ie,BE,kX,hen⟩
  .go_wp2
   go_end0;refine⟨rfl,?_,HF⟩;have e:ovM Vz m1 done=ld Vz m1:=by
    funext y;unfold ovM;by_cases q:y∈done
    .rw[if_pos q]
    .rw[if_neg q];have:Vz y=none:=by
      exact DS
     simp only[ld,this]
   rw[<-e];exact HE
  .obtain⟨tk,m,EC,hc⟩:=Q.2 x u Yi;have xW:=BE;have nP:∀i,P i->¬i=w.heap.size:=λi hi e=>by have:=aZ i hi;omega
   have E2:=HE.move xW.size (xW.block _ HE.lt ae) (λi p z=>xW.block i z<|nP i p)<|λ_ p _=>p;have c2:=(hc.move (w':=wr) zr (λi p z=>HF.block i z<|λe=>hP<|e▸p)<|λ_ p _=>p).move (w':=w2) (Q:=P) ae (λi p z=>xW.block i z<|nP i p)<|λ_ p _=>p;obtain⟨sa,sc,ta,xa,rfl,t1,t2⟩:=c2;have vW:Bq w2 (w2.alloc<|.cells #[.slice sa tk.length sc,.iface ta xa] 421):=bw _;have E3:=E2.move vW.size (vW.block _ E2.lt) (λb _ z=>vW.block b z)<|λ_ p _=>p;have C3:=(Zx.move ⟨sa,sc,ta,xa,rfl,t1,t2⟩ vW.size (λb _ z=>vW.block b z)<|λ_ p _=>p);have I3:=Yj.same (vW.block b2 ae)<|vW.block w.heap.size ae;have K3:=ai vW;go_wp2_with(refine vS rfl _ _ _ (zn rfl) rfl E3 hP C3 x rfl rfl ?_;intro w4 H' O';have S4:=ai H';have O4:=ai O';clear H' O');go_roundg aC
   case measure=>exact Ie
   case rel=>
    have o:=uh O4;have k3:=uh K3;have f1:=xW;refine⟨x::done,I3.same (o.block b2<|vu hn)<|o.block _ ae,?_,?_⟩
    .have e:ovM Vz m1 (x::done)=λy=>if y=x then some (tk,m)else ovM Vz m1 done y:=by
      funext y;by_cases q:y=x
      .subst q;simp[ovM,ld,EC]
      .simp only[ovM,if_neg q];exact P9
     rw[e];exact S4
    .exact Ps
def MG.akn{L L'}(h:MG vi w b L)(h':MG vi w b L'):L=L':=by
 obtain⟨es,c,h1,h2,_⟩:=h;obtain⟨es',c',h1',ZC,_⟩:=h';rw[h1]at h1';injection h1' with h1';injection h1' with e1 e2;subst e1;have e:=h2.symm.trans ZC;have:∀(L L':List (BA×Value)),L.map (λp=>(Sv p.1,p.2))=L'.map (λp=>(Sv p.1,p.2))->L=L':=by
  intro L
  induction L with
  |nil=>intro L' e;cases L' with|nil=>rfl|cons=>simp at e
  |cons p r ih=>
   intro L' e
   cases L' with
   |nil=>simp at e|cons p' r'=>
    simp only[List.map_cons,List.cons.injEq,Prod.mk.injEq,Value.string.injEq]at e;rw[ih r' e.2,Prod.ext e.1.1 e.1.2]
 exact this L L' e
def WE.rm{c:WC}{cnt}(h:WE w c cnt):c.rb≠c.mb/\c.mb≠c.eb/\c.rb≠c.eb:=by
 refine⟨λe=>?_,λe=>?_,λe=>?_⟩
 .have⟨L,m1,g1,_⟩:=h.rs;have⟨L',m2,_,g2⟩:=h.ms;rw[e]at m1;rw[m1.akn m2]at g1;have⟨tk,m,_,sa,sc,ta,xa,q,_⟩:=g2 _ _ g1
  cases q
 .have⟨L,hM,_⟩:=h.ms;exact rO
 .have⟨L,hM,_⟩:=h.rs;exact rO
def QA{p:Prop}(h:p:=by
 induction h with
 |var n=>exact .var n|aM c L sa sc vs hc aE hr ih=>
  refine .aM c L sa sc vs hc ?_ ih;obtain h0|⟨g,h1,h2,h3,h4⟩:=aE
  .exact zt h0
  .by_cases h0:L=[]
   .exact zt h0
   .refine zn ⟨g,h1,⟨h2,λe=>?_⟩,h3,h4⟩;have q:=h4 0<|List.length_pos_iff.2 h0;rw[e,hb]at q
    cases q):p:=h
def eN.rS{t:Ty}(h:eN w P t v)(hb:w.cell? ⟨b,0,none⟩=none):eN w (λi=>P i/\i≠b) t v:=by
 exact QA
def mH.rS{w}{P}{mb b}{mk}(h:mH w P mb mk)(hb:w.cell? ⟨b,0,none⟩=none):mH w (λi=>P i/\i≠b) mb mk:=by
 obtain⟨L,h1,h2,h3⟩:=h;refine⟨L,h1,h2,λk v hk=>?_⟩;obtain⟨tk,m,e,sa,sc,ta,xa,rfl,q1,q2⟩:=h3 k v hk;refine⟨tk,m,e,sa,sc,ta,xa,rfl,?_,q2.rS hb⟩;obtain q1|⟨g,vs,q3,q4,q5,q6⟩:=q1
 .exact zt q1
 .by_cases h0:tk=[]
  .exact zt h0
  .refine zn ⟨g,vs,q3,⟨q4,λe=>?_⟩,q5,λi hi=>⟨(q6 i hi).1,(q6 i hi).2.rS hb⟩⟩;have⟨q7,_⟩:=q6 0<|List.length_pos_iff.2 h0;rw[e,hb]at q7
   cases q7
def dA.rS{t:Ty}(h:dA w P t v)(hb:w.cell? ⟨b,0,none⟩=none):dA w (λi=>P i/\i≠b) t v:=by
 exact QA
def bR.rS{w}{P}{nb b}{Γ}(h:bR w P nb Γ)(hb:w.cell? ⟨b,0,none⟩=none):bR w (λi=>P i/\i≠b) nb Γ:=by
 obtain⟨L,h1,h2,h3⟩:=h;refine⟨L,h1,h2,λk v hk=>?_⟩;obtain⟨d,e,ta,xa,sa,sc,rfl,⟨⟨x',q1,q2⟩,q4⟩,q3⟩:=h3 k v hk;refine⟨d,e,ta,xa,sa,sc,rfl,⟨⟨x',q1.rS hb,q2⟩,q4⟩,?_⟩;obtain q3|⟨g,r1,r2,r3,r4⟩:=q3
 .exact zt q3
 .by_cases h0:d.any=[]
  .exact zt h0
  .refine zn ⟨g,r1,⟨r2,λe=>?_⟩,r3,r4⟩;have r5:=r4 0<|List.length_pos_iff.2 h0;rw[e,hb]at r5
   cases r5
def WT.ZD{c:WC}{cnt}{u:Nat->Prop}{mks}{gL}(h:WT w c cnt u Γ)(hn:c.nb≠c.mb)(hf:Fr (λi=>i=c.mb) w w')(hw:WE w' {c with mks:=mks,gL:=gL} cnt):WT w' {c with mks:=mks,gL:=gL} cnt u Γ:=by
 have⟨L,hMG,_⟩:=h.we.ms;exact⟨hw,(h.e.rS<|hMG.bF 0).move hf.size (hf.block _ h.e.lt hn) (λb p z=>hf.block b z p.2)<|λb p _=>p.1,h.n,h.hu,h.top,h.dm⟩
section
variable {c:WC} {cnt:Nat} {u:Nat->Prop}
abbrev ZE(c:WC)(t:vk)(vs:List vk)ms gL:={c with mks:=jk t vs ms c.mks,gL:=gL}
def VA(h:WT w c cnt u Γ){t}{f x}(hv:RowV QName 3 w P vs vv)(hm:RowV QMaker 6 w P ms vm)(hd:TdF t vs ms):
 Cq 267 #[Pv c.eb,.agg #[Iv f,Iv x,Nv t.aD,Nv t.t9,.string t.text,vv,vm]] w (λe w'=>e=.returned (.tuple #[])/\Fr (λi=>i=c.mb) w w'/\WE w' (ZE c t vs ms w'.heap.size) cnt):=by
 obtain⟨w0,I9⟩:∃w0,w0=w.alloc (Cv #[Iv f,Iv x,Nv t.aD,Nv t.t9,Sv t.text,vv,vm] 95):=⟨_,rfl⟩;have K0:Bq w w0:=by rw[I9];exact bw _
 have BB:Bx w0 w.heap.size #[Iv f,Iv x,Nv t.aD,Nv t.t9,Sv t.text,vv,vm]:=by rw[I9];exact v9 w #[Iv f,Iv x,Nv t.aD,Nv t.t9,Sv t.text,vv,vm] 95
 have WE0:=h.we.af K0;have⟨r1,r2,r3⟩:=h.we.rm;have⟨d1,d2,d3⟩:=h.we.d;have⟨l1,l2,l3,l4,l5⟩:=h.we.l;have zz0:w0.heap.size=w.heap.size+1:=by rw[I9];simp
 have HMK:∀W:World,Bq w0 W->Cq 278 #[Av #[Iv f,Iv x,Nv t.aD,Nv t.t9,Sv t.text,vv,vm]] W (λe w'=>∃b,e=Rv (Mv b)/\Bq W w'/\W.heap.size<=b/\mH w' (λi=>W.heap.size<=i) b (jk t vs ms λ_=>none)):=λW hb=>by
  have kW:=K0.trans<|hb.mono K0.size;exact I6 (hv.move c_ kW.size (λb _ z=>kW.block b z)<|λ_ p _=>p) (hm.move bP kW.size (λb _ z=>kW.block b z)<|λ_ p _=>p) hd
 have HCP:∀(W:World)(b:Nat),Bq w0 W->w0.heap.size<=b->mH W (λi=>w0.heap.size<=i) b (jk t vs ms λ_=>none)->Cq 277 #[Mv c.mb,Mv b] W (λe w'=>e=Rv (.tuple #[])/\mH w' (λi=>i≠c.cb/\i≠c.mb/\i<W.heap.size) c.mb (jk t vs ms c.mks)/\Fr (λi=>i=c.mb) W w'):=λW b hb hz hM=>by
  rw[zJ];have weW:=WE0.af hb;have⟨L,hMG,_⟩:=weW.ms;have zb:=hM.lt;have zs:=hb.size;have h1:mH W (λi=>i≠c.cb/\i≠c.mb/\i<W.heap.size) c.mb c.mks:=(weW.ms.rS<|hMG.bF 0).move (br _) rfl (λ_ _ _=>rfl) (λi p z=>⟨p.1.1,p.2,z⟩);have h2:mH W (λi=>i≠c.cb/\i≠c.mb/\i<W.heap.size) b (jk t vs ms λ_=>none):=hM.move (br _) rfl (λ_ _ _=>rfl) (λi p z=>⟨qBv,qBv,z⟩);exact Rx h1 h2 (λq=>q.2.1 rfl) (λi p=>p.2.2) ae
 have f0:=WE0.bx.c 2;have g0:=BB.c 0;have g1:=BB.c 1;have g2:=BB.c 2;have g3:=BB.c 3;have g4:=BB.c 4;have g5:=BB.c 5;have g6:=BB.c 6;obtain⟨pa,pc,cs,rfl,aE,hq⟩:=hv;obtain⟨ma,mc,ds,rfl,ako,hqm⟩:=hm;have ne1:¬w.heap.size=c.mb:=ae;clear h aE hq ako hqm;go_enter func267,ntmps267;go_wp2_with fail;rw[<-I9];clear I9
 go_region_held3(λw'=>w'.cell? ⟨c.eb,2,none⟩=some (Mv c.mb)/\w'.cell? ⟨w.heap.size,0,none⟩=some (Iv f)/\w'.cell? ⟨w.heap.size,1,none⟩=some (Iv x)/\w'.cell? ⟨w.heap.size,2,none⟩=some (Nv t.aD)/\w'.cell? ⟨w.heap.size,3,none⟩=some (Nv t.t9)/\w'.cell? ⟨w.heap.size,4,none⟩=some (Sv t.text)/\w'.cell? ⟨w.heap.size,5,none⟩=some (Lv pa vs.length pc)/\w'.cell? ⟨w.heap.size,6,none⟩=some (Lv ma ms.length mc)) (first|go_keep|(simp[*])) (first
  |(go_at_call 278;go_loud(refine(HMK _ (vf _ _).drew).mono ?_);rintro e w2⟨b,rfl,k2,z2,hM⟩;have nM:=(vf _ _).drew.trans k2;have B2:=BB.below nM;have s0:w2.cell? ⟨c.eb,2,none⟩=some (Mv c.mb):=(WE0.af nM).bx.c 2;have s1:w2.cell? ⟨w.heap.size,0,none⟩=some (Iv f):=B2.c 0;have s2:w2.cell? ⟨w.heap.size,1,none⟩=some (Iv x):=B2.c 1;have s3:w2.cell? ⟨w.heap.size,2,none⟩=some (Nv t.aD):=B2.c 2;have s4:w2.cell? ⟨w.heap.size,3,none⟩=some (Nv t.t9):=B2.c 3;have s5:w2.cell? ⟨w.heap.size,4,none⟩=some (Sv t.text):=B2.c 4;have s6:w2.cell? ⟨w.heap.size,5,none⟩=some (Lv pa vs.length pc):=B2.c 5;have s7:w2.cell? ⟨w.heap.size,6,none⟩=some (Lv ma ms.length mc):=B2.c 6;have K2:=ai nM;have Z2:Hid (w0.heap.size<=b):=ai z2;have M2:Hid (mH w2 (λi=>w0.heap.size<=i) b<|jk t vs ms λ_=>none):=ai hM;clear k2 nM z2 hM B2)
  |(go_at_call 277;go_loud(refine(HCP _ _ K2 Z2 M2).mono ?_);rintro e w3⟨rfl,hM3,F3⟩;have B3:=(BB.below K2).fr F3 ne1;have t0:w3.cell? ⟨c.eb,2,none⟩=some (Mv c.mb):=((WE0.af K2).bx.fr F3<|vu r2).c 2;have t1:w3.cell? ⟨w.heap.size,0,none⟩=some (Iv f):=B3.c 0;have t2:w3.cell? ⟨w.heap.size,1,none⟩=some (Iv x):=B3.c 1;have t3:w3.cell? ⟨w.heap.size,2,none⟩=some (Nv t.aD):=B3.c 2;have t4:w3.cell? ⟨w.heap.size,3,none⟩=some (Nv t.t9):=B3.c 3;have t5:w3.cell? ⟨w.heap.size,4,none⟩=some (Sv t.text):=B3.c 4;have t6:w3.cell? ⟨w.heap.size,5,none⟩=some (Lv pa vs.length pc):=B3.c 5;have t7:w3.cell? ⟨w.heap.size,6,none⟩=some (Lv ma ms.length mc):=B3.c 6;have M3:=ai hM3;have F3':=ai F3;clear hM3 F3 B3))
 go_wp2
 go_end0;have F3:=uh F3';have k2:=uh K2;have we2:=WE0.af k2;have z3:=F3.size;have z2:=k2.size;refine⟨rfl,(Fr.of<|K0.trans<|k2.mono K0.size).trans F3,⟨we2.bx.fr F3<|vu r2,we2.ct.fr F3<|vu d3,we2.rs.same<|F3.block _ we2.rs.lt r1,?_,⟨d1,d2,d3⟩,⟨by show c.eb<w3.heap.size;omega,by show c.cb<w3.heap.size;omega,by show c.rb<w3.heap.size;omega,by show c.mb<w3.heap.size;omega,br _⟩⟩⟩;exact M3.move (br _) rfl (λ_ _ _=>rfl) (λi p _=>⟨p.1,by show i<w3.heap.size;omega⟩)
end
def Du:Cq 48 #[] w λe w'=>e=.returned (Mv w.heap.size)/\I_ w' w.heap.size/\Bq w w'/\w'.heap.size=w.heap.size+1:=by
 have g_:= @run_makeMap vh;have M0:=MG.new vi w;have k0:Bq w (w.alloc<|.map #[] 0):=bw _;have Z0:(w.alloc<|.map #[] 0).heap.size=w.heap.size+1:=by simp
 have K0:=ai k0;go_enter func48,ntmps48;go_wp2_with((refine cK KLS aaJ rfl _ _ _ (Or.inl rfl) rfl M0 _ _ rfl rfl ?_;clear M0;intro w' H' O';have M0:=ai H';have K1:=K0;have Z1:=Z0;clear K0 Z0;have K0:=ai (One.below K1 O'<|by exact br _);have Z0:=ai<|O'.size.trans Z1;clear H' O' K1 Z1));go_ret;refine⟨rfl,⟨_,M0,?_,?_,?_,?_⟩,K0,Z0⟩;all_goals(simp only[aN];rfl)
def ah6 nl:Cq 26 #[] w λe w'=>∃c:WC,e=.returned (Pv c.eb)/\Bq w w'/\WT w' c 0 (λ_=>False) (λ_=>none)/\c.nb≠c.mb/\c.mks=(λ_=>none)/\c.nl=nl/\w.heap.size<=c.cb/\w.heap.size<=c.eb/\w.heap.size<=c.mb:=by
 have g_:= @run_makeMap Tryz.prog;go_enter func26,ntmps26;go_wp2_with fail;refine(EH).mono ?_;rintro e w1⟨rfl,ud⟩;have k1:Bq w w1:=by rw[ud];exact bw _
 have C1':Bx w1 w.heap.size #[Iv 0]:=by rw[ud];exact v9 w #[Iv 0] 3
 have z1:w1.heap.size=w.heap.size+1:=by rw[ud];simp
 have K1:=ai k1;clear ud k1;go_wp2_with fail;refine(Du).mono ?_;rintro e w2⟨rfl,R2,k2,z2⟩;have K2:=ai k2;clear k2
 go_wp2
 go_ret;obtain⟨w3,rC⟩:∃w3,w3=w2.alloc (.map #[] 0):=⟨_,rfl⟩;obtain⟨w4,hw4⟩:∃w4,w4=w3.alloc (.map #[] 0):=⟨_,rfl⟩;have k3:Bq w2 w3:=by rw[rC];exact bw _
 have k4:Bq w3 w4:=by rw[hw4];exact bw _
 have z3:w3.heap.size=w2.heap.size+1:=by rw[rC];simp
 have z4:w4.heap.size=w3.heap.size+1:=by rw[hw4];simp
 have k2:=uh K2;have k1:=uh K1;have m3:MG Sv w3 (w.heap.size+2) []:=by rw[rC,show w.heap.size+2=w2.heap.size by omega];exact MG.new _ w2
 have m4:MG Sv w4 (w.heap.size+3) []:=by rw[hw4,show w.heap.size+3=w3.heap.size by omega];exact MG.new _ w3
 rw[<-rC,<-hw4];obtain⟨w5,hw5⟩:∃w5,w5=w4.alloc (Cv #[.func (.func 86) #[] #[Pv w.heap.size],Mv<|w.heap.size+1,Mv<|w.heap.size+2,Mv<|w.heap.size+3] 154):=⟨_,rfl⟩;have k5:Bq w4 w5:=by rw[hw5];exact bw _
 have z5:w5.heap.size=w.heap.size+5:=by rw[hw5];simp;omega
 have b5:Bx w5 (w.heap.size+4) #[.func (.func 86) #[] #[Pv w.heap.size],Mv<|w.heap.size+1,Mv<|w.heap.size+2,Mv<|w.heap.size+3]:=by
  have:=v9 w4 #[.func (.func 86) #[] #[Pv w.heap.size],Mv<|w.heap.size+1,Mv<|w.heap.size+2,Mv<|w.heap.size+3] 154;rw[<-hw5,show w4.heap.size=w.heap.size+4 by omega]at this;exact this
 have z1:w1.heap.size=w.heap.size+1:=ae;have k45:=k4.trans<|k5.mono k4.size;have k35:=k3.trans<|k45.mono k3.size;have k25:=k2.trans<|k35.mono k2.size;have kk:=k1.trans<|k25.mono k1.size;have res:∃c:WC,Rv (Pv<|w.heap.size+4)=Rv (Pv c.eb)/\Bq w w5/\WT w5 c 0 (λ_=>False) (λ_=>none)/\c.nb≠c.mb/\c.mks=(λ_=>none)/\c.nl=nl/\w.heap.size<=c.cb/\w.heap.size<=c.eb/\w.heap.size<=c.mb:=by
  refine⟨⟨w.heap.size+4,w.heap.size,w.heap.size+1,w.heap.size+2,w.heap.size+3,w.heap.size+5,λ_=>none,nl⟩,rfl,kk,⟨⟨b5,C1'.below k25,?_,⟨[],m3.same<|k45.block _ ae,λ_ _=>rfl,λx v h=>qBg⟩,?_,?_⟩,⟨[],m4.same<|k5.block _ ae,λ_ _=>rfl,λx v h=>qBg⟩,?_,λn q=>q.elim,(λy d q=>eh),λx q=>absurd rfl q⟩,?_,rfl,rfl,?_,?_,?_⟩
  .have:=R2.same (w':=w5)<|k35.block _ ae
   rwa[z1]at this
  all_goals(dsimp only;omega)
 rw[hw5]at res;exact res
structure Oth(x:Value):Prop where
 i:∀a y,x≠.iface a y
 n:∀n:Nat,1<=n->x≠Nv n
 p:∀q,x≠.pointer q
def bR.other{x:Value}(h:bR w P nb Γ)(hv:∀y d,Γ y=some d->∀n∈d.any,1<=n)(hb:w.cell? ⟨b,0,none⟩=some x)(hx:Oth x):bR w (λi=>P i/\i≠b) nb Γ:=by
 obtain⟨L,h1,h2,h3⟩:=h;refine⟨L,h1,h2,λk v hk=>?_⟩;obtain⟨d,e,ta,xa,sa,sc,rfl,⟨⟨x',q1,q2⟩,q4⟩,q3⟩:=h3 k v hk;refine⟨d,e,ta,xa,sa,sc,rfl,⟨⟨x',q1.not hb hx.i,q2⟩,q4⟩,?_⟩;obtain q3|⟨g,r1,r2,r3,r4⟩:=q3
 .exact zt q3
 .by_cases h0:d.any=[]
  .exact zt h0
  .refine zn ⟨g,r1,⟨r2,λeg=>?_⟩,r3,r4⟩;have hl:=List.length_pos_iff.2 h0;have r5:=r4 0 hl;rw[eg,hb]at r5;injection r5 with r5;exact hx.n _ (hv k d e _<|zd hl) r5
def gU{enc}{b'}{L:List (κ×Value)}{x:Value}(h:MG enc w b' L)(hb:w.cell? ⟨b,0,none⟩=some x):b'≠b:=λe=>by
 have:=h.bF 0;rw[e,hb]at this
 cases this
def WT.other{w w'}{c}{cnt}{u}{Γ}{b}{x}(h:WT w c cnt u Γ)(hn:b≠c.cb/\b≠c.eb)(hb:w.cell? ⟨b,0,none⟩=some x)(hx:Oth x)(f:Fr (λi=>i=b) w w'):WT w' c cnt u Γ:=by
 have⟨Lr,hr,_⟩:=id h.we.rs;have⟨Lm,hm,_⟩:=id h.we.ms;have⟨Ln,hnn,_⟩:=id h.e;have nr:=gU hr hb;have nm:=gU hm hb;have nn:=gU hnn hb;have⟨l1,l2,l3,l4,l5⟩:=h.we.l;have hz:=f.size;refine⟨⟨h.we.bx.fr f<|vu hn.2,h.we.ct.fr f<|vu hn.1,h.we.rs.same<|f.block _ h.we.rs.lt nr,(h.we.ms.not hb hx.i).move f.size (f.block _ h.we.ms.lt nm) (λi p z=>f.block i z p.2)<|λi p _=>p.1,h.we.d,l1,l2,l3,l4,ae⟩,?_,h.n,h.hu,h.top,h.dm⟩;refine(h.e.other ?_ hb hx).move f.size (f.block _ h.e.lt nn) (λi p z=>f.block i z p.2) (λi p _=>p.1);intro y d q n hq;exact(h.hu n<|(h.top.env y d q).use n<|(h.top.env y d q).sub n hq).1
structure KpI lo base(w w':World):Prop where
 os:w'.os=w.os
 tape:w'.tape=w.tape
 output:w'.output=w.output
 size:w.heap.size<=w'.heap.size
 low:∀b,b<w.heap.size->b<lo->w'.heap[b]? =w.heap[b]?
 box:∀b x,b<w.heap.size->base<=b->w.cell? ⟨b,0,none⟩=some x->(∀q,x≠.pointer q)->w'.heap[b]? =w.heap[b]?
def KpI.of{lo:Nat}{S}(f:Fr S w w')(h1:∀b,S b->lo<=b)(h2:∀b x,S b->base<=b->w.cell? ⟨b,0,none⟩=some x->¬∀q,x≠.pointer q):KpI lo base w w':=
 ⟨f.os,f.tape,f.output,f.size,λb hb hl=>f.block b hb λq=>by have:=h1 b q;omega,λb x hb hl hx ho=>f.block b hb λq=>h2 b x q hl hx ho⟩
def KpI.bx{lo:Nat}{x}(k:KpI lo base w w')(h:Bx w b C)(hb:base<=b)(hx:C[0]? =some x)(ho:∀q,x≠.pointer q):Bx w' b C:=h.same k.size (k.box b x h.z hb (by rw[h.c 0];exact hx) ho)
def ahq(S:World->Nat->ji->jd->ja->Prop)lo base rs cnt(mks:ji)s(Γ:ja)rc st x w(e:Ending)w':=KpI lo base w w'/\∃o,qf rc st x (jm mks x) Γ s o/\match o with
 |.error _=>False|.ok (t,s1)=>(size (sub s1.k t)<=48/\∃T ta xa aC,T=(if qm x then sub s1.k t else j6 (sub s1.k t))/\e=.returned (.tuple #[.iface ta xa,.agg Mz])/\eN w' (λ_=>True) T (.iface ta xa)/\aC<=cnt+1000*(1+nn x)+48/\S w' aC mks (In.nxt rs s1) (jj Γ st ⟨T,vars [] T⟩))
structure ZG ty eb lo base rs nl(S:World->Nat->ji->jd->ja->Prop):Prop where
 af:∀{w w':World}{cnt:Nat}{mks:ji}{s:jd}{Γ:ja},S w cnt mks s Γ->Bq w w'->S w' cnt mks s Γ
 oth:∀{w w':World}{cnt:Nat}{mks:ji}{s:jd}{Γ:ja}{b:Nat}{x:Value},S w cnt mks s Γ->base<=b->w.cell? ⟨b,0,none⟩=some x->Oth x->Fr (λi=>i=b) w w'->S w' cnt mks s Γ
 mks:∃fn,(∀w,(method 617 ty (.pointer<|some ⟨eb,0,none⟩) "Makers").run Tryz.prog w=.ok (fn,.pointer<|some ⟨eb,0,none⟩) w)/\(∀(args:Array Value)(w:World),(callFunc fn args).run Tryz.prog w=.ok (.enter fn args) w)/\∀{w:World}{cnt:Nat}{mks:In.Mks}{s:In.St}{Γ:In.Env}{t:Pu.Tok}{vs:List Pu.Tok}{ms:List Nd}{f x:Int}{vv vm:Value},S w cnt mks s Γ->RowV QName 3 w (·<lo) vs vv->RowV QMaker 6 w (·<lo) ms vm->TdF t vs ms->
  Cq fn #[Pv eb,.agg #[Iv f,Iv x,Nv t.aD,Nv t.t9,.string t.text,vv,vm]] w (λe w'=>e=.returned (.tuple #[])/\KpI lo base w w'/\S w' cnt (jk t vs ms mks) s Γ)
 lts:∃fn,(∀w,(method 617 ty (.pointer<|some ⟨eb,0,none⟩) "Let").run Tryz.prog w=.ok (fn,.pointer<|some ⟨eb,0,none⟩) w)/\(∀(args:Array Value)(w:World),(callFunc fn args).run Tryz.prog w=.ok (.enter fn args) w)/\∀{w:World}{cnt:Nat}{mks:In.Mks}{s:In.St}{Γ:In.Env}{rc:Bool}{st:BA}{x:Nd}{v:Value}{a y:Nat}{dom:BA->Prop},S w cnt mks s Γ->PE w (·<lo) x v->ScV mks nl rc (fun v=>dom v\/(rc=true/\v=st)) x->(∀x,dom x->Γ x≠none)->st∈nl->cnt+1000*(1+nn x)<=850000->1+nn x<=805->MkFine mks->(∀o,In.boundM rc st x (In.inf mks x) Γ s o->LetOk o)->
  Cq fn #[Pv eb,.agg #[.bool rc,Nv a,Nv y,.string st,v]] w (ahq S lo base rs cnt mks s Γ rc st x w)
end
end Go.Proofs.YtopmodaakdnliaaGreatDoor

import Derived.Test.YtonaidfgokhmoaaGreatDoorYQa
import Derived.Test.YtonaidfgokhmoaaGreatDoorYXb
set_option linter.all false
set_option maxRecDepth 100000
set_option maxHeartbeats 10000000
namespace Go.Proofs.YtonaidfgokhmoaaGreatDoor
open Go renaming Calls->aa,World->fa,Value->ia,Ending->la
open _root_.Option renaming some->na,none->ab
open _root_.Bool renaming true->bb,false->fb
open _root_.List renaming getElem_mem->ja,take_succ_eq_append_getElem->jc,map_cons->jd,mem_cons_of_mem->jf,cons_append->jh,nil_append->ji,foldl_append->jj,mem_map_of_mem->jk,append_assoc->jl,getElem?_eq_getElem->jm,getElem_cons_succ->jo,foldl_cons->jp,take_succ_cons->jq,mem_cons->jt,take_length->ju,nodup_cons->jv,drop_eq_getElem_cons->jx,map_congr_left->jy,drop_length->jz,countP_cons->j3,map_append->j5,append_nil->j6,map_nil->j7
open Go.Proofs.Tryz renaming prog->j8,underlying9->j9
open Un renaming eE->qe,seen->qf,Fin->qg,par->qh
open Or renaming inr->qi,inl->qj
open _root_.Nat renaming le_trans->qk,zero_le->ql,lt_of_lt_of_le->qm,not_lt_zero->qn,lt_succ_self->qp,strongRecOn->qr
open _root_.Array renaming replicate->qs,getD_eq_getD_getElem?->qt,getElem?_setIfInBounds_ne->qu,getElem?_eq_getElem->qv,getElem?_setIfInBounds->qw,toList_modify->qx
open Go.World renaming cell?_of_block->qy,setCell->qz,frozen?->q9,cell?->xf
open In renaming xD->xg,isM->xh,St->xi,bS->xj,tG->xk,TS->xm
open Go.Instr renaming typeAssert->xn,lookup->xo,mapUpdate->xq,next->xt
open Go.Value renaming string->xw
open Go.RowKit.Below renaming heap_setCell->zd,refl->zg
open SizeOf renaming sizeOf->zh
open Classical renaming byContradiction->zi
open Go.MapKept renaming heap_alloc->zo,run_setObj_map->zt,run_getObj_map->zu
open Bool renaming not_eq_true->zv
open Go.Result renaming andThen->zx
open Go.ByteArray renaming toList_eq->zy
open Un.Ty renaming aM->z9
open Bx renaming new->vd
open Go Go.RowKit Proofs.Tryz
variable {xv:Array ia} {c last s t:BA} {ds l ps:List Nat} {B a b cb f gb h j k kb m mb n nb pb r sb x y:Nat} {cJ tO nh vr:Nat->Nat} {ly:Nat->Option Addr×Nat} {D F P Q S:Nat->Prop} {U V VF θ:Nat->Un.Ty} {nd:Nd} {G:Ns} {q:Option (BA×List Nat)} {κ:Type} {tv tx:TypeId} {bh gX tI:Un.Nx} {str:Un.wP} {T:Un.Ty} {v:ia} {W w w' w0 we:fa}
section
open Go.ChangeMaps Un
mutual
def nz:Nd->Nat
 |.mk _ _ _ L _ _ _=>1+nzL L
def nzL:List Nd->Nat
 |[]=>0|x::l=>nz x+nzL l
end
def wo:∀(L:List Ty)(i:Nat)(h:i<L.length),ak (L.take<|i+1)=ak (L.take i)+size L[i]
 |[],i,h=>vB|x::l,0,h=>by simp[ak]|x::l,i+1,h=>by simp only[jq,ak,jo];rw[wo l i uY];omega
def qH:∀(L:List Ty)(i:Nat),ak (L.take i)<=ak L
 |[],i=>ag|x::l,0=>by simp[ak]|x::l,i+1=>by simp only[jq,ak];have:=qH l i;omega
def CH:∀(L:List Ty),L.length<=ak L
 |[]=>ag|x::l=>by
  have h1:=CH l;have h2:1<=size x:=by cases x<;>simp[size]
  simp only[ak,eG];omega
@[simp] theorem ae0 a b w:(xn (.iface 194<|.agg #[a,b]) 105 194 bb).run j8 w=.ok (.tuple #[.agg #[a,b],.bool bb]) w:=qkr
def Bh(x:List UInt8×BA)(t:BA):List UInt8×BA:=(oR x.1 x.2 t,t)
def rd(l:List UInt8)(ts:List BA):List UInt8×BA:=ts.foldl Bh (l,cX)
def abU(l:List UInt8)(ts:List BA)(t:BA):rd l (ts++[t])=Bh (rd l ts) t:=by rw[rd];rw[jj];rfl
def M6{ts:List BA}:∀{x:List UInt8×BA},(∀t∈ts,t.size<=m)->(ts.foldl Bh x).1.length<=x.1.length+ts.length*(m+1):=by
 induction ts with
 |nil=>intro x _;simp|cons t ts ih=>
  intro x h;have h1:=ih (x:=Bh x t) λy hy=>h y (by simp[hy]);have h2:(Bh x t).1.length<=x.1.length+1+t.size:=by rw[Bh,oR];split<;>simp<;>omega
  have h3:=h t ag;simp only[jp,eG,Nat.add_mul]at*;omega
structure Cx where
 w0:fa
 Q:Nat->Prop
 B:Nat
 pb:Nat
 mv:ia
 I:fa->Prop
 l0:List UInt8
 fin:List BA
 m:Nat
structure CxF(c:Cx):Prop where
 n:∀b,c.Q b->b<c.w0.heap.size->b≠c.pb/\(b<c.B\/Vk c.w0 b)
 st:∀w w',FN c.B c.pb w w'->c.I w->c.I w'
 hB:c.B<=c.pb
 z:c.l0.length+c.fin.length*(c.m+1)<=9000000
 s:∀t∈c.fin,t.size<=c.m
 hm:c.m<=1000
structure e7(c:Cx)(r:List BA)(w:fa):Prop where
 x:CxF c
 pn:∃ts bv,ts++r=c.fin/\PN w c.B c.pb bv (rd c.l0 ts).1 (rd c.l0 ts).2 c.mv
 sz:c.w0.heap.size<=w.heap.size
 k:∀b,c.Q b->b<c.w0.heap.size->w.heap[b]? =c.w0.heap[b]?
 i:c.I w
abbrev Cx.p(c:Cx):ia:=Pv c.pb
section
variable {c:Cx} {r us:List BA} {C:Array ia}
def FN.fB(d:FN B pb w w')(h:Bx w b C)(e:b≠pb)(i:∀x,C[0]? =na x->∀c,x≠.int .u8 c):Bx w' b C:=h.fn e (qi<|h.nby i) d
def e7.lt(h:e7 c r w):c.pb<w.heap.size:=by have⟨_,_,_,N⟩:=h.pn;exact N.lt
def e7.fn{d:List BA}(h:e7 c r w)(F:FN c.B c.pb w w')(e:∃ts bv,ts++d=c.fin/\PN w' c.B c.pb bv (rd c.l0 ts).1 (rd c.l0 ts).2 c.mv):e7 c d w':=
 ⟨h.x,e,qk h.sz F.size,λb q z=>(F.block b (qm z h.sz) (h.x.n b q z).1<|(h.x.n b q z).2.imp id λi=>i.same<|h.k b q z).trans<|h.k b q z,h.x.st _ _ F h.i⟩
def e7.af(h:e7 c r w)(d:Bq w w'):e7 c r w':=h.fn (FN.of d) (by have⟨i,o,e,N⟩:=h.pn;exact⟨i,o,e,N.af d⟩)
def Dn(c:Cx)(r:List BA)(w:fa)(e:la)(w':fa):Prop:=e=.returned (.tuple #[])/\e7 c r w'/\FN c.B c.pb w w'
def Wd(c:Cx)(f:FuncId)(a:Array ia)(us:List BA):=∀r w,e7 c (us++r) w->aa j8 f a w (Dn c r w)
def aiF(c:Cx)(us r:List BA)(w:fa)(d:Nat)(v:ia)(wr:fa):=
 ∃j,Hid (d=us.length-j)/\j<=us.length/\v=Nv j/\e7 c (us.drop j++r) wr/\FN c.B c.pb w wr
def Js(us:List BA)(h:e7 c (us++r) w)(hn:us.length<=10)(g:Nat)(hg:Bx w g (us.map xw).toArray)(b0:g≠c.pb):
 aa j8 64 #[c.p,.slice (na ⟨g,0,ab⟩) us.length us.length] w (Dn c r w):=by
 have H:=ai h;have HG:=ai hg;clear h hg;go_wp2
 go_loopg[8] us.length (λgk v wr=>aiF c us r w gk v wr)
 case atStart=>exact⟨0,ai rfl,ql _,rfl,uh H,FN.refl _ _ _⟩
 case round=>
  obtain⟨j,O,hj,rfl,P,F⟩:=hrel;by_cases o:j<us.length
  .have hd:=kK o;have cg:wr.cell? ⟨g,j,ab⟩=na (Sv us[j]):=by
    rw[(F.fB (uh HG) b0 (λx hx k e=>by subst e;cases us<;>simp at hx)).c j];simp[o]
   have HP:=ai P;have⟨ts,bv,e,N⟩:=P.pn;rw[jx o]at e;have e2:=ai (show(ts++[us[j]])++(us.drop (j+1)++r)=c.fin by rw[<-e];simp only[jl,jh,ji]);have ht:=qk (P.x.s us[j] (by rw[<-e];exact List.mem_append_right _<|List.mem_append_left _<|List.mem_cons_self ..)) P.x.hm;have hl:(rd c.l0 ts).1.length<=9000000:=by
    have d:=M6 (x:=(c.l0,cX)) (ts:=ts) λt q=>P.x.s t (by rw[<-e];simp[q]);have h2:ts.length*(c.m+1)<=c.fin.length*(c.m+1):=Nat.mul_le_mul_right _ (by rw[<-e];simp);have h3:=P.x.z;have h4:(rd c.l0 ts).1.length<=c.l0.length+ts.length*(c.m+1):=d;omega
   have er:=ai<|abU c.l0 ts us[j];generalize us[j]=t at cg e2 ht er;have⟨c2,f2⟩:=N.cells;have R:=ai N;have HF:=ai F;clear N F P e;generalize rd c.l0 ts=x at R hl er c2;by_cases A:spB x.2 t=bb
   .go_wp2_with(first|(go_at_call 123;refine(IZ x.2 t).mono ?_;rw[A];rintro e w'⟨rfl,rfl⟩)|(go_at_call 68;refine(wa (uh R) 32 ae).mono ?_;rintro e w1⟨rfl,bv1,X,Y⟩;have Z:=ai X;have a0:=ai<|Fr.fn (uh R) Y;clear X Y)|(go_at_call 124;refine(qG (uh Z) t ae bQ).mono ?_;rintro e w2⟨rfl,I,d,i⟩;have J:=ai d;have K:=ai<|(uh a0).trans<|Fr.fn (uh Z) i;have⟨c3,f3⟩:=d.cells;clear d i));go_roundg(us.length-(j+1))
    case measure=>rw[uh O];omega
    case rel=>
     have F3:=(uh K).trans<|FN.y_ c.B c.pb _<|Sv t;exact⟨j+1,ai rfl,ae,iF,(uh HP).fn F3 ⟨_,I,uh e2,by rw[uh er];rw[Bh,oR];rw[if_pos A];exact(uh J).y_ t⟩,(uh HF).trans F3⟩
   .have X:spB x.2 t=fb:=by simpa using A
    go_wp2_with(first|(go_at_call 123;refine(IZ x.2 t).mono ?_;rw[X];rintro e w'⟨rfl,rfl⟩)|(go_at_call 124;refine(qG (uh R) t ae ae).mono ?_;rintro e w2⟨rfl,I,d,i⟩;have J:=ai d;have K:=ai<|Fr.fn (uh R) i;have⟨c3,f3⟩:=d.cells;clear d i));go_roundg(us.length-(j+1))
    case measure=>rw[uh O];omega
    case rel=>
     have F3:=(uh K).trans<|FN.y_ c.B c.pb _<|Sv t;exact⟨j+1,ai rfl,ae,iF,(uh HP).fn F3 ⟨_,I,uh e2,by rw[uh er];rw[Bh,oR];rw[if_neg A,j6];exact(uh J).y_ t⟩,(uh HF).trans F3⟩
  .have hd:=nN o;have d:j=us.length:=ae;subst d;rw[jz,ji]at P
   go_wp2
   go_end0;exact⟨rfl,P,F⟩
structure WP(c:Cx)(we:fa)(cb:Nat)(C:Array ia)(r:List BA)(w:fa):Prop where
 s:e7 c r w
 f:FN c.B c.pb we w
 b:Bx w cb C
 n:cb≠c.pb/\∀x,C[0]? =na x->∀k,x≠.int .u8 k
def WP.new(h:e7 c r w)(v:ia)(l:List ia)(t:TypeId)(i:∀k,v≠.int .u8 k:=by nofun):WP c w w.heap.size (v::l).toArray r (w.alloc<|.cells (v::l).toArray t):=
 have d:Bq w (w.alloc<|Cv (v::l).toArray t):=bw _
 ⟨h.af d,FN.of d,vd _ _ _,⟨by have:=h.lt;omega,by intro x e k;simp at e;subst e;exact i k⟩⟩
def e7.tok(h:e7 c r w)(d:t∈r):t.size<=1000:=qk (h.x.s t (by have⟨ts,_,e,_⟩:=h.pn;rw[<-e];simp[d])) h.x.hm
def e7.len(h:e7 c r w):r.length<=9000000:=by
 have⟨ts,_,e,_⟩:=h.pn;have:=h.x.z;rw[<-e,g_,Nat.add_mul,Nat.mul_succ r.length]at this;omega
def e7.cell(h:e7 c r w){g:Nat}(d:c.Q g)(e:g<c.w0.heap.size)(o:Nat):w.cell? ⟨g,o,ab⟩=c.w0.cell? ⟨g,o,ab⟩:=qy<|h.k g d e
def abV(c:Cx)(n:Nat)(sa:Option Addr)(vs:Nat->ia):Prop:=n=0\/∃g,sa=na ⟨g,0,ab⟩/\c.Q g/\g<c.w0.heap.size/\∀i,i<n->c.w0.cell? ⟨g,i,ab⟩=na (vs i)
def abV.at{sa:Option Addr}{vs:Nat->ia}(h:abV c n sa vs)(d:j<n)(p:e7 c r w):∃g,sa=na ⟨g,0,ab⟩/\w.cell? ⟨g,j,ab⟩=na (vs j):=by
 obtain rfl|⟨g,e,q,z,hc⟩:=h
 .cases d
 .exact⟨g,e,(p.cell q z j).trans<|hc j d⟩
def WP.fn(H:WP c we cb C us w)(h:e7 c r w')(F:FN c.B c.pb w w'):WP c we cb C r w':=⟨h,H.f.trans F,F.fB H.b H.n.1 H.n.2,H.n⟩
def WP.af(H:WP c we cb C r w)(d:Bq w w'):WP c we cb C r w':=H.fn (H.s.af d)<|FN.of d
def Wn(c:Cx)(we:fa)(cb:Nat)(C:Array ia)(r:List BA)(e:la)(w':fa):Prop:=e=.returned (.tuple #[])/\WP c we cb C r w'
theorem WP.sub(H:WP c we cb C (us++r) w){f:FuncId}{a:Array ia}(K:Wd c f a us):aa j8 f a w (Wn c we cb C r):=(K r w H.s).mono λ_ _ q=>⟨q.1,H.fn q.2.1 q.2.2⟩
def WP.put(us:List BA)(H:WP c we cb C (us++r) w)(t:TypeId)(g:Nat)(e:g=w.heap.size)(i:us.length<=10):aa j8 64 #[c.p,.slice (na ⟨g,0,ab⟩) us.length us.length] (w.alloc<|.cells (us.map xw).toArray t) (Wn c we cb C r):=by
 subst e;have d:Bq w (w.alloc<|Cv (us.map Sv).toArray t):=bw _;refine(Js us (H.s.af d) i _ (vd _ _ _) (by have:=H.s.lt;omega)).mono λ_ _ q=>⟨q.1,(H.af d).fn q.2.1 q.2.2⟩
def WP.out(H:WP c we cb C r w):Dn c r we (.returned<|.tuple #[]) w:=⟨rfl,H.s,H.f⟩
end
def sep(last:BA):List UInt8:=if last.toList=[]\/last.toList=[40]then[]else[32]
def TU(t:BA):Prop:=t.toList≠[]/\t.toList≠[40]
def Yf(h:TU t):sep t=[32]:=by rw[sep];rw[if_neg (by intro q;exact q.elim h.1 h.2)]
def Jt{l:List UInt8}(e:t.toList≠[41])(i:t.toList≠[44])(o:t.toList≠[59]):oR l last t=l++(sep last++t.toList):=by
 rw[oR,spB,sep];rw[show t.data.toList=t.toList from(zy t).symm];by_cases d:last.toList=[]
 .simp[d,e,i,o]
 .grind
def CI{l:List UInt8}(h:t.toList=[41]\/t.toList=[44]):oR l last t=l++t.toList:=by
 rw[oR,spB];rw[show t.data.toList=t.toList from(zy t).symm];obtain h|h:=h<;>simp[h]
inductive pE(w:fa)(P:Nat->Prop):Nd->ia->Prop where
 |var(s:BA)(n f t a:Nat)(x y:Int)(hq:∃r,s.toList=39::r):pE w P (.mk 16 s n [] f t a) (.iface 191<|.agg #[Iv x,Iv y,.string<|s.extract 1 s.size])
 |fn(s:BA)(n:Nat)(a b:Nd)(f t at_:Nat)(x y:Int)(va vb:ia)(ha:pE w P a va)(hb:pE w P b vb):pE w P (.mk 17 s n [a,b] f t at_) (.iface 228<|.agg #[Iv x,Iv y,va,vb])
 |pr(s:BA)(n:Nat)(a b:Nd)(f t at_:Nat)(x y:Int)(va vb:ia)(ha:pE w P a va)(hb:pE w P b vb):pE w P (.mk 6 s n [a,b] f t at_) (.iface 231<|.agg #[Iv x,Iv y,va,vb])
 |up(s:BA)(n:Nat)(L:List Nd)(f t at_:Nat)(x y x' y':Int)(sa:Option Addr)(sc:Nat)(vs:Nat->ia)(hu:p_ s)(bK:L=[]\/∃g,sa=na ⟨g,0,ab⟩/\P g/\g<w.heap.size/\∀i,i<L.length->w.cell? ⟨g,i,ab⟩=na (vs i))(hr:∀i(h:i<L.length),pE w P L[i]<|vs i):
  pE w P (.mk 2 s n L f t at_) (.iface 230<|.agg #[Iv x,Iv y,Iv x',Iv y',.string s,.slice sa L.length sc])
def PT.o(h:PT w P nd v):pE w P nd v:=by
 induction h with
 |var s n f t a x y hq hx hy=>exact .var s n f t a x y hq|fn s n a b f t at_ x y va vb _ _ tK tM=>exact .fn s n a b f t at_ x y va vb tK tM|pr s n a b f t at_ x y va vb _ _ tK tM=>exact .pr s n a b f t at_ x y va vb tK tM|up s n L f t at_ x y x' y' sa sc vs hu bK hr hx hy ih=>exact .up s n L f t at_ x y x' y' sa sc vs hu bK ih
theorem pE.move(h:pE w P nd v)(J:w.heap.size<=w'.heap.size)(K:∀b,P b->b<w.heap.size->w'.heap[b]? =w.heap[b]?)(e:∀b,P b->b<w.heap.size->Q b):pE w' Q nd v:=by
 induction h with
 |var s n f t a x y e=>exact .var s n f t a x y e|fn s n a b f t at_ x y va vb _ _ tK tM=>exact .fn s n a b f t at_ x y va vb tK tM|pr s n a b f t at_ x y va vb _ _ tK tM=>exact .pr s n a b f t at_ x y va vb tK tM|up s n L f t at_ x y x' y' sa sc vs hu bK hr ih=>
  refine .up s n L f t at_ x y x' y' sa sc vs hu ?_ ih;obtain A|⟨g,I,o,d,hc⟩:=bK
  .exact qj A
  .refine qi ⟨g,I,e g o d,qm d J,λi hi=>?_⟩;rw[qy (a:=⟨g,i,ab⟩) (w:=w)<|K g o d];exact hc i hi
def pE.af(h:pE w P nd v)(d:Bq w w'):pE w' P nd v:=h.move d.size (λb _ hz=>d.block b hz)<|λ_ p _=>p
def pE.wide(h:pE w P nd v)(d:∀b,P b->Q b):pE w Q nd v:=h.move (br _) (λ_ _ _=>rfl)<|λb p _=>d b p
def pE.fr(h:pE w P nd v)(d:Fr S w w')(e:∀b,P b->b<w.heap.size->¬S b):pE w' P nd v:=h.move d.size (λb p z=>d.block b z<|e b p z)<|λ_ p _=>p
def pE.iface{a:Nd}(h:pE w P a v):∃t x,v=.iface t (.agg x):=by
 cases h<;>exact⟨_,_,rfl⟩
def pE.dI{a:Nd}(h:pE w P a v):∃t x,v=.iface t (.agg x):=h.iface
def zP{w1}(h:Bq W.drew w1):Bq W w1:=((zg W.heap.size W).drew).trans h
def wZ(b:Bool)(l:List BA):List BA:=if b then bT::(l++[bH])else l
def aw(p:Nat×List BA)(k:Nat):List BA:=wZ (decide (p.1<k)) p.2
def gw(P:List (Nat×List BA))(i:Nat):Nat×List BA:=P.getD i (0,[])
def uE:Bool->List (Nat×List BA)->List BA
 |b,p::e::r=>(if b then sH else oN)::(p.2++(cH::(e.2++uE fb r)))|_,_=>[]
def jw(k:Nat)(s:BA)(n l:Nat)(P:List (Nat×List BA)):List BA:=
 if k=1\/k=4\/k=16 then[s]
 else if k=15 then[pR]
 else if k=3 then[bs<|dec n]
 else if k=5 then[bT,bH]
 else if k=2 then s::P.flatMap λp=>aw p 5
 else if k=6 then bT::((gw P 0).2++(db::((gw P 1).2++[bH])))
 else if k=14 then bT::((gw P 0).2++(mY::((gw P 1).2++[bH])))
 else if k=17 then aw (gw P 0) 2++(cH::(gw P 1).2)
 else if k=8 then aw (gw P 0) 4++aw (gw P 1) 5
 else if k=7 then aw (gw P 0) (if l=1 then 2 else l)++(s::aw (gw P 1) (l+1))
 else if k=9 then wT::s::cH::(gw P 0).2
 else if k=12 then W7::((gw P 0).2++(yV::((gw P 1).2++(yW::(gw P 2).2))))
 else if k=13 then gW::((gw P 0).2++(uE bb (P.drop 1)++[wU]))
 else jZ::((if k=11 then[pS]else[])++(s::tN::((gw P 0).2++(kIn::(gw P 1).2))))
mutual
def sw:Nd->List BA
 |.mk k s n L f t a=>jw k s n (lv<|.mk k s n L f t a)<|ij L
def ij:List Nd->List (Nat×List BA)
 |[]=>[]|x::l=>(lv x,sw x)::ij l
end
def cK(nd:Nd)(k:Nat):List BA:=aw (lv nd,sw nd) k
def pF:∀L:List Nd,ij L=L.map λx=>(lv x,sw x)
 |[]=>rfl|x::l=>by simp[ij,pF l]
def Qk(p:Nat×List BA):aw p 0=p.2:=by simp[aw,wZ]
def Yg{p:Nat×List BA}(h:0<p.2.length):0<(aw p k).length:=by
 rw[aw,wZ];split
 .simp
 .exact h
def itl{p:Prop}[Decidable p]{a b:List BA}(h:0<a.length)(k:0<b.length):0<(if p then a else b).length:=by split<;>assumption
mutual
def Yh:∀nd:Nd,0<(sw nd).length
 |.mk k s n L f t a=>by
  have h:=Ql L;have h0:0<(aw (gw (ij L) 0) 4).length:=by
   cases hL:ij L with
   |nil=>simp[gw,aw,wZ]|cons p r=>exact Yg (h p (by rw[hL];simp))
  simp only[sw];rw[jw];iterate 13 (refine itl (by first|(simp;done)|(simp only[g_,eG];omega)) ?_)
  simp
def Ql:∀(L:List Nd),∀p∈ij L,0<p.2.length
 |[],p,h=>by simp[ij]at h|x::l,p,h=>by
  simp only[ij,jt]at h;obtain rfl|h:=h
  .exact Yh x
  .exact Ql l p h
end
def CJ(L:List Nd)(k:Nat):L.length<=(L.flatMap λx=>cK x k).length:=by
 induction L with
 |nil=>simp|cons x l ih=>
  have:0<(cK x k).length:=Yg<|Yh x;simp only[List.flatMap_cons,g_,eG];omega
def AV:Nat->Nat
 |0=>0|1=>2|_=>5
section
variable {c:Cx} {r us:List BA}
def Ju{p:Prop}(h:p:=by
 go_wp2_with fail;refine HC.mono ?_;rintro e w1⟨rfl,h1⟩
 go_wp2
 go_end0
 exact⟨rfl,h1⟩):p:=h
def Qm{F:FuncId}{caps:Array ia}(d:Bool)(J:fa->Prop)(hJ:∀w w',FN c.B c.pb w w'->J w->J w')(hcf:∀args w,(callFunc F args).run j8 w=.ok (.enter F args) w)(K:∀r w,e7 c (us++r) w->J w->aa j8 F caps w (Dn c r w))(h:e7 c (wZ d us++r) w)(j:J w):
 aa j8 76 #[c.p,.bool d,.func (.func F) #[] caps] w (Dn c r w):=by
 cases d with
 |false=>
  have HC:=K r w h j;clear K;go_in;exact Ju
 |true=>
  have h:e7 c ([bT]++(us++([bH]++r))) w:=by simpa[wZ]using h
  have i:∀(w:fa)s,Bq w<|w.alloc<|Cv #[Sv s] 9:=λw s=>bw _;have O:=Js [bT] (h.af<|i w bT) ag w.heap.size (Bx.new w _ _) (by have:=h.lt;omega);go_in;go_wp;refine O.mono ?_;rintro e w1⟨rfl,h1,R⟩;have I:=(FN.of<|i w bT).trans R;have HC:=K _ w1 h1<|hJ _ _ I j;clear K;go_wp2_with fail;refine HC.mono ?_;rintro e o⟨rfl,N,X⟩;have A:=Js [bH] (N.af<|i o bH) ag o.heap.size (Bx.new o _ _) (by have:=N.lt;omega);go_wp2_with fail;refine A.mono ?_;rintro e w3⟨rfl,Y,Z⟩
  go_wp2
  go_end0;exact⟨rfl,Y,(I.trans X).trans<|(FN.of<|i o bH).trans Z⟩
def ClP(c:Cx)(F:FuncId)(v:ia)(us:List BA):=∀b1 b2 r w,e7 c (us++r) w->Bx w b1 #[c.p]->Bx w b2 #[v]->aa j8 F #[Pv b1,Pv b2] w (Dn c r w)
def grp{F:FuncId}(J:∀args w,(callFunc F args).run j8 w=.ok (.enter F args) w)(K:ClP c F v us){d:Bool}{A:fa}{i:Nat}(R:∀k,v≠.int .u8 k)(h:e7 c (wZ d us++r) A)(X:Bx A i #[c.p])(Y:Bx A (i+1) #[v])(Z:i≠c.pb)(n2:i+1≠c.pb)(I:Bq A W):
 aa j8 76 #[c.p,.bool d,.func (.func F) #[] #[Pv i,Pv<|i+1]] W (λe w'=>e=.returned (.tuple #[])/\(e7 c r w'/\FN c.B c.pb A w')/\w'.cell? ⟨i,0,ab⟩=na c.p/\w'.cell? ⟨i+1,0,ab⟩=na v):=by
 have N:∀w w',FN c.B c.pb w w'->(Bx w i #[c.p]/\Bx w (i+1) #[v])->Bx w' i #[c.p]/\Bx w' (i+1) #[v]:=λw w' F j=>⟨F.fB j.1 Z (by intro x o k;simp at o;subst o;nofun),F.fB j.2 n2 (by intro x o k;simp at o;subst o;exact R k)⟩;have o:Bx W i #[c.p]/\Bx W (i+1) #[v]:=⟨X.below I,Y.below I⟩;refine(Qm d _ N J (λr w h j=>K i (i+1) r w h j.1 j.2) (h.af I) o).mono ?_;rintro e w'⟨rfl,O,F⟩;have j:=N _ _ F o;exact⟨rfl,⟨O,(FN.of I).trans F⟩,j.1.c 0,j.2.c 0⟩
def Qn{p:Prop}(h:p:=by
 refine⟨2,hk ?_ ?_ ?_,λw=>?_⟩;iterate 3 simp[lv,AV]
 go_wp2
 go_ret
 exact⟨rfl,(zg _ _)⟩):p:=h
def Ey{p:Prop}(h:p:=by
 go_wp2
 go_ret
 exact⟨rfl,bw _⟩):p:=h
def Yi(h:pE w0 Q nd v):∃r:Nat,(∀k,k<=2->decide (r<k)=decide (lv nd<AV k))/\∀w,aa j8 77 #[v] w λe w'=>e=.returned (Nv r)/\Bq w w':=by
 have hk:∀{p:Nat->Prop},p 0->p 1->p 2->∀k,k<=2->p k:=λa b d k hk=>match k,hk with
  |0,_=>a|1,_=>b|2,_=>d
 cases h with
 |var s n f t a x y hq=>
  exact Qn
 |fn s n a b f t at_ x y va vb ha hb=>
  obtain⟨i,o,rfl⟩:=ha.iface;obtain⟨A,I,rfl⟩:=hb.iface;refine⟨0,hk ?_ ?_ ?_,λw=>?_⟩;iterate 3 simp[lv,AV]
  exact Ey
 |pr s n a b f t at_ x y va vb ha hb=>
  obtain⟨i,o,rfl⟩:=ha.iface;obtain⟨A,I,rfl⟩:=hb.iface;exact Qn
 |up s n L f t at_ x y x' y' sa sc vs hu bK hr=>
  by_cases i:L=[]
  .subst i;refine⟨2,hk ?_ ?_ ?_,λw=>?_⟩;iterate 3 simp[lv,AV]
   exact Ey
  .have hl:0<L.length:=List.length_pos_iff.2 i;refine⟨1,hk ?_ ?_ ?_,λw=>?_⟩;iterate 3 simp[lv,AV,i]
   exact Ey
def abW(K:Wd c 79 #[c.p,.iface tv<|.agg xv] us):ClP c 78 (.iface tv<|.agg xv) us:=by
 intro b1 b2 r w h h1 d;obtain⟨c1,f1,z1⟩:=h1;obtain⟨c2,f2,z2⟩:=d;have HC:=K r w h;clear K;go_in;exact Ju
def Yj(HB:Wd c 79 #[c.p,.iface tv<|.agg xv] us){q:Nat}(HQ:∀w,aa j8 77 #[.iface tv<|.agg xv] w λe w'=>e=.returned (Nv q)/\Bq w w')(k:Nat):Wd c 50 #[c.p,.iface tv<|.agg xv,Nv k] (wZ (decide (q<k)) us):=by
 intro r w h;have I:=h.lt;have d:Bq w ((w.alloc<|Cv #[c.p] 72).alloc<|Cv #[Fv tv<|Av xv] 155):=(bw _).alloc ag _;have o:=((Bx.new w #[c.p] 72).alloc<|Cv #[Fv tv<|Av xv] 155);have A:=Bx.at (w.alloc<|Cv #[c.p] 72) #[Fv tv<|Av xv] 155 (w.heap.size+1) ag;have X:=h.af d;have Z:=FN.of (B:=c.B) (pb:=c.pb) d;have O:∀w',e7 c r w'->FN c.B c.pb ((w.alloc<|Cv #[c.p] 72).alloc<|Cv #[Fv tv<|Av xv] 155) w'->Dn c r w (Rv<|.tuple #[]) w':=λw' a b=>⟨rfl,a,Z.trans b⟩;generalize Dn c r w=R at O⊢;clear h d Z;go_in;go_wp;generalize((w.alloc<|Cv #[c.p] 72).alloc<|Cv #[Fv tv<|Av xv] 155)=W0 at o A X O⊢;generalize w.heap.size=b1 at o A I⊢;have HG:=ai (λW hW=>grp (W:=W) (λ_ _=>qkr) (abW HB) (by nofun) X o A ae ae hW);have k1:=o.c 0;have k2:=A.c 0;have z1:=o.z;have z2:=A.z;simp only[List.getElem?_toArray,List.getElem?_cons_zero]at k1 k2;have Y:=ai HQ;have HR:=ai O;clear HB X o A HQ I O
 go_region_held3(λw'=>w'.cell? ⟨b1,0,ab⟩=na c.p/\w'.cell? ⟨b1+1,0,ab⟩=na (Fv tv<|Av xv)) (first|go_keep|(simp[*])) (first|(go_at_call 77;refine(uh Y _).mono ?_;rintro e w1⟨rfl,J⟩;have i:=ai<|zP J;have k3:w1.cell? ⟨b1,0,ab⟩=na c.p:=(qy (a:=⟨b1,0,ab⟩)<|(uh i).block b1 z1).trans k1;have k4:w1.cell? ⟨b1+1,0,ab⟩=na (Fv tv<|Av xv):=(qy (a:=⟨b1+1,0,ab⟩)<|(uh i).block (b1+1) z2).trans k2;clear J)|(go_at_call 76;with_reducible refine(uh HG _<|uh i).mono ?_;rintro e w2⟨rfl,K,k5,k6⟩;have N:=ai K;clear K))
 all_goals(
  go_wp2
  go_end0
  exact uh HR _ (uh N).1 (uh N).2)
end
def Qo(h:Ve s):(⟨#[39]⟩:BA)++s.extract 1 s.size=s:=by
 obtain⟨r,e⟩:=h;apply toList_inj;rw[e];have d:=xP e;rw[tl]at d;rw[zy]at d⊢;rw[ByteArray.data_append];simp only[Array.toList_append,d];rfl
def Qp{α β:Type}(L:List α)(f:α->List β)(h:j<L.length)(r:List β):(L.drop j).flatMap f++r=f L[j]++((L.drop<|j+1).flatMap f++r):=by rw[jx h];simp only[List.flatMap_cons,jl]
def NmR(c:Cx)(L:List Nd)(r:List BA)(w:fa)(d:Nat)(v:ia)(wr:fa):=
 ∃j,Hid (d=L.length-j)/\j<=L.length/\v=Nv j/\e7 c (((L.drop j).flatMap λx=>cK x 5)++r) wr/\FN c.B c.pb w wr
section
variable {c:Cx} {r us:List BA}
def Qq(s:BA)(x y:Int)(L:List Nd)(sa:Option Addr)(sc:Nat)(vs:Nat->ia)(o:abV c L.length sa vs)(J:∀i,i<L.length->∃t x,vs i=.iface t (.agg x))(Z:∀i(h:i<L.length),Wd c 50 #[c.p,vs i,Iv 2]<|cK L[i] 5):
 Wd c 66 #[c.p,.agg #[Iv x,Iv y,.string s],.slice sa L.length sc] (s::L.flatMap λx=>cK x 5):=by
 intro r w h;have hL:=CJ L 5;have A:=h.len;simp only[eG,g_]at A;have R:=(WP.new h (Iv x) [Iv y,Sv s] 92).put [s] 9 (w.heap.size+1) ag ag;go_in;go_wp;refine R.mono ?_;rintro e w1⟨rfl,H⟩;have H:=ai H
 go_wp2
 go_loopg[15] L.length (λgk v wr=>NmR c L r w gk v wr)
 case atStart=>exact⟨0,ai rfl,ql _,rfl,(uh H).s,(uh H).f⟩
 case round=>
  obtain⟨j,I,hj,rfl,P,F⟩:=hrel;by_cases d:j<L.length
  .have X:=kK d;obtain⟨g,rfl,Y⟩:=o.at d P;have⟨tv,xv,J⟩:=J j d;rw[Qp _ _ d]at P;have K:=Z j d _ wr P;rw[J]at Y K;go_wp2_with(go_at_call 50;refine K.mono ?_;rintro e w3⟨rfl,N⟩;have O:=ai N;clear N);go_roundg(L.length-(j+1))
   case measure=>rw[uh I];omega
   case rel=>exact⟨j+1,ai rfl,ae,iF,(uh O).1,F.trans (uh O).2⟩
  .have X:=nN d;have K:j=L.length:=ae;subst K;rw[jz]at P
   go_wp2
   go_end0;exact⟨rfl,P,F⟩
def Qr{p:Prop}(h:p:=by
 go_in;go_wp;refine HP.mono ?_;rintro e w1⟨rfl,H⟩
 go_wp2
 go_end0
 exact H.out):p:=h
def Yk(h:pE c.w0 c.Q nd v):∀k:Nat,k<=2->Wd c 50 #[c.p,v,Nv k] (cK nd<|AV k):=by
 have at_:∀{nd:Nd}{v:ia},pE c.w0 c.Q nd v->Wd c 79 #[c.p,v] (sw nd)->∀k:Nat,k<=2->Wd c 50 #[c.p,v,Nv k] (cK nd<|AV k):=λh K k hk=>by
  have⟨q,d,o⟩:=Yi h;obtain⟨tv,xv,rfl⟩:=h.iface;have:=Yj K o k;rw[d k hk]at this;exact this
 induction h with
 |var s n f t a x y d=>
  refine at_ (.var s n f t a x y d) ?_;intro r w h;have aiG:=Qo d;have hss:=h.tok (t:=s) (by simp[sw,jw]);have h:e7 c ([s]++r) w:=by simpa[sw,jw]using h
  have HP:=(WP.new h (Iv x) [Iv y,Sv<|s.extract 1 s.size] 191).put [s] 9 (w.heap.size+1) ag ag;exact Qr
 |fn s n a b f t at' x y va vb ha hb tK tM=>
  refine at_ (.fn s n a b f t at' x y va vb ha hb) ?_;intro r w h;obtain⟨I,J,rfl⟩:=ha.iface;obtain⟨N,O,rfl⟩:=hb.iface;have h:e7 c (cK a 2++([cH]++(cK b 0++r))) w:=by simpa[sw,jw,ij,gw,cK,Qk]using h
  have HP:=(WP.new h (Iv x) [Iv y,Fv I<|Av J,Fv N<|Av O] 228).sub<|tK 1 ae;go_in;go_wp;refine HP.mono ?_;rintro e w1⟨rfl,H⟩;have⟨d,o,A⟩:=H.b;go_wp2_with fail;refine(H.put [cH] 9 _ rfl ag).mono ?_;rintro e R⟨rfl,H⟩;have⟨d,o,A⟩:=H.b;go_wp2_with fail;refine(H.sub<|tM 0 ae).mono ?_;rintro e X⟨rfl,H⟩
  go_wp2
  go_end0;exact H.out
 |pr s n a b f t at' x y va vb ha hb tK tM=>
  refine at_ (.pr s n a b f t at' x y va vb ha hb) ?_;intro r w h;obtain⟨I,J,rfl⟩:=ha.iface;obtain⟨N,O,rfl⟩:=hb.iface;have h:e7 c ([bT]++(cK a 0++([db]++(cK b 0++([bH]++r))))) w:=by simpa[sw,jw,ij,gw,cK,Qk]using h
  have HP:=(WP.new h (Iv x) [Iv y,Fv I<|Av J,Fv N<|Av O] 231).put [bT] 9 (w.heap.size+1) ag ag;go_in;go_wp;refine HP.mono ?_;rintro e w1⟨rfl,H⟩;have⟨d,o,A⟩:=H.b;go_wp2_with fail;refine(H.sub<|tK 0 ae).mono ?_;rintro e R⟨rfl,H⟩;have⟨d,o,A⟩:=H.b;go_wp2_with fail;refine(H.put [db] 9 _ rfl ag).mono ?_;rintro e X⟨rfl,H⟩;have⟨d,o,A⟩:=H.b;go_wp2_with fail;refine(H.sub<|tM 0 ae).mono ?_;rintro e w4⟨rfl,H⟩;have⟨d,o,A⟩:=H.b;go_wp2_with fail;refine(H.put [bH] 9 _ rfl ag).mono ?_;rintro e w5⟨rfl,H⟩
  go_wp2
  go_end0;exact H.out
 |up s n L f t at' x y x' y' sa sc vs hu bK hr ih=>
  refine at_ (.up s n L f t at' x y x' y' sa sc vs hu bK hr) ?_;intro r w h;have h:e7 c ((s::L.flatMap λx=>cK x 5)++r) w:=by simpa[sw,jw,pF,List.flatMap_map,cK]using h
  have HP:=(WP.new h (Iv x) [Iv y,Iv x',Iv y',Sv s,Lv sa L.length sc] 230).sub (Qq s x' y' L sa sc vs (bK.imp (λe=>by rw[e];rfl) id) (λi hi=>(hr i hi).iface)<|λi hi=>ih i hi 2 ae);exact Qr
end
abbrev opW(a b d e:Nat):ia:=.func (.func 121) #[] #[Pv a,Pv b,Pv d,Pv e]
def Bi(w:fa)(pb lo x y z:Nat)(f:ia):=∃a b d e,f=opW a b d e/\(lo<=a/\lo<=b/\lo<=d/\lo<=e)/\Bx w a #[Pv pb]/\Bx w b #[Nv x]/\Bx w d #[Nv y]/\Bx w e #[Nv z]
def PM(w:fa)(pb:Nat)(mv:ia):=∃mb f0 f1 f2 f3,mv=Mv mb/\pb<mb/\MS xw w mb [(b8,f0),(cY,f1),(bM,f2),(cD,f3)]/\Bi w pb (pb+1) 0 1 1 f0/\Bi w pb (pb+1) 1 1 2 f1/\Bi w pb (pb+1) 1 1 2 f2/\Bi w pb (pb+1) 2 2 3 f3
section
variable {lo z:Nat} {f mv:ia}
def Bi.imp(h:Bi w pb lo x y z f)(i:Nat)(o:i<=lo)(k:∀{b:Nat}{v:ia},lo<=b->(∀k,v≠.int .u8 k)->Bx w b #[v]->Bx w' b #[v]):Bi w' pb i x y z f:=by
 obtain⟨a,b,d,e,rfl,⟨A,I,J,K⟩,N,O,R,X⟩:=h;exact⟨a,b,d,e,rfl,⟨qk o A,qk o I,qk o J,qk o K⟩,k A nofun N,k I nofun O,k J nofun R,k K nofun X⟩
def Bi.af(h:Bi w pb lo x y z f)(d:Bq w w'):Bi w' pb lo x y z f:=h.imp lo (br _) λ_ _ b=>b.below d
def Bi.one{m:Nat}(h:Bi w pb lo x y z f)(d:One m w w')(hm:m<lo):Bi w' pb lo x y z f:=h.imp lo (br _) λl _ b=>b.one d ae
def Bi.fn(h:Bi w pb (pb+1) x y z f)(e:FN B pb w w'):Bi w' pb (pb+1) x y z f:=h.imp _ (br _) λl n b=>e.fB b ae (by intro q d;simp at d;subst d;exact n)
def PM.fn(h:PM w pb mv)(d:FN B pb w w'):PM w' pb mv:=by
 obtain⟨mb,o,A,I,J,e,K,i,N,O,R,X⟩:=h;refine⟨mb,o,A,I,J,e,K,i.same<|d.block mb i.lt ae<|qi ?_,N.fn d,O.fn d,R.fn d,X.fn d⟩;obtain⟨es,clock,Y,_⟩:=i;intro y Z c;simp[xf,Y]at Z
def xS(p x y z:Nat)(w:fa):aa j8 63 #[Pv p,Nv x,Nv y,Nv z] w λe w'=>∃f,e=.returned f/\Bi w' p w.heap.size x y z f/\Bq w w':=by
 go_wp2
 go_ret;refine⟨_,rfl,⟨w.heap.size,w.heap.size+1,w.heap.size+2,w.heap.size+3,rfl,⟨br _,ae,ae,ae⟩,?_,?_,?_,?_⟩,(((bw _).alloc ag _).alloc bQ _).alloc bQ _⟩
 .exact(((vd w #[Pv p] _).alloc _).alloc _).alloc _
 .exact((Bx.at _ #[Nv x] _ _ ag).alloc _).alloc _
 .exact(Bx.at _ #[Nv y] _ _ ag).alloc _
 .exact Bx.at _ #[Nv z] _ _ ag
def OpS(w:fa)(pb lo:Nat)(l:List (Nat×Nat×Nat×ia)):=∀q∈l,Bi w pb lo q.1 q.2.1 q.2.2.1 q.2.2.2
def OpS.one{m:Nat}{l:List (Nat×Nat×Nat×ia)}(h:OpS w pb lo l)(d:One m w w')(e:m<lo):OpS w' pb lo l:=λq hq=>(h q hq).one d e
def OpS.add{d:Nat}{l:List (Nat×Nat×Nat×ia)}(h:OpS w pb lo l)(e:Bq w w')(o:Bi w' pb d x y z f)(i:lo<=d):OpS w' pb lo ((x,y,z,f)::l):=λq hq=>by
 obtain rfl|hq:=List.mem_cons.1 hq
 .exact o.imp lo i λ_ _ b=>b
 .exact(h q hq).af e
def M7(p:Nat)(w:fa):aa j8 40 #[.pointer<|some ⟨p,0,ab⟩] w λe w'=>∃f0 f1 f2 f3,e=.returned (.map<|some w.heap.size)/\MS xw w' w.heap.size [(b8,f0),(cY,f1),(bM,f2),(cD,f3)]/\OpS w' p (w.heap.size+1) [(2,2,3,f3),(1,1,2,f2),(1,1,2,f1),(0,1,1,f0)]/\Below w.heap.size w w':=by
 have H:=ai<|Ma.new (w:=w);have d:=ai<|(Below.refl w.heap.size w).alloc (br _)<|.map #[] 0;have A:Hid (OpS (w.alloc<|.map #[] 0) p (w.heap.size+1) []):=ai nofun;go_in;go_wp;refine(xS p 0 1 1 _).mono ?_;rintro e K⟨f0,rfl,o,i⟩;have A:=ai<|(uh A).add i o (uh H).lt;have H:=ai<|(uh H).below i;have d:=ai<|(uh d).trans<|i.mono (uh d).size;clear o i;go_wp2_with(refine aV _ rfl _ _ _ _ (Or.inl rfl) (KL.str Tryz.underlying9) Tryz.underlying81 _ _ rfl (uh H) _ _ rfl rfl trivial (λ_ _=>trivial) ?_;clear H;intro w' J I;have H:=ai J;have d:=ai<|One.below (uh d) I qbr;have A:=ai<|(uh A).one I<|Nat.lt_succ_self _;clear J I);refine(xS p 1 1 2 _).mono ?_;rintro e K⟨f1,rfl,o,i⟩;have A:=ai<|(uh A).add i o (uh H).lt;have H:=ai<|(uh H).below i;have d:=ai<|(uh d).trans<|i.mono (uh d).size;clear o i;go_wp2_with(refine aV _ rfl _ _ _ _ (Or.inl rfl) (KL.str Tryz.underlying9) Tryz.underlying81 _ _ rfl (uh H) _ _ rfl rfl trivial (λ_ _=>trivial) ?_;clear H;intro w' J I;have H:=ai J;have d:=ai<|One.below (uh d) I qbr;have A:=ai<|(uh A).one I<|Nat.lt_succ_self _;clear J I);refine(xS p 1 1 2 _).mono ?_;rintro e K⟨f2,rfl,o,i⟩;have A:=ai<|(uh A).add i o (uh H).lt;have H:=ai<|(uh H).below i;have d:=ai<|(uh d).trans<|i.mono (uh d).size;clear o i
 go_wp2_with(refine aV _ rfl _ _ _ _ (qj rfl) (KL.str j9) Tryz.underlying81 _ _ rfl (uh H) _ _ rfl rfl trivial (λ_ _=>trivial) ?_;clear H;intro w' J I;have H:=ai J;have d:=ai<|One.below (uh d) I qbr;have A:=ai<|(uh A).one I<|qp _;clear J I);refine(xS p 2 2 3 _).mono ?_;rintro e K⟨f3,rfl,o,i⟩;have A:=ai<|(uh A).add i o (uh H).lt;have H:=ai<|(uh H).below i;have d:=ai<|(uh d).trans<|i.mono (uh d).size;clear o i;go_wp2_with(refine aV _ rfl _ _ _ _ (qj rfl) (KL.str j9) Tryz.underlying81 _ _ rfl (uh H) _ _ rfl rfl trivial (λ_ _=>trivial) ?_;clear H;intro w' J I;have H:=ai J;have d:=ai<|One.below (uh d) I qbr;have A:=ai<|(uh A).one I<|qp _;clear J I);go_ret;exact⟨f0,f1,f2,f3,rfl,uh H,uh A,uh d⟩
def Jv(w:fa):aa j8 26 #[] w λe w'=>e=.returned (Pv w.heap.size)/\(∃mv,PN w' w.heap.size w.heap.size (.slice ab 0 0) [] cX mv/\PM w' w.heap.size mv)/\Bq w w':=by
 obtain⟨W,d⟩:∃W,W=w.alloc (Cv #[.pointer ab,Lv ab 0 0,Sv cX,.map ab] 83):=⟨_,rfl⟩;have i:Bq w W:=by rw[d];exact bw _
 have R:W.heap[w.heap.size]? =na (Cv #[.pointer ab,Lv ab 0 0,Sv cX,.map ab] 83 (0,0)):=by rw[d];exact(zo w _).1
 have H0:=ai R;have K:W.heap.size=w.heap.size+1:=by rw[d];simp
 have X:=ai K;have N:=M7 w.heap.size W;rw[K]at N;rw[d]at N;have d:=ai d;clear R K;go_in;go_wp;refine N.mono ?_;rintro e A⟨f0,f1,f2,f3,rfl,Y,Z,I⟩;rw[<-uh d,<-uh X]at I;have h1:A.heap[w.heap.size]? =na (Cv #[.pointer ab,Lv ab 0 0,Sv cX,.map ab] 83 (0,0)):=(I.block _ (by rw[uh X];omega)).trans<|uh H0;have c3:A.cell? ⟨w.heap.size,3,ab⟩=na (.map ab):= qBu;have f3':A.frozen? ⟨w.heap.size,3,ab⟩=fb:=(by simp[World.frozen?,h1]);have H1:=ai h1;have o:=ai<|i.trans<|I.mono i.size;have HM:=ai Y;have HX:=ai Z;clear h1 I Y Z
 go_wp2
 go_ret;have O:=(uh o).size;have J:∀{x y z f},(x,y,z,f)∈_->Bi (A.setCell ⟨w.heap.size,3,ab⟩<|Mv<|w.heap.size+1) w.heap.size (w.heap.size+1) x y z f:=λq=>(uh HX _ q).imp _ ae λl _ b=>b.bU ae 3 _;exact⟨rfl,⟨Mv<|w.heap.size+1,⟨⟨_,(dR (uh H1) 3 _).trans ag,qj rfl⟩,⟨rfl,qj ⟨rfl,rfl⟩⟩,λ_=>rfl,by simp[qz];exact O⟩,w.heap.size+1,f0,f1,f2,f3,rfl,ae,(uh HM).sv ae 3 _,J ag,J ag,J ag,J ag⟩,(uh o).setCell (p:=⟨w.heap.size,3,ab⟩) (br _) _⟩
end
end
section
open Go.ChangeMaps
def FM w b(F:BA->Option Nat):=∃L,MS xw w b L/\∀x,ba x L=(F x).map λ(n:Nat)=>Nv n
section
variable {c:Nat} {F:BA->Option Nat}
def FM.lt(h:FM w b F):b<w.heap.size:=qAr
def FM.same(h:FM w b F)(hb:w'.heap[b]? =w.heap[b]?):FM w' b F:=qAs
def FM.below(h:FM w b F)(d:Bq w w'):FM w' b F:=h.same<|d.block b h.lt
def zQ w:(zeroValue 3).run j8 w=.ok (Iv 0) w:=qkr
def lkV(c:Bool):Option Nat->ia
 |some n=>if c then .tuple #[Nv n,.bool bb]else Nv n|none=>if c then .tuple #[Iv 0,.bool fb]else Iv 0
def FM.look(h:FM w b F)x c:(xo 135 (Mv b) (.string x) c).run j8 w=.ok (lkV c<|F x) w:=by
 obtain⟨L,d,e⟩:=h;rw[d.look (KL.str j9) Tryz.underlying135 (zQ w) x trivial (λ_ _=>trivial) c,e x]
 cases F x<;>rfl
def FM.put{L:List (BA×ia)}(h:∀x,ba x L=(F x).map λ(n:Nat)=>Nv n)s n:∀x,ba x (bF s (Nv n) L)=(iy F s n x).map λ(n:Nat)=>Nv n:=by grind[ba,bF,iy,aO]
def TX w x c:(xo 135 (.map ab) (.string x) c).run j8 w=.ok (lkV c ab) w:=by
 rw[xo];simp only[Sem.run_bind,run_underlying Tryz.underlying135,zx];have d:(Instr.findKey 9 (Sv x) []).run j8 w=.ok ab w:=(KL.str j9).fin x [] [] w trivial ag rfl
 cases c<;>simp[zQ,zx,(KL.str j9).chk,lkV,d]
def MV' w v F:=(v=.map ab/\F=λ_=>ab)\/∃b,v=Mv b/\FM w b F
def MV'.look{v}(h:MV' w v F)x c:(xo 135 v (.string x) c).run j8 w=.ok (lkV c<|F x) w:=by
 obtain⟨rfl,rfl⟩|⟨b,rfl,h⟩:=h
 .exact TX w x c
 .exact h.look x c
def Jw{p:Prop}(h:p:=by
 rw[hF]at hl;simp only[lkV,if_true]at hl;go_wp2
 go_ret
 exact⟨rfl,rfl⟩):p:=h
def Qs(h:MV' w v F)s:aa j8 157 #[v,.string s] w λe w'=>e=.returned (.bool (F s).isSome)/\w'=w:=by
 have hl:=h.look s bb
 cases hF:F s with
 |none=>
  exact Jw
 |some n=>
  exact Jw
def Qt(h:MV' w v F)s n:aa j8 173 #[v,.string s,Nv n] w λe w'=>e=.returned (.bool<|F s==na n)/\w'=w:=by
 have d:=h.look s bb
 cases hF:F s with
 |none=>
  rw[hF]at d;simp only[lkV,if_true]at d;go_wp2
  go_ret;exact⟨rfl,rfl⟩
 |some m=>
  rw[hF]at d;simp only[lkV,if_true]at d
  have i:=ai (show(na m==na n)=((m:Int)==(n:Int)) by
   by_cases e:m=n
   .simp[e]
   .have o:((m:Int)==(n:Int))=fb:=bQ
    rw[o];simp[e])
  rw[uh i];go_wp2
  go_ret;exact⟨rfl,rfl⟩
end
def LM w b(lo:BA->Nat):=∃L,MS xw w b L/\∀x,ba x L=na (Nv<|lo x)\/(ba x L=ab/\lo x=0)
section
variable {lo:BA->Nat}
def LM.lt{b}(h:LM w b lo):b<w.heap.size:=qAr
def LM.same{b}(h:LM w b lo)(hb:w'.heap[b]? =w.heap[b]?):LM w' b lo:=qAs
def LM.look{b}(h:LM w b lo)x:(xo 135 (Mv b) (.string x) fb).run j8 w=.ok (Nv<|lo x) w:=by
 obtain⟨L,d,e⟩:=h;rw[d.look (KL.str j9) Tryz.underlying135 (zQ w) x trivial (λ_ _=>trivial) fb];obtain q|⟨q,i⟩:=e x
 .rw[q];rfl
 .rw[q,i];rfl
def LM.put{L:List (BA×ia)}(h:∀x,ba x L=na (Nv<|lo x)\/(ba x L=ab/\lo x=0))s n:∀x,ba x (bF s (Nv n) L)=na (.int .i64 ((if x=s then n else lo x:Nat):Int))\/(ba x (bF s (Nv n) L)=ab/\(if x=s then n else lo x)=0):=by grind[ba,bF,aO]
def LoR(lo:BA->Nat)(l:List BA):=∀x,lo x≠0↔x∈l
def TY own(F:BA->Option Nat):=∀s:BA,(∃r,s.toList=39::r)->(F<|s.extract 1 s.size).isSome=gG s own
end
end
section
open Un
abbrev aiH(w:fa)base v xs:=w.ownsRow base 9 1 v xs.length xs
structure NL w xb v(l:List BA):Prop where
 o:∃base,aiH w base v<|l.map xw
 n:v.ownBlock≠na xb
structure MK where
 nm:BA
 x:NV
 d:Int
 a:Int
def tyL:List (BA×Nat)->BA->Option Nat
 |[],_=>ab|p::l,s=>if p.1=s then na p.2 else tyL l s
section
variable {wb:Nat} {lv tv cv mv:ia} {tys:List (BA×Nat)} {mks:List MK} {f f':Fl}
def kE l s w gk c(wr:fa):=∃j:Nat,Hid (gk=l.length-j)/\j<=l.length/\c=Nv j/\Hid (tyL l s=tyL (l.drop j) s)/\wr=w
end
def Jx(ty:BA->Option Nat)(own:List BA):∀(L M:List Nd)(z:Fl),iJ ty own (L++M) z=iJ ty own M (iJ ty own L z)
 |[],_,_=>by rw[ji];unfold iJ;rfl|x::l,M,z=>by
  rw[jh];show iJ ty own (l++M) (rV ty own x z)=iJ ty own M (iJ ty own l<|rV ty own x z);exact Jx ty own l M _
def T7 ty own(L:List Nd)z j(h:j<L.length):iJ ty own (L.take<|j+1) z=rV ty own L[j] (iJ ty own (L.take j) z):=by
 rw[jc h,Jx];rfl
def Sm nd:=Ge 0 nd/\nn nd<=1000
def LB.mem{lo:Nat}:∀{L:List Nd},LB lo L->∀x∈L,Ge lo x
 |[],_,x,hx=>by simp at hx|y::l,g,x,hx=>by
  obtain rfl|h:=List.mem_cons.1 hx
  .exact g.1
  .exact LB.mem g.2 x h
def xT:∀{L:List Nd}{x:Nd},x∈L->nn x<=cr L
 |y::l,x,hx=>by
  simp only[cr];obtain rfl|h:=List.mem_cons.1 hx
  .omega
  .have:=xT h;omega
def Sm.part{L:List Nd}{t:Nat}(h:Sm (.mk k s n L f t a)):∀x∈L,Sm x:=λx hx=>by
 obtain⟨d,e⟩:=h;refine⟨LB.mem d.2.2 x hx,?_⟩;simp only[nn]at e;have:=xT hx;omega
def Sm.len{L:List Nd}{t:Nat}(h:Sm (.mk k s n L f t a)):L.length<=1000/\f<=400/\a<=400/\s.size<=400:=by
 obtain⟨d,e⟩:=h;simp only[nn]at e;have:=mJ L;exact⟨ae,d.2.1⟩
def Jy(mk:BA->Option Nat):∀(L M:List Nd)(q:List BA×Fl),dW mk (L++M) q=dW mk M (dW mk L q)
 |[],_,_=>by rw[ji];unfold dW;rfl|x::l,M,q=>by
  rw[jh];show dW mk (l++M) (jJ mk x q)=dW mk M (dW mk l<|jJ mk x q);exact Jy mk l M _
def T8 mk(L:List Nd)q j(h:j<L.length):dW mk (L.take<|j+1) q=jJ mk L[j] (dW mk (L.take j) q):=by
 rw[jc h,Jy];rfl
end
section
open Go.ChangeMaps Go.MapKept
def MB(w:fa)(b:Nat)(L:List (BA×ia)):=∃es clock,w.heap[b]? =na (.map es clock)/\es.toList.map (λe=>(e.key,e.val))=L.map (λp=>(xw p.1,p.2))/\(es.toList.map (·.born)).Nodup/\∀e∈es.toList,e.born<clock
section
variable {L:List (BA×ia)}
def MB.ms(h:MB w b L):MS xw w b L:=by obtain⟨es,c,d,e,_⟩:=h;exact⟨es,c,d,e⟩
def MB.lt(h:MB w b L):b<w.heap.size:=h.ms.lt
def MB.same(h:MB w b L)(i:w'.heap[b]? =w.heap[b]?):MB w' b L:=by obtain⟨es,c,d,e⟩:=h;exact⟨es,c,i.trans d,e⟩
def MB.new(w:fa):MB (w.alloc<|.map #[] 0) w.heap.size []:=⟨#[],0,(zo w _).1,rfl,ag,ag⟩
def wu(l:List MapEntry)j f(hf:∀e,(f e).born=e.born):(l.modify j f).map (·.born)=l.map (·.born):=by
 induction l generalizing j with
 |nil=>cases j<;>simp|cons e r ih=>grind
def MB.put(h:MB w b L)x v:∃o,(xq 135 (Mv b) (.string x) v).run j8 w=.ok () (setBlock w b o)/\MB (setBlock w b o) b (bF x v L):=by
 obtain⟨es,d,A,i,R,X⟩:=h;have K:=KL.str (P:=j8) j9;have I:=K.fin x L es.toList w trivial (λ_ _=>trivial) i;rw[xq];simp only[Sem.run_bind,run_underlying Tryz.underlying135,zx,zu A,K.chk,I]
 cases xL:xK x L 0 with
 |none=>
  refine⟨.map (es.push {key:=Sv x,val:=v,born:=d})<|d+1,by rw[xL]at I;simp[I,zx];exact zt _ A,_,_,(heap_setBlock_same A _),?_,?_,?_⟩
  .rw[ot x v L<|ox x L 0 xL];simp[i]
  .simp only[Array.toList_push,j5,jd,j7];rw[List.nodup_append];refine⟨R,ag,?_⟩;intro a N c hc;obtain⟨e,J,rfl⟩:=List.mem_map.1 N;simp only[List.mem_singleton]at hc;have:=X e J;omega
  .grind
 |some p=>
  obtain⟨j,u⟩:=p;have⟨_,Y,N,Z,h4⟩:=DW (enc:=Sv) x v L es.toList 0 j u i xL;have O:es[j]? =na Y:=by simpa using N
  refine⟨.map (es.modify j λe=>{e with key:=Sv x,val:=v}) d,?_,_,_,(heap_setBlock_same A _),by simpa using h4,?_,?_⟩
  .rw[xL]at I;simp[I,zx,O,Z,Instr.keyThatStays,K.bit];exact zt _ A
  .rw[qx,wu es.toList j (λe=>{e with key:=Sv x,val:=v}) (λ_=>rfl)];exact R
  .intro e J;have:e.born∈(es.modify j λe=>{e with key:=Sv x,val:=v}).toList.map (·.born):=jk J;rw[qx,wu es.toList j (λe=>{e with key:=Sv x,val:=v}) (λ_=>rfl)]at this;have⟨e',h1,N⟩:=List.mem_map.1 this;rw[<-N];exact X e' h1
def wv{ops}{rest}{o}{a}{Q}(I:o.guard=ab)m x v(d:o.op=Op.insert 135 m x v\/o.op=Op.mapUpdate 135 m x v)(J:a.eval m=Mv b)(K:MB w b L)key val(N:a.eval x=.string key)(O:a.eval v=val)(R:∀w',MB w' b (bF key val L)->One b w w'->wpList j8 ops Q rest (a.put o.dst undef) w'):
 wpList j8 ops Q (o::rest) a w:=by
 refine wpList_plain I λK' hK'=>?_;have⟨i,e,A⟩:=K.put key val;rw[Oper.wp];obtain d|d:=d<;>
 .simp[execOp,d,J,N,O,e,zx];exact hK' _ _<|R _ A<|One.set w b i
end
def GM w b p:=∃L,MB w b L/\(L.map (·.1)).Nodup/\∀x,ba x L=if gG x p then na (Iv 1)else ab
def M_{L:List (BA×ia)}(h:(L.map (·.1)).Nodup):((bF s v L).map (·.1)).Nodup:=by
 have d:∀(L:List (BA×ia))x,x∈(bF s v L).map (·.1)->x=s\/x∈L.map (·.1):=by
  intro L x
  induction L with
  |nil=>simp[bF]|cons p r ih=>
   rw[bF];split
   .grind
   .grind
 induction L with
 |nil=>simp[bF]|cons p r ih=>
  simp only[jd,jv]at h;rw[bF];split
  .rename_i e;simp only[jd,jv];exact⟨e▸h.1,h.2⟩
  .rename_i e;simp only[jd,jv];refine⟨λq=>?_,ih h.2⟩;obtain q|q:=d r _ q
   .exact e q
   .exact h.1 q
section
variable {p:List BA}
def GM.lt(h:GM w b p):b<w.heap.size:=qAr
def GM.same(h:GM w b p)(hb:w'.heap[b]? =w.heap[b]?):GM w' b p:=qAs
def GM.mv(h:GM w b p):MV' w (Mv b) (λx=>if gG x p then na 1 else ab):=by
 obtain⟨L,d,_,e⟩:=h;refine qi ⟨b,rfl,L,d.ms,λx=>?_⟩;rw[e x];show _=Option.map _ (if gG x p=bb then na 1 else ab)
 cases gG x p<;>rfl
theorem GM.bF{L:List (BA×ia)}(d:(L.map (·.1)).Nodup)(h:∀x,ba x L=if gG x p then na (Iv 1)else ab)(i:MB w' b (Go.Proofs.YtonaidfgokhmoaaGreatDoor.bF s (Iv 1) L)):GM w' b (p++[s]):=by
 refine⟨_,i,M_ d,λx=>?_⟩;rw[aO,h x];have e:gG x (p++[s])=(gG x p||decide (s=x)):=by unfold gG;rw[List.any_append];simp only[List.any_cons,List.any_nil,Bool.or_false]
 rw[e];by_cases q:s=x
 .simp[q]
 .simp[q]
def GM.new(w:fa):GM (w.alloc<|.map #[] 0) w.heap.size []:=⟨[],MB.new w,ag,λx=>by simp[ba,gG]⟩
end
def IT(w:fa)(r gb:Nat)(p o:List BA)cnt:=∃(es:Array MapEntry)(i d:Nat)(seen:Array Nat)(A:Nat)(L:List (BA×ia)),w.heap[gb]? =na (.map es i)/\es.toList.map (λe=>(e.key,e.val))=L.map (λp=>(xw p.1,p.2))/\(es.toList.map (·.born)).Nodup/\(∀e∈es.toList,e.born<d)/\d<=A/\d<=i/\w.heap[r]? =na (.mapIter (na gb) d seen A)/\(L.map (·.1)).Nodup/\(∀x,ba x L=if gG x p then na (Iv 1)else ab)/\(leftOf es seen).size=cnt/\∀e∈es.toList,∀x,e.key=.string x->(seen.contains e.born=bb↔x∈o)
def Ez{x:BA}:∀{L:List (BA×ia)},(ba x L).isSome=bb↔x∈L.map (·.1)
 |[]=>by simp[ba]|p::l=>by
  rw[ba];split
  .rename_i e;simp[e]
  .rename_i e;rw[Ez (L:=l)];simp only[jd,jt];exact⟨qi,λq=>q.elim (λq=>absurd q.symm e) id⟩
def abX{es:List MapEntry}{L:List (BA×ia)}(h:es.map (λe=>(e.key,e.val))=L.map (λp=>(xw p.1,p.2))):es.map (·.key)=(L.map (·.1)).map xw:=by
 have:=congrArg (List.map Prod.fst) h;simpa[List.map_map,Function.comp_def]using this
def IT.same{p d:List BA}{cnt}(h:IT w r gb p d cnt)(Y:w'.heap[gb]? =w.heap[gb]?)(Z:w'.heap[r]? =w.heap[r]?):IT w' r gb p d cnt:=by
 obtain⟨es,e,i,seen,o,L,A,I,J,K,N,O,R,X⟩:=h;exact⟨es,e,i,seen,o,L,Y.trans A,I,J,K,N,O,Z.trans R,X⟩
def IT.lt{p d:List BA}{cnt}(h:IT w r gb p d cnt):gb<w.heap.size/\r<w.heap.size/\gb≠r:=by
 obtain⟨es,clock,since,seen,c0,L,i,a2,a3,a4,a5,a6,o,a8⟩:=h;refine⟨(Array.getElem?_eq_some_iff.1 i).1,(Array.getElem?_eq_some_iff.1 o).1,λe=>?_⟩;rw[e,o]at i
 cases i
def GM.range{p:List BA}(h:GM w gb p):∃o cnt,(Instr.range 135<|Mv gb).run j8 w=.ok (Pv w.heap.size) (w.alloc o)/\IT (w.alloc o) w.heap.size gb p [] cnt:=by
 obtain⟨L,⟨es,d,i,I,J,K⟩,N,O⟩:=h;have A:=(Array.getElem?_eq_some_iff.1 i).1;refine⟨_,_,run_range_map w 135 _ _ gb es d Tryz.underlying135 i,es,d,d,#[],d,L,((zo w _).2 _ A).trans i,I,J,K,br _,br _,heap_alloc_new w _,N,O,rfl,λe he x hx=>ag⟩
def IT.next{p o:List BA}{cnt}(h:IT w r gb p o cnt):((∀x,gG x p=bb->x∈o)/\(∀x,x∈o->gG x p=bb->True)/\(xt (Pv r) fb 0).run j8 w=.ok (.tuple #[.bool fb]) w)\/
 ∃x v w1 aR,x∉o/\gG x p=bb/\(xt (Pv r) fb 0).run j8 w=.ok (.tuple #[.bool bb,.string x,v]) w1/\IT w1 r gb p (x::o) aR/\aR<cnt/\Fr (λb=>b=r) w w1/\w1.heap.size=w.heap.size/\(Instr.entry<|Pv r).run j8 w1=.ok (.tuple #[.string x,v]) w1:=by
 have⟨hg1,d0,R⟩:=h.lt;obtain⟨es,d,i,seen,c0,L,a1,a2,a3,a4,a5,a6,a7,a8,a9,e0,X⟩:=h;have I:=abX a2;rcases run_next_at (P:=j8) w 0 r gb i c0 seen es d a7 a1 a4 a5 with⟨h0,J⟩|⟨e,Y,w1,N,J⟩
 .left;refine⟨λx hx=>?_,λ_ _ _=>trivial,J⟩;have hin:=Ez.1 (by rw[a9 x,hx];rfl);have:Sv x∈es.toList.map (·.key):=BS;have⟨e,Y,O⟩:=List.mem_map.1 this;exact(X e Y x O).1 (all_seen es seen h0 e Y)
 .right;have⟨A,f0⟩:=mem_left Y;obtain⟨x,hx⟩:∃x,e.key=Sv x:=by
   have:e.key∈es.toList.map (·.key):=jk A;rw[I]at this;have⟨x,_,q⟩:=List.mem_map.1 this;exact⟨x,q.symm⟩
  have g0:x∈L.map (·.1):=by
   have:e.key∈es.toList.map (·.key):=jk A;rw[I,hx]at this;have⟨y,Z,q⟩:=List.mem_map.1 this
   cases q;exact Z
  have i0:x∉o:=λq=>by
   have:=(X e A x hx).2 q;rw[f0]at this;cases this
  have hp:gG x p=bb:=by
   have:=Ez.2 g0;rw[a9 x]at this
   cases hq:gG x p with
   |true=>rfl|false=>grind
  have K:w1.heap=w.heap:=by obtain rfl|rfl:=N<;>rfl
  have b1:∀k,k≠r->(setBlock w1 r<|.mapIter (na gb) i (seen.push e.born) d).heap[k]? =w.heap[k]? :=λk O=>by
   have:(setBlock w1 r<|.mapIter (na gb) i (seen.push e.born) d).heap[k]? =w1.heap[k]? :=by simp[setBlock,qw,Ne.symm O]
   rw[this,K]
  have b2:(setBlock w1 r<|.mapIter (na gb) i (seen.push e.born) d).heap[r]? =na (.mapIter (na gb) i (seen.push e.born) d):=by
   have a0:r<w1.heap.size:=by rw[K];exact d0
   simp[setBlock,qw,a0]
  have a0:(setBlock w1 r<|.mapIter (na gb) i (seen.push e.born) d).heap.size=w.heap.size:=by simp[setBlock,K]
  have b0:(es.toList.map (·.key)).Nodup:=BS;refine⟨x,e.val,_,_,i0,hp,by rw[J,hx],⟨es,d,i,seen.push e.born,d,L,(b1 gb R).trans a1,a2,a3,a4,a6,a6,b2,a8,a9,rfl,λe' he' y Z=>?_⟩,by rw[<-e0];exact left_shrinks es seen e Y,⟨by obtain rfl|rfl:=N<;>rfl,by obtain rfl|rfl:=N<;>rfl,by obtain rfl|rfl:=N<;>rfl,by rw[a0];exact br _,λk _ O=>b1 k O⟩,a0,?_⟩
  .rw[contains_push];simp only[Bool.or_eq_true,beq_iff_eq,jt];constructor
   .rintro(q|q)
    .grind
    .have:e'=e:=born_inj a3 he' A q;rw[this,hx]at Z
     cases Z;exact qj rfl
   .rintro(q|q)
    .right;have:e'=e:=by
      have O:e'.key=e.key:=by rw[Z,hx,q]
      exact entry_eq_of_key (by rw[List.Nodup,List.pairwise_map]at b0;exact b0) he' A O
     rw[this]
    .grind
  .have:=run_entry_at (P:=j8) (setBlock w1 r<|.mapIter (na gb) i (seen.push e.born) d) r gb i seen es d e b2 ((b1 gb R).trans a1) A a3;rw[hx]at this;exact this
end
section
open Go.ChangeMaps Un
def Vl:Nat->List Nat->List (Int×ia)
 |_,[]=>[]|i,a::l=>((a:Int),Nv i)::Vl (i+1) l
def Qv:∀l i,(Vl i l).length=l.length
 |[],i=>rfl|a::l,i=>by simp[Vl,Qv l]
def Jz(s:Nat):∀l i,Vl i (l++[s])=Vl i l++[((s:Int),.int .i64 ((i+l.length:Nat):Int))]
 |[],i=>by simp[Vl]|a::l,i=>by
  simp only[jh,Vl,Jz s l<|i+1];simp;omega
def Qw(s:Nat):∀l i,s∈l->ba (s:Int) (Vl i l)=na (.int .i64 ((i+l.idxOf s:Nat):Int))
 |[],i,h=>vB|a::l,i,h=>by
  rw[Vl,ba];by_cases e:a=s
  .subst e;simp
  .have d:¬((a:Int)=(s:Int)):=ae;have o:(a==s)=fb:=by simpa using e
   rw[if_neg d,Qw s l (i+1)<|(List.mem_cons.1 h).resolve_left<|λq=>e q.symm,List.idxOf_cons,o];simp;omega
def JA(s:Nat):∀l i,¬s∈l->ba (s:Int) (Vl i l)=ab
 |[],i,_=>rfl|a::l,i,h=>by
  rw[Vl,ba];have d:¬((a:Int)=(s:Int)):=λq=>h (by simp;left;omega);rw[if_neg d];exact JA s l (i+1)<|λq=>h<|jf _ q
abbrev ahc:Int->ia:=λn=>Iv n
structure NB w nb mb L:Prop where
 bk:Bx w nb #[Mv mb]
 mp:MS ahc w mb (Vl 0 L)
 ne:nb≠mb
def MS.len{enc}{L:List (κ×ia)}(h:MS enc w b L):∃es clock,w.heap[b]? =na (.map es clock)/\es.size=L.length:=by
 obtain⟨es,c,d,e⟩:=h;refine⟨es,c,d,?_⟩;have:=congrArg List.length e;simpa using this
abbrev nbV(nb:Nat):ia:=.func (.func 74) #[] #[Pv nb]
def NB.fr{S}{w w'}{nb mb}{L}(h:NB w nb mb L)(d:Fr S w w')(e:¬S nb)(i:¬S mb):NB w' nb mb L:=⟨h.bk.fr d e,h.mp.same<|d.block mb h.mp.lt i,h.ne⟩
def NB.af{L:List Nat}(h:NB w nb mb L)(d:Bq w w'):NB w' nb mb L:=h.fr (S:=λ_=>False) (Fr.of d) id id
def vT i:=118::dec i
section
variable {L:List Nat}
def Yl{enc}{M:List (κ×ia)}(h:MS enc w b M){t k e:TypeId}(o:Tryz.prog.underlying t=na (.map k e))(ty:TypeId):(Builtin.len_ #[t] ty #[Mv b]).run j8 w=.ok (Nv M.length) w:=by
 have⟨es,c,d,i⟩:=h.len;simp[Builtin.len_,run_underlying o,zu d,i,goInt]
def Qx w:(zeroValue 3).run j8 w=.ok (Iv 0) w:=qkr
def EA nb mb L n w(e:la)w':=
 e=.returned (.string<|bs<|vT<|(qf L n).idxOf n)/\NB w' nb mb (qf L n)/\Fr (λb=>b=mb) w w'
def T9(h:NB w nb mb L)n(A:(qf L n).length<=96):aa j8 74 #[Nv n,Pv nb] w (EA nb mb L n w):=by
 have K:=h.mp.look (KL.num Tryz.underlying182) Tryz.underlying184 (Qx w) (n:Int) trivial (λ_ _=>trivial) bb;have⟨c,f,z⟩:=h.bk;have d:∀i,(⟨#[118]⟩:BA)++bs (dec i)=bs (vT i):=λi=>by rw[show(⟨#[118]⟩:BA)=bs [118]from rfl,ae1];rfl
 by_cases o:n∈L
 .rw[Qw n L 0 o]at K;simp at K;have es:qf L n=L:=by rw[qf,if_pos o]
  rw[es]at A;have I:=qm (List.idxOf_lt_length_iff.2 o) A;have N:=λW:fa=>Ym (w:=W) (L.idxOf n) I;have hc:=d<|L.idxOf n;have R:(bs<|dec<|L.idxOf n).size<=100:=by rw[gq];have:=EB<|L.idxOf n;omega
  go_in;go_wp2_with(go_at_call 75;refine(N _).mono ?_;rintro e w'⟨rfl,rfl⟩);go_ret;rw[EA];rw[es];exact⟨rfl,h,Fr.refl _ _⟩
 .have Z:=JA n L 0 o;rw[Z]at K;simp at K;have es:qf L n=L++[n]:=by rw[qf,if_neg o]
  have X:(L++[n]).idxOf n=L.length:=by
   rw[List.idxOf_append,if_neg o];simp
  have I:=Yl h.mp Tryz.underlying184;rw[Qv]at I;rw[es]at A;simp at A;have N:=λW:fa=>Ym (w:=W) L.length ae;have hc:=d L.length;have R:(bs<|dec L.length).size<=100:=by rw[gq];have:=EB L.length;omega
  have HM:=ai h.mp;have HK:=ai h.bk;have J:=h.ne;go_in;go_wp2_with(first|(go_at_call 75;refine(N _).mono ?_;rintro e w'⟨rfl,rfl⟩)|(refine aV _ rfl _ _ _ _ (Or.inr rfl) (KL.num Tryz.underlying182) Tryz.underlying184 _ _ rfl HM (n:Int) (Nv L.length) rfl rfl trivial (λ_ _=>trivial) ?_;intro w' H' O';have Y:=ai H';have O2:=ai O';clear H' O'));go_ret;rw[EA];rw[es,X];have O:=uh O2;refine⟨rfl,⟨HK.one O J,?_,J⟩,⟨O.os,O.tape,O.output,by rw[O.size];exact br _,λk hk A=>O.block k A⟩⟩;have:=uh Y;rw[ot _ _ _ Z]at this;rw[Jz];simpa using this
end
def isF(c:BA):Bool:=c.toList==[62]
def isP(c:BA):Bool:=c.toList==[44]
def kd c:=if isF c=bb then 17 else if isP c=bb then 6 else 2
mutual
def sp(a:List Nat):Ty->Nd
 |.var n=>.mk 16 (bs (39::vT ((qf a n).idxOf n))) 0 [] 0 0 0|.aM c l=>.mk (kd c) c 0 (oV a l) 0 0 0
def oV(a:List Nat):List Ty->List Nd
 |[]=>[]|t::l=>sp a t::oV (vars a t) l
end
def ED c:isF c=bb↔c=rG:=by
 rw[isF];rw[beq_iff_eq];exact⟨λh=>toList_inj<|h.trans (toList_mk [62]).symm,λh=>by rw[h];exact toList_mk [62]⟩
def Qy c:isP c=bb↔c=pq:=by
 rw[isP];rw[beq_iff_eq];exact⟨λh=>toList_inj<|h.trans (toList_mk [44]).symm,λh=>by rw[h];exact toList_mk [44]⟩
def EE:∀(l:List Ty)(a:List Nat),(oV a l).length=l.length
 |[],a=>rfl|t::l,a=>by simp[oV,EE l]
def JB:∀(l:List Ty)(a:List Nat)(i:Nat)(h:i<l.length),oV a (l.take<|i+1)=oV a (l.take i)++[sp (aX a<|l.take i) l[i]]/\aX a (l.take<|i+1)=vars (aX a<|l.take i) l[i]
 |[],a,i,h=>vB|t::l,a,0,h=>by simp[oV,aX]|t::l,a,i+1,h=>by
  have:=JB l (vars a t) i uY;simp only[jq,oV,aX,this,jo];simp
def zR:∀(a b:List Ty)(x:List Nat),aX x (a++b)=aX (aX x a) b
 |[],b,x=>rfl|t::a,b,x=>by simp[aX,zR a b]
def Bj l a i:(aX a<|l.take i).length<=(aX a l).length:=by
 have:aX a l=aX (aX a<|l.take i) (l.drop i):=by
  rw[<-zR,List.take_append_drop]
 rw[this];exact(jF _ _).length_le
def pE.by{w}{P}{nd}{v}(h:pE w P nd v):pE w (λb=>P b/\b<w.heap.size/\Vk w b) nd v:=by
 induction h with
 |var s n f t a x y hq=>exact .var s n f t a x y hq|fn s n a b f t at_ x y va vb _ _ tK tM=>exact .fn s n a b f t at_ x y va vb tK tM|pr s n a b f t at_ x y va vb _ _ tK tM=>exact .pr s n a b f t at_ x y va vb tK tM|up s n L f t at_ x y x' y' sa sc vs hu bK hr ih=>
  refine .up s n L f t at_ x y x' y' sa sc vs hu ?_ ih;obtain A|⟨g,I,J,d,hc⟩:=bK
  .exact qj A
  .by_cases i:L=[]
   .exact qj i
   .have o:=List.length_pos_iff.2 i;refine qi ⟨g,I,⟨J,d,λq hq c e=>?_⟩,d,hc⟩;have⟨t',x'',K⟩:=(hr 0 o).dI;rw[hc 0 o,K]at hq
    cases hq
    cases e
def Qz{p:Prop}(h:p:=by
 subst ha hb;go_wp2
 go_region
 all_goals(
  go_wp2
  go_ret
  exact⟨rfl,(zg _ _).drew⟩)):p:=h
def abY g sc va vb ta tb xa xb(ha:va=.iface ta xa)(hb:vb=.iface tb xb)(h0:w.cell? ⟨g,0,ab⟩=na va)(h1:w.cell? ⟨g,1,ab⟩=na vb):aa j8 80 #[.string ⟨#[45,62]⟩,.slice (na ⟨g,0,ab⟩) 2 sc] w λe w'=>e=.returned (.iface 228<|.agg #[Iv 0,Iv 0,va,vb])/\Bq w w':=by
 exact Qz
def abZ g sc va vb ta tb xa xb(ha:va=.iface ta xa)(hb:vb=.iface tb xb)(h0:w.cell? ⟨g,0,ab⟩=na va)(h1:w.cell? ⟨g,1,ab⟩=na vb):aa j8 80 #[.string ⟨#[44]⟩,.slice (na ⟨g,0,ab⟩) 2 sc] w λe w'=>e=.returned (.iface 231<|.agg #[Iv 0,Iv 0,va,vb])/\Bq w w':=by
 exact Qz
def ab0 c(d:p_ c)sa n sc:aa j8 80 #[.string c,.slice sa n sc] w λe w'=>e=.returned (.iface 230<|.agg #[Iv 0,Iv 0,Iv 0,Iv 0,.string c,.slice sa n sc])/\Bq w w':=by
 have h1:(c.toList==[45,62])=fb:=by rw[<-zv,beq_iff_eq];exact dQ d 45 [62] aD
 have h2:(c.toList==[44])=fb:=by rw[<-zv,beq_iff_eq];exact dQ d 44 [] aD
 go_wp2
 go_ret;exact⟨rfl,zg _ _⟩
def ae2 nb mb nd a' w(e:la)w':=
 ∃u,e=.returned u/\pE w' (λb=>w.heap.size<=b) nd u/\NB w' nb mb a'/\Fr (λb=>b=mb) w w'
def SpC T:=∀(w:fa)(nb mb:Nat)(a:List Nat)(P:Nat->Prop)(v:ia),eh w P T v->NB w nb mb a->(∀b,P b->b≠mb)->Wf T->(vars a T).length<=96->ak [T]<=1000->
 aa j8 51 #[v,nbV nb] w (ae2 nb mb (sp a T) (vars a T) w)
@[simp] theorem aiI a w:(xn (.iface 182<|Iv a) 105 182 bb).run j8 w=.ok (.tuple #[Iv a,.bool bb]) w:=qkr
@[simp] theorem ae3 a b w:(xn (.iface 194<|.agg #[a,b]) 105 182 bb).run j8 w=.ok (.tuple #[Iv 0,.bool fb]) w:=qkr
def ae4 n:SpC (.var n):=by
 intro w nb mb a P v h i hP hW d hs
 cases h
 simp only[vars]at d;have o:=T9 i n d;go_in;go_wp;refine o.mono ?_;rintro e w1⟨rfl,A,I⟩
 go_wp2
 go_ret;refine⟨_,rfl,?_,A,I⟩;have J:Ve (bs (39::vT ((qf a n).idxOf n))):=⟨_,toList_mk _⟩;have K:bs (vT<|(qf a n).idxOf n)=(bs (39::vT ((qf a n).idxOf n))).extract 1 (bs (39::vT ((qf a n).idxOf n))).size:=by
  apply toList_inj;have:=xP (s:=bs (39::vT ((qf a n).idxOf n)))<|toList_mk _;rw[tl]at this;rw[this];exact toList_mk _
 rw[K];exact .var _ _ _ _ _ _ _ J
def ahd nb mb a(L:List Ty)w pb sb M gk v wr:=
 ∃(j:Nat)(C:Array ia),Hid (gk=L.length-j)/\j<=L.length/\v=Nv j/\NB wr nb mb (aX a<|L.take j)/\Fr (λb=>b=mb) w wr/\Bx wr pb C/\Bx wr sb M/\Hid (C.size=L.length)/\
  Hid (∀i(h:i<(oV a<|L.take j).length),∃u,C[i]? =na u/\pE wr (λb=>pb<b/\b<wr.heap.size) (oV a<|L.take j)[i] u)
def NB.lt{L}(h:NB w nb mb L):nb<w.heap.size/\mb<w.heap.size:=⟨h.bk.z,h.mp.lt⟩
def NB.set{L}(h:NB w nb mb L)(d:b≠nb)(e:b≠mb)j v:NB (w.setCell ⟨b,j,ab⟩ v) nb mb L:=
 ⟨h.bk.bU d.symm j v,h.mp.sv e.symm j v,h.ne⟩
def QA{p:Prop}(h:p:=by
 simp only[sp,hk];congr 1;apply List.ext_getElem
 .simp;omega
 .intro i h1 h2;have:i=0\/i=1:=by simp at h2;omega
  obtain rfl|rfl:=this<;>rfl):p:=h
def EH{p:Prop}(h:p:=by
 exact h3.move ae (λb p z=>LS b p.1 z)<|λb p z=>⟨p.1,ae⟩):p:=h
def ae5 c L(IH:∀i(h:i<L.length),SpC L[i]):SpC (.aM c L):=by
 intro w nb mb a P v h HN hP hW hv hs
 cases h with
 |aM c L sa sc vs hc bK hr=>
 obtain⟨i0,e0,f0,g0,j0⟩:=info_parts JD;have Bu:ak L<=1000:=by simp[ak,size]at hs;omega
 have hLl:=CH L;have hmk:=jE (by_:=16) zS e0 f0 rfl g0 j0 aD L.length ae;obtain⟨a0,b0⟩:=hW;rw[QB]at b0;simp only[vars]at hv;have h1:=ae3;have h2:=ae0;have hlt:=HN.lt;have c0:Bq w ((w.alloc<|.cells #[.string<|pn c,.slice sa L.length sc] 194).alloc<|.cells (Array.replicate L.length .nilIface) 155):=(bw _).alloc ag _;have XM:=ai<|(Bx.new w #[.string<|pn c,.slice sa L.length sc] 194).alloc<|.cells (Array.replicate L.length .nilIface) 155;obtain⟨cm,fm,zm⟩:=uh XM;go_wp2
 go_loopg[29] L.length (λgk v wr=>ahd nb mb a L w (w.heap.size+1) w.heap.size #[.string<|pn c,.slice sa L.length sc] gk v wr)
 case atStart=>
  have d:Bx ((w.alloc<|.cells #[.string<|pn c,.slice sa L.length sc] 194).alloc<|.cells (qs L.length .nilIface) 155) (w.heap.size+1) (qs L.length .nilIface):=by have:=vd (w.alloc<|.cells #[.string<|pn c,.slice sa L.length sc] 194) (qs L.length .nilIface) 155;simpa using this
  refine⟨0,qs L.length .nilIface,ai ag,ql _,rfl,?_,Fr.of c0,d,XM,ai ag,ai<|λi hi=>absurd hi<|by simp[oV]⟩;simpa[aX]using HN.af c0
 case round=>
  obtain⟨j,C,k0,hj,rfl,N1,R,N,BM,hC,O⟩:=hrel;have zw:=R.size;have n1:=N1.lt;have zpb:=N.z;by_cases bY:j<L.length
  .have hd:=kK bY;obtain⟨g,rfl,hg,l0,I⟩:∃g,sa=na ⟨g,0,ab⟩/\P g/\g<w.heap.size/\∀i,i<L.length->w.cell? ⟨g,i,ab⟩=na (vs i):=by
    obtain h0|h0:=bK
    .subst h0;simp at bY
    .exact h0
   have cg:=(qy (a:=⟨g,j,ab⟩)<|R.block g l0<|hP g hg).trans<|I j bY;have TJ:=(hr j bY).fr R<|λb p _=>hP b p;obtain⟨tv,xv,n0⟩:=TJ.iface;obtain⟨J,d0⟩:=JB L a j bY;have o0:(vars (aX a<|L.take j) L[j]).length<=96:=by rw[<-d0];exact qk (Bj L a<|j+1) hv
   have p0:ak [L[j]]<=1000:=by
    have e1:=wo L j bY;have e2:=qH L<|j+1;simp[ak];omega
   have K:=IH j bY wr nb mb _ P (vs j) TJ N1 hP (b0 _<|ja bY) o0 p0;rw[n0]at cg K;go_wp2_with fail;refine K.mono ?_;rintro e w1⟨u,rfl,HU,q0,HF⟩;obtain⟨X,Y,rfl⟩:=HU.dI;have r0:w.heap.size+1≠mb:=ae;have B2:=N.fr HF r0;have Z:j<C.size:=qBh;have cj:=(B2.c j).trans<|qv Z;have fj:=B2.f j;have B3:=B2.aW j (.iface X<|.agg Y) (C.setIfInBounds j<|.iface X<|.agg Y) rfl Z;have s0:=(BM.fr HF<|show ¬w.heap.size=mb by omega).bU (show w.heap.size≠w.heap.size+1 by omega) j (.iface X<|.agg Y);have v0:=R.trans HF;have z2:=HF.size
   go_wp2
   go_roundg(L.length-(j+1))
   case measure=>rw[uh k0];omega
   case rel=>
    have A:(oV a<|L.take j).length=j:=by rw[EE];simp;omega
    refine⟨j+1,C.setIfInBounds j<|.iface X<|.agg Y,ai rfl,ae,iF,?_,?_,B3,s0,ai (by simp;exact hC),ai<|λi hi=>?_⟩
    .rw[d0];exact q0.set ae ae j _
    .exact v0.set (qi ae) j _
    .have LS:∀b,w.heap.size+1<b->b<w1.heap.size->(w1.setCell ⟨w.heap.size+1,j,ab⟩<|.iface X<|.agg Y).heap[b]? =w1.heap[b]? :=λb hb _=>zd _ _ _ _ (by show b≠w.heap.size+1;omega);have hss:(w1.setCell ⟨w.heap.size+1,j,ab⟩<|.iface X<|.agg Y).heap.size=w1.heap.size:=BL;have hi':i<j+1:=by rw[J]at hi;simp[A]at hi;omega
     by_cases e:i=j
     .subst e;refine⟨.iface X<|.agg Y,by simp[Z],?_⟩;have e1:(oV a<|L.take<|i+1)[i]'hi=sp (aX a<|L.take i) L[i]:=by
       have:(oV a<|L.take<|i+1)[i]? =na (sp (aX a<|L.take i) L[i]):=by rw[J,List.getElem?_append_right ae];simp[A]
       rw[jm hi]at this;exact Option.some.inj this
      rw[e1];exact HU.by.move ae (λb p z=>LS b qAy z)<|λb p z=>⟨qAy,ae⟩
     .have d:i<(oV a<|L.take j).length:=ae;obtain⟨u',o,y0⟩:=uh O i d;have e1:(oV a<|L.take<|j+1)[i]'hi=(oV a<|L.take j)[i]'d:=by
       have:(oV a<|L.take<|j+1)[i]? =na ((oV a<|L.take j)[i]'d):=by rw[J,List.getElem?_append_left d,jm d]
       rw[jm hi]at this;exact Option.some.inj this
      refine⟨u',by rw[qu ae];exact o,?_⟩;rw[e1];have h3:=y0.fr HF (λb p _ q=>by subst q;omega);exact EH
  .have hd:=nN bY;have ej:j=L.length:=ae;subst ej;rw[ju]at N1 O;obtain⟨cw,fw,zw'⟩:=BM;have d0:=EE L a;have hCs:C.size=L.length:=uh hC;obtain rfl|rfl|hu:=hc
   .have A:=a0.2.1<|qj rfl;obtain⟨u0,X,I⟩:=uh O 0 ae;obtain⟨u1,o,J⟩:=uh O 1 ae;obtain⟨Z,x0,rfl⟩:=I.dI;obtain⟨t1,x1,rfl⟩:=J.dI;have K:=abY (w:=wr) (w.heap.size+1) L.length (.iface Z<|.agg x0) (.iface t1<|.agg x1) Z t1 (.agg x0) (.agg x1) rfl rfl ((N.c 0).trans X) ((N.c 1).trans o);rw[jO]at cw;rw[A]at K;go_wp2_with fail;rw[A];refine K.mono ?_;rintro e w9⟨rfl,d⟩
    go_wp2
    go_ret;refine⟨_,rfl,?_,N1.af d,R.trans<|Fr.of d⟩;have Y:sp a (.aM rG L)=.mk 17 rG 0 [(oV a L)[0]' ae,(oV a L)[1]' ae] 0 0 0:=by
     have hk:kd rG=17:=by unfold kd;rw[if_pos<|(ED rG).2 rfl]
     exact QA
    rw[Y];exact .fn _ _ _ _ _ _ _ _ _ _ _ ((I.af d).wide λb p=>qAu)<|(J.af d).wide λb p=>qAu
   .have A:=a0.2.1<|qi rfl;obtain⟨u0,X,I⟩:=uh O 0 ae;obtain⟨u1,o,J⟩:=uh O 1 ae;obtain⟨Z,x0,rfl⟩:=I.dI;obtain⟨t1,x1,rfl⟩:=J.dI;have K:=abZ (w:=wr) (w.heap.size+1) L.length (.iface Z<|.agg x0) (.iface t1<|.agg x1) Z t1 (.agg x0) (.agg x1) rfl rfl ((N.c 0).trans X) ((N.c 1).trans o);rw[jP]at cw;rw[A]at K;go_wp2_with fail;rw[A];refine K.mono ?_;rintro e w9⟨rfl,d⟩
    go_wp2
    go_ret;refine⟨_,rfl,?_,N1.af d,R.trans<|Fr.of d⟩;have Y:sp a (.aM pq L)=.mk 6 pq 0 [(oV a L)[0]' ae,(oV a L)[1]' ae] 0 0 0:=by
     have l0:¬pq=rG:=by intro e;have:=congrArg ByteArray.toList e;rw[show pq.toList=[44]from toList_mk [44],show rG.toList=[62]from toList_mk [62]]at this;simp at this
     have hk:kd pq=6:=by unfold kd;rw[if_neg<|λq=>l0<|(ED pq).1 q,if_pos<|(Qy pq).2 rfl]
     exact QA
    rw[Y];exact .pr _ _ _ _ _ _ _ _ _ _ _ ((I.af d).wide λb p=>qAu)<|(J.af d).wide λb p=>qAu
   .have K:=ab0 (w:=wr) c hu (na ⟨w.heap.size+1,0,ab⟩) L.length L.length;rw[e9 hu]at cw;go_wp2_with fail;refine K.mono ?_;rintro e w9⟨rfl,d⟩
    go_wp2
    go_ret;refine⟨_,rfl,?_,N1.af d,R.trans<|Fr.of d⟩;have hk:kd c=2:=by
     unfold kd;rw[if_neg<|λq=>dQ hu 62 [] aD (by rw[(ED c).1 q];exact toList_mk [62]),if_neg<|λq=>dQ hu 44 [] aD (by rw[(Qy c).1 q];exact toList_mk [44])]
    simp only[sp,hk];rw[<-d0];refine .up c 0 (oV a L) 0 0 0 0 0 0 0 _ _ (λi=>C.getD i .nilIface) hu (qi ⟨w.heap.size+1,rfl,by show w.heap.size<=w.heap.size+1;omega,qm N.z d.size,λi hi=>?_⟩) (λi hi=>?_)
    .obtain⟨u,o,_⟩:=uh O i hi;rw[qy (a:=⟨w.heap.size+1,i,ab⟩)<|d.block _ N.z,N.c i,o];simp[qt,o]
    .obtain⟨u,o,A⟩:=uh O i hi;have:C.getD i .nilIface=u:=by simp[qt,o]
     rw[this];exact(A.af d).wide λb p=>qAu
def CL:∀(T:Ty),SpC T
 |.var n=>ae4 n|.aM c L=>ae5 c L λi h=>CL L[i]
termination_by T=>zh T
decreasing_by
 have h2:=List.sizeOf_lt_of_mem<|ja h;simp;omega
structure wC(n:Nat)(us:List BA)(s:List UInt8):Prop where
 f:∀x,∃t,TU t/\us.foldl Bh x=(x.1++(sep x.2++s),t)
 z:∀t∈us,t.size<=1000
 l:us.length<=n
section
variable {us vs:List BA} {s u:List UInt8}
def wC.tok(d:TU t)(e:t.toList≠[41])(i:t.toList≠[44])(o:t.toList≠[59])(A:t.size<=1000):wC 1 [t] t.toList:=
 ⟨λx=>⟨t,d,by simp only[jp,List.foldl_nil,Bh,Jt e i o]⟩,by simpa using A,br _⟩
def wC.mono(h:wC n us s)(d:n<=m):wC m us s:=⟨h.f,h.z,qk h.l d⟩
def sK:bT.toList=[40]:=toList_mk [40]
def sL{x:UInt8}{r:List UInt8}(h:t.toList=x::r)(d:x::r≠[40]):TU t:=⟨by rw[h];simp,by rw[h];exact d⟩
def wC.par(h:wC n us s)(b:Bool):wC (n+2) (wZ b us) (qh b s):=by
 cases b with
 |false=>exact h.mono ae|true=>
  refine⟨λx=>?_,λt ht=>?_,by have:=h.l;simp[wZ];omega⟩
  .have d:Bh x bT=(x.1++(sep x.2++[40]),bT):=by rw[Bh,Jt (by rw[sK];decide) (by rw[sK];decide) (by rw[sK];decide),sK]
   have⟨t,_,e⟩:=h.f<|Bh x bT;refine⟨bH,sL (toList_mk [41]) aD,?_⟩;have i:sep bT=[]:=by rw[sep];rw[if_pos<|qi sK]
   simp only[wZ,if_true,jp,jj,List.foldl_nil,e];rw[Bh,CI<|qj<|toList_mk [41],show bH.toList=[41]from toList_mk [41],d,i];simp[qh]
  .simp only[wZ,if_true,jt,List.mem_append,List.not_mem_nil,or_false]at ht;obtain rfl|ht|rfl:=ht
   .decide
   .exact h.z t ht
   .decide
structure TkM(n:Nat)(us:List BA)(s:List UInt8):Prop where
 f:∀x,TU x.2->∃t,TU t/\us.foldl Bh x=(x.1++s,t)
 z:∀t∈us,t.size<=1000
 l:us.length<=n
def wC.more(h:wC n us s)(k:TkM m vs u):wC (n+m) (us++vs) (s++u):=
 ⟨λx=>by
  have⟨t,d,e⟩:=h.f x;have⟨o,i,A⟩:=k.f (us.foldl Bh x) (by rw[e];exact d);refine⟨o,i,?_⟩;rw[jj,A,e]
  simp,λt d=>(List.mem_append.1 d).elim (h.z t)<|k.z t,by have:=h.l;have:=k.l;simp;omega⟩
def wC.beh(h:wC n us s):TkM n us (32::s):=⟨λx q=>by have⟨t,d,e⟩:=h.f x;exact⟨t,d,by rw[e,Yf q];rfl⟩,h.z,h.l⟩
def TkM.pD(h:TkM n us s)(k:TkM m vs u):TkM (n+m) (us++vs) (s++u):=
 ⟨λx q=>by
  have⟨t,d,e⟩:=h.f x q;have⟨o,i,A⟩:=k.f (us.foldl Bh x) (by rw[e];exact d);refine⟨o,i,?_⟩;rw[jj,A,e]
  simp,λt d=>(List.mem_append.1 d).elim (h.z t)<|k.z t,by have:=h.l;have:=k.l;simp;omega⟩
def wC.pD(h:wC n us s)(k:wC m vs u):wC (n+m) (us++vs) (s++32::u):=h.more k.beh
def wC.pair(h:wC n us s)(k:wC m vs u):wC (n+m+3) (bT::(us++(db::(vs++[bH])))) (40::(s++([44,32]++(u++[41])))):=by
 have i:wC (n+1) (us++[db]) (s++[44]):=⟨λx=>by
  have⟨t,d,e⟩:=h.f x;refine⟨db,sL (toList_mk [44]) aD,?_⟩;rw[jj,e];simp only[jp,List.foldl_nil];rw[Bh,CI<|qi<|toList_mk [44],show db.toList=[44]from toList_mk [44]]
  simp,λt d=>(List.mem_append.1 d).elim (h.z t) λq=>by rw[List.mem_singleton.1 q];decide,by have:=h.l;simp;omega⟩
 have:=(i.pD k).par bb;simp only[wZ,if_true,qh,jl,jh,ji]at this;exact this.mono ae
end
def CO(t:Ty)(a:List Nat):a.length<=(vars a t).length:=(sg t a).length_le
def ae6:cK nd (AV k)=wZ (decide (lv nd<AV k)) (sw nd):=rfl
mutual
def uF:∀(T:Ty),Wf T->∀a,(vars a T).length<=900->∀k,k<=2->wC (5*size T) (cK (sp a T)<|AV k) (wr dec (vars a T) T k)
 |.var n,_,a,hv,k,hk=>by
  have d:(bs (39::vT ((qf a n).idxOf n))).toList=39::vT ((qf a n).idxOf n):=toList_mk _;have o:(qf a n).idxOf n<=900:=qk List.idxOf_le_length hv;have I:(bs (39::vT ((qf a n).idxOf n))).size<=1000:=by rw[gq];have:=EB<|(qf a n).idxOf n;simp[vT];omega
  have:=wC.tok (sL d<|by simp[vT]) (by rw[d];simp[vT]) (by rw[d];simp[vT]) (by rw[d];simp[vT]) I;rw[d]at this;obtain rfl|rfl|rfl:=(show k=0\/k=1\/k=2 by omega)<;>exact this.mono (by simp[size])
 |.aM c l,hW,a,hv,k,hk=>by
  obtain⟨⟨I,o,hc⟩,J⟩:=hW;simp only[vars]at hv;obtain rfl|rfl|⟨x,r,e,X,-⟩:=hc
  .match l,o<|qj rfl,J,hv with
   |[x,y],_,⟨hx,hy,_⟩,hv=>
    have K:=CO y<|vars a x;simp only[aX]at hv;have A:=uF x hx a ae 1 ae;have B:=uF y hy (vars a x) hv 0 ae;rw[<-oW (sg y<|vars a x)]at A;have:=((A.pD<|wC.tok (t:=cH) (sL (toList_mk [45,62]) aD) (by rw[toList_mk];decide) (by rw[toList_mk];decide) (by rw[toList_mk];decide) aD).pD B).par<|decide (0<k);rw[show cH.toList=[45,62]from toList_mk [45,62]]at this;have d:cK (sp a<|.aM rG [x,y]) (AV k)=wZ (decide (0<k)) (cK (sp a x) (AV 1)++[cH]++cK (sp (vars a x) y) (AV 0)):=by
     obtain rfl|rfl|rfl:=(show k=0\/k=1\/k=2 by omega)<;>simp[cK,aw,sp,oV,kd,isF,sw,ij,jw,gw,lv,AV,wZ]
    rw[d];simp only[wr,F7,vars,aX,bV,if_true,nth,List.getD_cons_zero,List.getD_cons_succ];simp only[jl,jh,ji]at this⊢;exact this.mono (by simp only[size,ak];omega)
  .match l,o<|qi rfl,J,hv with
   |[x,y],_,⟨hx,hy,_⟩,hv=>
    have K:=CO y<|vars a x;simp only[aX]at hv;have A:=uF x hx a ae 0 ae;have B:=uF y hy (vars a x) hv 0 ae;rw[<-oW (sg y<|vars a x)]at A;have:=A.pair B;have i:¬pq=rG:=BS;have d:cK (sp a<|.aM pq [x,y]) (AV k)=bT::(cK (sp a x) (AV 0)++(db::(cK (sp (vars a x) y) (AV 0)++[bH]))):=by
     obtain rfl|rfl|rfl:=(show k=0\/k=1\/k=2 by omega)<;>simp[cK,aw,sp,oV,kd,isF,isP,sw,ij,jw,gw,lv,AV,wZ]
    rw[d];simp only[wr,F7,vars,aX,bV,if_neg i,if_true,nth,List.getD_cons_zero,List.getD_cons_succ];exact this.mono (by simp only[size,ak];omega)
  .have i:p_ c:=⟨x,r,e,X⟩;have N:=dQ i 62 [] aD;have K:=dQ i 44 [] aD;have O:isF c=fb:=by simpa[isF]using N
   have R:isP c=fb:=by simpa[isP]using K
   have A:=wC.tok (sL e (by rw[<-e];exact dQ i 40 [] aD)) (dQ i 41 [] aD) K (dQ i 59 [] aD) I;have:=(A.more<|QC l J a hv).par<|decide (1<k)&& !l.isEmpty;have d:cK (sp a<|.aM c l) (AV k)=wZ (decide (1<k)&& !l.isEmpty) ([c]++(oV a l).flatMap λx=>cK x 5):=by
    have q:(oV a l=[])=(l=[]):=by cases l<;>simp[oV]
    have Y:sw (sp a<|.aM c l)=[c]++(oV a l).flatMap λx=>cK x 5:=by simp[sp,kd,O,R,sw,jw,pF,List.flatMap_map,cK]
    have hv:lv (sp a<|.aM c l)=if l=[]then 5 else 4:=by simp[sp,kd,O,R,lv,q]
    rw[ae6,Y,hv];obtain rfl|rfl|rfl:=(show k=0\/k=1\/k=2 by omega)<;>cases l<;>simp[AV]
   rw[d];have Y:(F7 dec (aX a l) l).isEmpty=l.isEmpty:=by cases l<;>simp[F7]
   simp only[wr,vars,bV,if_neg (λq=>N (by rw[q];exact toList_mk [62]):¬c=rG),if_neg (λq=>K (by rw[q];exact toList_mk [44]):¬c=pq),Y];exact this.mono (by simp only[size];omega)
def QC:∀(l:List Ty),Dw l->∀a,(aX a l).length<=900->TkM (5*ak l) ((oV a l).flatMap λx=>cK x 5) ((F7 dec (aX a l) l).flatMap λp=>32::p 2)
 |[],_,a,_=>⟨λx h=>⟨x.2,h,by simp[oV,F7]⟩,by simp[oV],by simp[oV]⟩|t::l,⟨ht,hl⟩,a,hv=>by
  simp only[aX]at hv;have p1:=(jF l<|vars a t).length_le;have A:=uF t ht a ae 2 ae;have B:=QC l hl (vars a t) hv;rw[<-oW (jF l<|vars a t)]at A;have:=A.beh.pD B;simp only[oV,F7,aX,List.flatMap_cons,ak,Nat.mul_add];exact this
end
def eh.ahe(h:eh w P T v)L:wr dec L T 0≠[]:=by
 cases h with
 |var n=>simp[wr]|aM c l sa sc vs hc bK hr=>
  simp only[wr];rw[bV];split
  .rw[qh];simp
  .split
   .simp
   .rename_i h1 h2;obtain rfl|rfl|d:=hc
    .exact absurd rfl h1
    .exact absurd rfl h2
    .obtain⟨x,r,e,_⟩:=d;rw[qh];simp[e]
def JF:aa j8 48 #[] w λe w'=>e=.returned (.func (.func 74) #[] #[Pv<|w.heap.size+1])/\NB w' (w.heap.size+1) w.heap.size []/\Bq w w':=by
 go_wp2
 go_ret;refine⟨rfl,⟨?_,?_,ae⟩,(bw _).alloc ag _⟩
 .have:=vd (w.alloc<|.map #[] 0) #[Mv w.heap.size] 184;simpa using this
 .exact(MS.new ahc w).below (bw _)
def Ox:aa j8 35 #[] w λe w'=>∃cb nb mb,e=.returned (.func (.func 49) #[] #[Pv cb])/\Bx w' cb #[nbV nb]/\NB w' nb mb []/\w.heap.size<=mb/\cb≠mb/\Bq w w':=by
 go_in;go_wp2_with(go_at_call 48;refine JF.mono ?_;rintro e i⟨rfl,o,A⟩;have I:=ai o;have J:=ai A;clear o A);go_ret;have hz:=I.lt;have d:Bq i (i.alloc<|Cv #[nbV<|w.heap.size+1] 151):=bw _;exact⟨i.heap.size,w.heap.size+1,w.heap.size,rfl,Bx.new _ _ _,I.af d,br _,ae,J.trans<|d.mono J.size⟩
def T_ nb mb a T w(e:la)w':=
 e=.returned (.string<|bs<|wr dec (vars a T) T 0)/\NB w' nb mb (vars a T)/\Fr (λb=>b=mb) w w'
def Dz{a}(hT:eh w P T v)(hP:∀b,P b->b≠mb)(hN:NB w nb mb a)(hC:Bx w cb #[nbV nb])(hcm:cb≠mb)(hW:Wf T)(hs:size T<=48)(hv:(vars a T).length<=96):
 aa j8 49 #[v,Pv cb] w (T_ nb mb a T w):=by
 have J:=hN.lt;have hcz:=hC.z;have Z:=uF T hW a ae 0 ae;have⟨t,_,hf⟩:=Z.f ([],cX);have a0:sep cX=[]:=by rw[sep];rw[if_pos<|qj<|toList_mk []]
 rw[a0]at hf;obtain⟨tv,xv,rfl⟩:=hT.iface;go_in;go_wp;refine(Jv w).mono ?_;rintro e w1⟨rfl,⟨mv,R,hPM⟩,d⟩;have⟨c1,f1,z1⟩:=hC.below d;have zw1:=R.lt;have HC:=CL T w1 nb mb a P _ (hT.af d) (hN.af d) hP hW hv (by simp[ak];omega);go_wp2_with fail;refine HC.mono ?_;rintro e A⟨u,rfl,hU,X,i⟩;obtain⟨tu,xu,rfl⟩:=hU.dI
 have P2:=R.same i.size (λb hb q=>i.block b hb (λe=>by
  obtain q|q:=q
  .omega
  .simp[Value.ownBlock]at q))
 have hl:=Z.l;have hx:CxF ⟨A,λb=>w1.heap.size<=b/\b<A.heap.size/\Vk A b,w.heap.size,w.heap.size,mv,λ_=>True,[],cK (sp a T) 0,1000⟩:=⟨λb q _=>⟨by show b≠w.heap.size;have:=q.1;omega,qi q.2.2⟩,λ_ _ _ _=>trivial,br _,by show 0+(cK (sp a T) 0).length*1001<=9000000;have:(cK (sp a T) 0).length<=5*size T:=hl;omega,Z.z,br _⟩;have HA:=Yk (c:=⟨A,λb=>w1.heap.size<=b/\b<A.heap.size/\Vk A b,w.heap.size,w.heap.size,mv,λ_=>True,[],cK (sp a T) 0,1000⟩) hU.by 0 ae [] A ⟨hx,⟨[],_,by simp[AV],P2⟩,br _,λ_ _ _=>rfl,trivial⟩;go_wp2_with fail;refine HA.mono ?_;rintro e w3⟨rfl,h3,o⟩;have⟨ts,b0,O,K⟩:=h3.pn;rw[j6]at O;subst O;have Y:rd [] (cK (sp a T) 0)=(wr dec (vars a T) T 0,t):=by simpa[rd,AV]using hf
 replace K:PN w3 w.heap.size w.heap.size b0 (rd []<|cK (sp a T) 0).1 (rd []<|cK (sp a T) 0).2 mv:=K
 rw[Y]at K;have c0:=hT.ahe<|vars a T;have HS:=IY K c0;have⟨ad,hbk,_⟩:=K.bk;go_wp2_with fail;refine HS.mono ?_;rintro e w4⟨rfl,N⟩
 go_wp2
 go_ret;have I:∀k,k<w.heap.size->k≠mb->w4.heap[k]? =w.heap[k]? :=λk hk hm=>by
  have e1:=d.block k hk;have e2:=i.block k ae hm;have O:=o.block k (by have:=i.size;omega) ae<|qj hk
  have Y:=N.block k (by have:=i.size;have:=o.size;omega) (λq=>by
   obtain q|q:=q
   .omega
   .have:=(eP K.ow k q).1;omega)
  exact Y.trans<|O.trans<|e2.trans e1
 have d0:w4.heap[mb]? =A.heap[mb]? :=by
  have O:=o.block mb (by have:=i.size;omega) ae<|qj J.2
  have Y:=N.block mb (by have:=i.size;have:=o.size;omega) (λq=>by
   obtain q|q:=q
   .omega
   .have:=(eP K.ow mb q).1;omega)
  exact Y.trans O
 have e0:=qk d.size<|qk i.size<|qk o.size N.size;refine⟨rfl,⟨?_,X.mp.same d0,X.ne⟩,⟨?_,?_,?_,e0,I⟩⟩
 .exact X.bk.same (qk o.size N.size) (by
   have e2:=i.block nb ae X.ne;have e1:=d.block nb J.1
   rw[I nb J.1 X.ne,<-e1,<-e2])
 .exact N.os.trans (o.os.trans<|i.os.trans d.os)
 .exact N.tape.trans (o.tape.trans<|i.tape.trans d.tape)
 .exact N.output.trans (o.output.trans<|i.output.trans d.output)
end
section
open Un
def Fr.yz{a b c}(h:Below n a b)(hn:n<=b.heap.size)(k:Fr S b c)(d:∀x,S x->n<=x):Below n a c:=
 ⟨k.os.trans h.os,k.tape.trans h.tape,k.output.trans h.output,qk h.size k.size,λi hi=>(k.block i ae (λq=>by have:=d i q;omega)).trans<|h.block i hi⟩
end
section
open Go.ChangeMaps Go.MapKept Un
def IvC nd:=∀(w:fa)(Q:Nat->Prop)(v:ia),PE w Q nd v->aa j8 224 #[v] w λe w'=>e=.returned (.bool<|xg nd)/\Bq w w'
def ImC x y:=∀(w:fa)(Q:Nat->Prop)(d i:ia)(f t:Int),PE w Q x d->PE w Q y i->aa j8 235 #[.agg #[Iv f,Iv t,d,i]] w λe w'=>e=.returned (.bool<|xh x&&xg y)/\Bq w w'
def ahf s n x y f t a(Y:IvC x)(Z:IvC y):IvC (.mk 6 s n [x,y] f t a):=by
 intro w Q v h;have A:xg (.mk 6 s n [x,y] f t a)=(xg x&&xg y):=by simp[xg,In.Ua]
 rw[A]
 cases h with
 |lt c s n x z f t a y vx vz hc hs hy hx hz=>omega|pr s n x y f t a vx vy hx hy=>
 obtain⟨tx,I,rfl⟩:=hx.iface;obtain⟨J,K,rfl⟩:=hy.iface;have⟨i,N⟩:=rF w #[Nv f,Nv t,Fv tx<|Av I,Fv J<|Av K] 256;have O:=Y _ Q _<|hx.af i;go_in;go_wp;refine O.mono ?_;rintro e w1⟨rfl,o⟩;have d:=i.trans<|o.mono i.size;have R:=Z _ Q _<|hy.af d;have⟨c1,f1,z1⟩:=N.below o
 cases hb:xg x with
 |true=>
  go_wp2_with fail;refine R.mono ?_;rintro e w2⟨rfl,X⟩
  go_wp2
  go_ret;exact⟨by rw[hb];rfl,d.trans<|X.mono d.size⟩
 |false=>
  go_wp2
  go_ret;exact⟨by rw[hb];rfl,d⟩
def QE{p:Prop}(h:p:=by
 go_in;go_wp;refine H1.mono ?_;rintro e w1⟨rfl,K1⟩
 go_wp2
 go_ret
 exact⟨rfl,K0.trans<|K1.mono K0.size⟩):p:=h
def ahg s n x y f t a(I:IvC x):IvC (.mk 14 s n [x,y] f t a):=by
 intro w Q v h;have d:xg (.mk 14 s n [x,y] f t a)=xg x:=by simp[xg,xm]
 rw[d]
 cases h with
 |lt c s n x z f t a y vx vz hc hs hy hx hz=>omega|of s n x y f t a vx vy hx hy=>
 obtain⟨tx,i,rfl⟩:=hx.iface;obtain⟨o,A,rfl⟩:=hy.dI;have K0:Bq w (w.alloc<|Cv #[Nv f,Nv t,Fv tx<|Av i,Fv o<|Av A] 258):=bw _;have H1:=I _ Q _<|hx.af K0;exact QE
def ab1 s n x y f t a(I:ImC x y):IvC (.mk 8 s n [x,y] f t a):=by
 intro w Q v h;have d:xg (.mk 8 s n [x,y] f t a)=(xh x&&xg y):=by simp[xg,In.isC,In.Na,xm]
 rw[d]
 cases h with
 |lt c s n x z f t a y vx vz hc hs hy hx hz=>omega|call s n x y f t a vx vy hx hy=>
 obtain⟨tx,i,rfl⟩:=hx.iface;obtain⟨o,A,rfl⟩:=hy.iface;have K0:Bq w (w.alloc<|Cv #[Nv f,Nv t,Fv tx<|Av i,Fv o<|Av A] 269):=bw _;have H1:=I _ Q _ _ (f:Int) (t:Int) (hx.af K0)<|hy.af K0;exact QE
def PE.kinds{x}(h:PE w Q x v):(∃ax:Array ia,v=.iface 251 (.agg ax)/\(∃(i o:Int)(A:BA),ax=#[Iv i,Iv o,.string A])/\xh x=bb)\/(∃(s:BA)(n:Nat)(u z:Nd)(f t a:Nat)(e d:ia),x=.mk 8 s n [u,z] f t a/\v=.iface 269 (.agg #[Nv f,Nv t,e,d])/\PE w Q u e/\PE w Q z d)\/(xh x=fb/\∃(D:TypeId)(ax:Array ia),v=.iface D (.agg ax)/\TeN 99 D 251 #[Iv 0,Iv 0,.string ⟨#[]⟩]/\TeN 99 D 269 #[Iv 0,Iv 0,.nilIface,.nilIface]):=by
 cases h with
 |up s n f t a hs=>exact qj ⟨_,rfl,⟨_,_,_,rfl⟩,by simp[xh]⟩|call s n x y f t a vx vy hx hy=>grind|lt c s n x z f t a y vx d hc hs hy hx hz=>exact qi (qi ⟨by obtain rfl|rfl:=hc<;>simp[xh],_,_,rfl,(WN.te aD),(O_.te aD)⟩)
 |_=>exact qi (qi ⟨by simp[xh],_,_,rfl,(WN.te aD),(O_.te aD)⟩)
def ab2 x y(Hy:IvC y)(IH:∀(s:BA)(n:Nat)(u z:Nd)(f t a:Nat),x=.mk 8 s n [u,z] f t a->ImC u z):ImC x y:=by
 intro w Q vx vy f t R X;have⟨J,B0⟩:=rF w #[Iv f,Iv t,vx,vy] 269;have H1:=Hy _ Q _<|X.af J;have K:=R.kinds;obtain⟨tx,ax,rfl⟩:=R.iface;obtain⟨ty,ay,rfl⟩:=X.iface;obtain⟨Z,o⟩:∃Z,Hid<|Z=(In.isM x&&In.xD y):=⟨_,ai rfl⟩;rw[<-uh o];go_in;go_wp;refine H1.mono ?_;rintro e Y⟨rfl,k1⟩;have A:=J.trans<|k1.mono J.size;have⟨c1,f1,z1⟩:=B0.below k1
 cases hb:xg y with
 |false=>
  go_wp2
  go_ret;exact⟨by rw[uh o,hb,Bool.and_false];rfl,A⟩
 |true=>
  rw[hb,Bool.and_true]at o;obtain⟨bx,d,⟨a0,a1,a2,rfl⟩,N⟩|⟨s,n,u,z,f',I,a,vu,vz,rfl,d,hu,hz⟩|⟨N,D,bx,d,h1,h2⟩:=K
  .injection d with d i;injection i with i;subst d i;rw[N]at o
   go_wp2
   go_ret;exact⟨by rw[uh o];rfl,A.alloc A.size _⟩
  .injection d with d i;injection i with i;subst d i;obtain⟨tu,au,rfl⟩:=hu.iface;obtain⟨tz,az,rfl⟩:=hz.iface;have O:Bq Y (Y.alloc<|Cv #[Nv f',Nv I,Fv tu<|Av au,Fv tz<|Av az] 269):=bw _;have H3:=IH s n u z f' I a rfl _ Q _ _ (f':Int) (I:Int) ((hu.af A).af O) ((hz.af A).af O);have em:xh (.mk 8 s n [u,z] f' I a)=(xh u&&xg z):=by simp[xh,In.isC,In.Na,xm]
   rw[em]at o;have K2:=A.trans<|O.mono A.size;go_wp2_with fail;refine H3.mono ?_;rintro e w3⟨rfl,K3⟩
   go_wp2
   go_ret;exact⟨by rw[uh o];rfl,K2.trans<|K3.mono K2.size⟩
  .injection d with d i;injection i with i;subst d i;rw[N]at o
   go_wp2
   go_ret;exact⟨by rw[uh o];rfl,A⟩
def JH{p:Prop}(h:p:=by
 go_wp2
 go_ret
 exact⟨by simp[xg],zg _ _⟩):p:=h
def JI:∀(m:Nat),(∀nd:Nd,zh nd<=m->IvC nd)/\∀x y:Nd,zh x+zh y<=m->ImC x y:=by
 intro m
 induction m using qr with
 |_ m ih=>
  have sp:∀nd:Nd,1<=zh nd:=λnd=>by cases nd;simp;omega
  have d:∀nd:Nd,zh nd<m->IvC nd:=λnd h=>(ih (m-1) ae).1 nd ae;have i:∀x y:Nd,zh x+zh y<m->ImC x y:=λx y h=>(ih (m-1) ae).2 x y ae;refine⟨λnd hm=>?_,λx y hm=>ab2 x y (d y (by have:=sp x;omega)) λs n u z f t a e=>i u z (by subst e;simp at hm;omega)⟩;intro w Q v h
  cases h with
  |pr s n x y f t a vx vy hx hy=>simp at hm;exact ahf s n x y f t a (d x ae) (d y ae) w Q _ (.pr s n x y f t a vx vy hx hy)|of s n x y f t a vx vy hx hy=>simp at hm;exact ahg s n x y f t a (d x ae) w Q _ (.of s n x y f t a vx vy hx hy)|call s n x y f t a vx vy hx hy=>simp at hm;exact ab1 s n x y f t a (i x y ae) w Q _ (.call s n x y f t a vx vy hx hy)|lt c s n x z f t a y vx vz hc=>
   obtain rfl|rfl:=hc;all_goals
    exact JH
  |_=>
   exact JH
def pf nd:IvC nd:=(JI<|zh nd).1 nd<|br _
def wPl_Low a0 a1 a2 N w:(method (N+1) 197 (.agg #[a0,a1,a2]) "Place").run Tryz.prog w=.ok (324,.agg #[a0,a1]) w:=qkr
def wPl_Up a0 a1 a2 N w:(method (N+1) 251 (.agg #[a0,a1,a2]) "Place").run Tryz.prog w=.ok (324,.agg #[a0,a1]) w:=qkr
def wPl_Number a0 a1 a2 N w:(method (N+1) 200 (.agg #[a0,a1,a2]) "Place").run Tryz.prog w=.ok (324,.agg #[a0,a1]) w:=qkr
def wPl_Bool a0 a1 a2 N w:(method (N+1) 203 (.agg #[a0,a1,a2]) "Place").run Tryz.prog w=.ok (324,.agg #[a0,a1]) w:=qkr
def wPl_Unit a0 a1 N w:(method (N+1) 254 (.agg #[a0,a1]) "Place").run Tryz.prog w=.ok (324,.agg #[a0,a1]) w:=qkr
def wPl_Pair a0 a1 a2 a3 N w:(method (N+1) 256 (.agg #[a0,a1,a2,a3]) "Place").run Tryz.prog w=.ok (324,.agg #[a0,a1]) w:=qkr
def wPl_Typed a0 a1 a2 a3 N w:(method (N+1) 258 (.agg #[a0,a1,a2,a3]) "Place").run Tryz.prog w=.ok (324,.agg #[a0,a1]) w:=qkr
def wPl_Fun a0 a1 a2 a3 a4 a5 N w:(method (N+1) 239 (.agg #[a0,a1,a2,a3,a4,a5]) "Place").run Tryz.prog w=.ok (324,.agg #[a0,a1]) w:=qkr
def wPl_Let a0 a1 a2 a3 a4 a5 a6 a7 N w:(method (N+1) 241 (.agg #[a0,a1,a2,a3,a4,a5,a6,a7]) "Place").run Tryz.prog w=.ok (324,.agg #[a0,a1]) w:=qkr
def wPl_If a0 a1 a2 a3 a4 N w:(method (N+1) 243 (.agg #[a0,a1,a2,a3,a4]) "Place").run Tryz.prog w=.ok (324,.agg #[a0,a1]) w:=qkr
def wPl_Match a0 a1 a2 a3 N w:(method (N+1) 250 (.agg #[a0,a1,a2,a3]) "Place").run Tryz.prog w=.ok (324,.agg #[a0,a1]) w:=qkr
def wPl_Binary a0 a1 a2 a3 a4 N w:(method (N+1) 216 (.agg #[a0,a1,a2,a3,a4]) "Place").run Tryz.prog w=.ok (324,.agg #[a0,a1]) w:=qkr
def wPl_Call a0 a1 a2 a3 N w:(method (N+1) 269 (.agg #[a0,a1,a2,a3]) "Place").run Tryz.prog w=.ok (324,.agg #[a0,a1]) w:=qkr
def wPl_Any a0 a1 N w:(method (N+1) 259 (.agg #[a0,a1]) "Place").run Tryz.prog w=.ok (324,.agg #[a0,a1]) w:=qkr
def wPl_PatternPair a0 a1 a2 a3 N w:(method (N+1) 264 (.agg #[a0,a1,a2,a3]) "Place").run Tryz.prog w=.ok (324,.agg #[a0,a1]) w:=qkr
def wPl_Made a0 a1 a2 a3 a4 a5 N w:(method (N+1) 262 (.agg #[a0,a1,a2,a3,a4,a5]) "Place").run Tryz.prog w=.ok (324,.agg #[a0,a1]) w:=qkr
abbrev PlF tx x(f t:Nat):=∀(N:Nat)(w:fa),(method (N+1) tx x "Place").run Tryz.prog w=.ok (324,.agg #[.int .i64 (f:Int),.int .i64 (t:Int)]) w
def PE.place{x:ia}(h:PE w Q nd (.iface tx x)):PlF tx x (In.iG nd) (In.wO nd):=by
 intro N w'
 cases h with
 |low=>exact wPl_Low _ _ _ _ _|up=>exact wPl_Up _ _ _ _ _|num=>exact wPl_Number _ _ _ _ _|word=>exact wPl_Bool _ _ _ _ _|unit=>exact wPl_Unit _ _ _ _|pr=>exact wPl_Pair _ _ _ _ _ _|of=>exact wPl_Typed _ _ _ _ _ _|op=>exact wPl_Binary _ _ _ _ _ _ _|call=>exact wPl_Call _ _ _ _ _ _|fn=>exact wPl_Fun _ _ _ _ _ _ _ _|lt=>exact wPl_Let _ _ _ _ _ _ _ _ _ _|ite=>exact wPl_If _ _ _ _ _ _ _|mt=>exact wPl_Match _ _ _ _ _ _
def PP.place{x:ia}(h:PP w Q nd (.iface tx x)):PlF tx x (In.iG nd) (In.wO nd):=by
 intro N w'
 cases h with
 |any=>exact wPl_Any _ _ _ _|low=>exact wPl_Low _ _ _ _ _|num=>exact wPl_Number _ _ _ _ _|word=>exact wPl_Bool _ _ _ _ _|unit=>exact wPl_Unit _ _ _ _|pr=>exact wPl_PatternPair _ _ _ _ _ _|up=>exact wPl_Made _ _ _ _ _ _ _ _
def dv f t:aa j8 324 #[.agg #[Iv f,Iv t]] w λe w'=>e=.returned (.agg #[Iv f,Iv t])/\Bq w w':=by
 go_wp2
 exact bodyPost_ret (v:=Av #[Iv f,Iv t]) (by simp[results,Tryz.results324,go_sem]) rfl ⟨rfl,(bw _).alloc ag _⟩
end
section
open Go.ChangeMaps Un
mutual
def m0:Nd->Ty
 |.mk k s _ L _ _ _=>.aM (pP k s)<|Vm L
def Vm:List Nd->List Ty
 |[]=>[]|x::l=>m0 x::Vm l
end
def xU:∀L,(Vm L).length=L.length
 |[]=>rfl|_::l=>by simp[Vm,xU l]
def QF:∀(L:List Nd)(i:Nat)(h:i<L.length),(Vm L)[i]'(by rw[xU];exact h)=m0 L[i]
 |x::l,0,_=>rfl|x::l,i+1,h=>by simp only[Vm,jo];exact QF l i uY
inductive N0:Nd->Prop where
 |two(k:Nat)(s:BA)(n:Nat)(x y:Nd)(f t a:Nat)(hk:k=17\/k=6)(hx:N0 x)(hy:N0 y):N0 (.mk k s n [x,y] f t a)
 |up(s:BA)(n:Nat)(L:List Nd)(f t a:Nat)(hl:L.length<=1001)(hL:∀i(h:i<L.length),N0 L[i]):N0 (.mk 2 s n L f t a)
def EI:∀(L:List Nd),(∀i(h:i<L.length),∀ns,(∀n,¬aA n (bm ns<|es L[i]).1)->size (bm ns<|es L[i]).1<=1000->N0 L[i]/\bm ns (es L[i])=(m0 L[i],ns))->∀ns,(∀n,¬bZ n (aJ ns<|bB L).1)->ak (aJ ns<|bB L).1<=1000->
 (∀i(h:i<L.length),N0 L[i])/\aJ ns (bB L)=(Vm L,ns)/\L.length<=1000
 |[],_,ns,_,_=>⟨λi h=>absurd h ag,rfl,ag⟩|x::l,H,ns,ho,hz=>by
  simp only[bB,aJ,bZ,ak,not_or]at ho hz;have⟨o,d⟩:=H 0 ag ns (λn=>(ho n).1)<|qk (Nat.le_add_right _ _) hz;have d:bm ns (es x)=(m0 x,ns):=d;rw[d]at ho hz;have hz:size (m0 x)+ak (aJ ns<|bB l).1<=1000:=hz;have⟨A,e,h5⟩:=EI l (λi hi=>H (i+1) bQ) ns (λn=>(ho n).2) ae;have h6:1<=size (m0 x):=by cases x with|mk k s n L f t a=>simp only[m0,size];omega
  have I:∀(l:List Ty),l.length<=ak l:=by
   intro l
   induction l with
   |nil=>simp
   |cons t l ih=>simp only[eG,ak];have:1<=size t:=by cases t<;>simp[size]
                 omega
  have J:=I<|Vm l;rw[e]at hz;rw[xU]at J;refine⟨λi hi=>?_,?_,?_⟩
  .cases i with
   |zero=>exact o|succ i=>exact A i WW
  .simp[bB,aJ,d,e,Vm]
  .simp only at hz;simp only[eG];omega
def adf(h:PT w Q nd v):∀ns,(∀n,¬aA n (bm ns<|es nd).1)->size (bm ns<|es nd).1<=1000->N0 nd/\bm ns (es nd)=(m0 nd,ns):=by
 induction h with
 |var s n f t a x y hq hx hy=>
  intro ns d _;exfalso;simp only[es,bm,if_true]at d;exact d _ rfl
 |fn s n a b f t at_ x y va vb ha hb tK tM=>
  intro ns d e;have I:∀k,k=17\/k=6->bm ns (es<|.mk k s n [a,b] f t at_)=(.aM (pP k s) (aJ ns<|bB [a,b]).1,(aJ ns<|bB [a,b]).2):=λk hk=>by obtain rfl|rfl:=hk<;>simp[es,bm]
  rw[I _<|qj rfl]at d e⊢;simp only[size,aA]at d e
  have⟨o,J,K⟩:=EI [a,b] (λi hi=>by
   have A:i=0\/i=1:=LY;obtain rfl|rfl:=A
   .exact tK
   .exact tM) ns d ae
  refine⟨.two 17 s n a b f t at_ (qj rfl) (o 0 ag)<|o 1 ag,?_⟩;rw[J];simp[m0]
 |pr s n a b f t at_ x y va vb ha hb tK tM=>
  intro ns d e;have I:∀k,k=17\/k=6->bm ns (es<|.mk k s n [a,b] f t at_)=(.aM (pP k s) (aJ ns<|bB [a,b]).1,(aJ ns<|bB [a,b]).2):=λk hk=>by obtain rfl|rfl:=hk<;>simp[es,bm]
  rw[I _<|qi rfl]at d e⊢;simp only[size,aA]at d e
  have⟨o,J,K⟩:=EI [a,b] (λi hi=>by
   have A:i=0\/i=1:=LY;obtain rfl|rfl:=A
   .exact tK
   .exact tM) ns d ae
  refine⟨.two 6 s n a b f t at_ (qi rfl) (o 0 ag)<|o 1 ag,?_⟩;rw[J];simp[m0]
 |up s n L f t at_ x y x' y' sa sc vs hu bK hr hx hy ih=>
  intro ns d e;have I:bm ns (es<|.mk 2 s n L f t at_)=(.aM (pP 2 s) (aJ ns<|bB L).1,(aJ ns<|bB L).2):=by simp[es,bm]
  rw[I]at d e⊢;simp only[size,aA]at d e;have⟨o,J,K⟩:=EI L ih ns d ae;refine⟨.up s n L f t at_ ae o,?_⟩;rw[J];simp[m0]
def Yn T w(e:la)w':=∃u,e=.returned u/\eh w' (λb=>w.heap.size<=b) T u/\Fr (λ_=>False) w w'
def Yn.up{e}(h:Yn T w0 e w')(d:Bq w w0):Yn T w e w':=by
 obtain⟨u,i,o,A⟩:=h;exact⟨u,i,o.wide λb p=>qk d.size p,(Fr.of d).trans A⟩
def DS nd:=∀(w:fa)(Q:Nat->Prop)(v:ia),PT w Q nd v->aa j8 241 #[v,.nilFunc] w (Yn (m0 nd) w)
def Yo(L:List Nd)w gk v wr:=
 ∃(j:Nat)(C:Array ia),Hid (gk=L.length-j)/\j<=L.length/\v=Nv j/\Fr (λ_=>False) w wr/\Bx wr w.heap.size C/\Hid (C.size=L.length)/\
  Hid (∀i(h:i<L.length),i<j->∃u,C[i]? =na u/\eh wr (λb=>w.heap.size<b/\b<wr.heap.size) (m0 L[i]) u)
def JJ{p:Prop}(h:p:=by
 exact HU.low.move ae (λb p z=>LS b qAy z)<|λb p z=>⟨qAy,ae⟩):p:=h
def CP c(g0:CN c)L sa sc(vs:Nat->ia)(hL:L.length<=1001)(N:L=[]\/∃g,sa=na ⟨g,0,ab⟩/\Q g/\g<w.heap.size/\∀i,i<L.length->w.cell? ⟨g,i,ab⟩=na (vs i))(hr:∀i(h:i<L.length),PT w Q L[i]<|vs i)(IH:∀i(h:i<L.length),DS L[i]):
 aa j8 259 #[.string<|pn c,.nilFunc,.slice sa L.length sc] w (Yn (.aM c<|Vm L) w):=by
 obtain⟨i0,X,Y,Z,a0⟩:=info_parts fY;have hmk:=jE (by_:=16) eH X Y rfl Z a0 aD L.length hL;go_wp2
 go_loopg[15] L.length (λgk v wr=>Yo L w gk v wr)
 case atStart=>
  exact⟨0,qs L.length .nilIface,ai ag,ql _,rfl,Fr.of<|bw _,vd w _ _,ai ag,ai<|λi _ hi=>absurd hi ae⟩
 case round=>
  obtain⟨j,C,b0,hj,rfl,J,O,hC,hT⟩:=hrel;have zw:=J.size;by_cases bY:j<L.length
  .have hd:=kK bY;obtain⟨g,rfl,hg,c0,d⟩:∃g,sa=na ⟨g,0,ab⟩/\Q g/\g<w.heap.size/\∀i,i<L.length->w.cell? ⟨g,i,ab⟩=na (vs i):=by
    obtain h0|h0:=N
    .subst h0;simp at bY
    .exact h0
   have cg:wr.cell? ⟨g,j,ab⟩=na (vs j):=by
    rw[qy (a:=⟨g,j,ab⟩) (w:=w)<|J.block g c0 id];exact d j bY
   have PJ:=(hr j bY).fr J<|λb p _ q=>q;obtain⟨tv,xv,hv⟩:=PJ.dI;have HC:=IH j bY wr Q (vs j) PJ;rw[hv]at cg HC;go_wp2_with fail;refine HC.mono ?_;rintro e K⟨u,rfl,HU,R⟩;obtain⟨A,I,rfl⟩:=HU.iface;have B2:=O.fr R id;have o:j<C.size:=qBh;have cj:=(B2.c j).trans<|qv o;have fj:=B2.f j;have B3:=B2.aW j (.iface A I) (C.setIfInBounds j<|.iface A I) rfl o;have d0:=J.trans R;have z2:=R.size;have zb:=O.z
   go_wp2
   go_roundg(L.length-(j+1))
   case measure=>rw[uh b0];omega
   case rel=>
    refine⟨j+1,C.setIfInBounds j<|.iface A I,ai rfl,ae,iF,d0.set (qi<|br _) j _,B3,ai (by simp;exact hC),ai<|λi hi hij=>?_⟩;have LS:∀b,w.heap.size<b->b<K.heap.size->(K.setCell ⟨w.heap.size,j,ab⟩<|.iface A I).heap[b]? =K.heap[b]? :=λb hb _=>zd _ _ _ _ (by show b≠w.heap.size;omega);have hss:(K.setCell ⟨w.heap.size,j,ab⟩<|.iface A I).heap.size=K.heap.size:=BL;by_cases e:i=j
    .subst e;refine⟨.iface A I,by simp[o],?_⟩;exact JJ
    .obtain⟨u',e0,f0⟩:=uh hT i hi ae;refine⟨u',by rw[qu ae];exact e0,?_⟩;have h3:=f0.fr R<|λb p _ q=>q;exact EH
  .have hd:=nN bY;have A:j=L.length:=ae;subst A
   go_wp2
   go_ret;refine⟨_,rfl,?_,J⟩;have d:=xU L;rw[<-d];refine .aM c _ _ _ (λi=>C.getD i .nilIface) g0 (qi ⟨w.heap.size,rfl,br _,O.z,λi hi=>?_⟩)<|λi hi=>?_
   .obtain⟨u,hu,_⟩:=uh hT i ae ae;rw[O.c i,hu];simp[qt,hu]
   .obtain⟨u,hu,o⟩:=uh hT i ae ae;have:C.getD i .nilIface=u:=qBm;rw[this,QF L i ae];exact o.wide λb p=>qAu
def QG{p:Prop}(h:p:=by
 go_in;go_wp;refine HC.mono ?_;intro e w1 hp;have hp2:=hp.up MP;obtain⟨u,rfl,_⟩:=hp
 go_wp2
 go_ret
 exact hp2):p:=h
def QH{T}{cn}(O:k=17/\T=228/\cn=rG\/k=6/\T=231/\cn=pq)s n x y f t a(hx:DS x)(hy:DS y):DS (.mk k s n [x,y] f t a):=by
 intro w Q v hp;have e:m0 (.mk k s n [x,y] f t a)=.aM cn (Vm [x,y]):=by obtain⟨rfl,rfl,rfl⟩|⟨rfl,rfl,rfl⟩:=O<;>simp[m0,pP]
 rw[e];obtain⟨K,N,R,X,Z,hb,rfl⟩:∃K N R X,PT w Q x R/\PT w Q y X/\v=Fv T (Av #[Iv K,Iv N,R,X]):=by obtain⟨rfl,rfl,rfl⟩|⟨rfl,rfl,rfl⟩:=O<;>(cases hp;exact⟨_,_,_,_,qas,qas,rfl⟩)
 obtain⟨o,A,rfl⟩:=Z.dI;obtain⟨I,J,rfl⟩:=hb.dI;have MP:Bq w ((w.alloc<|Cv #[Iv K,Iv N,Fv o<|Av A,Fv I<|Av J] T).alloc<|Cv #[Fv o<|Av A,Fv I<|Av J] 155):=(bw _).alloc ag _;have BR:=(vd (w.alloc<|Cv #[Iv K,Iv N,Fv o<|Av A,Fv I<|Av J] T) #[Fv o<|Av A,Fv I<|Av J] 155);have Y:(w.alloc<|Cv #[Iv K,Iv N,Fv o<|Av A,Fv I<|Av J] T).heap.size=w.heap.size+1:=ag;rw[Y]at BR
 have HC:=ai (CP (w:=((w.alloc<|Cv #[Iv K,Iv N,Fv o<|Av A,Fv I<|Av J] T).alloc<|Cv #[Fv o<|Av A,Fv I<|Av J] 155)) (Q:=λb=>Q b\/b=w.heap.size+1) cn (by obtain⟨-,-,rfl⟩|⟨-,-,rfl⟩:=O;exact qj rfl;exact qi<|qj rfl) [x,y] (na ⟨w.heap.size+1,0,ab⟩) 2 (λi=>if i=0 then Fv o (Av A)else Fv I (Av J)) ag
  (qi ⟨w.heap.size+1,rfl,qi rfl,ag,λi hi=>by
   have d:i=0\/i=1:=LY;rw[BR.c i]
   obtain rfl|rfl:=d<;>rfl⟩)
  (λi hi=>by
   have d:i=0\/i=1:=LY;obtain rfl|rfl:=d
   .exact(Z.af MP).wide λb p=>qj p
   .exact(hb.af MP).wide λb p=>qj p)
  (λi hi=>by
   have d:i=0\/i=1:=LY;obtain rfl|rfl:=d
   .exact hx
   .exact hy))
 obtain⟨rfl,rfl,rfl⟩|⟨rfl,rfl,rfl⟩:=O;all_goals
  first|rw[jO]at HC|rw[jP]at HC
  exact QG
def ae7 s n L f t a(J:L.length<=1001)(K:∀i(h:i<L.length),DS L[i]):DS (.mk 2 s n L f t a):=by
 intro w Q v hp;have e:m0 (.mk 2 s n L f t a)=.aM s (Vm L):=by simp[m0,pP]
 rw[e]
 cases hp with
 |up s n L f t at_ x y x' y' sa sc vs hu bK hr hx hy=>
 clear hx hy;have MP:Bq w (w.alloc<|Cv #[Iv x,Iv y,Iv x',Iv y',Sv s,Lv sa L.length sc] 230):=bw _
 have HC:=ai (CP (Q:=Q) s (qi<|qi hu) L sa sc vs J
  (bK.imp id λq=>by
   obtain⟨g,d,o,A,I⟩:=q
   exact⟨g,d,o,bQ,λi hi=>(qy (a:=⟨g,i,ab⟩)<|MP.block g A).trans<|I i hi⟩)
  (λi hi=>(hr i hi).af MP) K)
 rw[e9 hu]at HC;clear bK hr;exact QG
def adg nd(h:N0 nd):DS nd:=by
 induction h with
 |two k s n x y f t a hk hx hy bu cW=>
  obtain rfl|rfl:=hk
  .exact QH (qj ⟨rfl,rfl,rfl⟩) s n x y f t a bu cW
  .exact QH (qi ⟨rfl,rfl,rfl⟩) s n x y f t a bu cW
 |up s n L f t a hl hL ih=>exact ae7 s n L f t a hl ih
end
section
open Go.ChangeMaps Go.MapKept Un
abbrev aiJ:I4:=λ_ B M _=>B=(λ_=>False)/\M=(λ_=>False)
def Ub n w:aa j8 236 #[Iv n] w λe w'=>e=.returned (.iface 194<|.agg #[.string kQ,.slice ab 0 0])/\w'=w:=by
 go_in;go_wp;refine(yF).mono ?_;rintro e w1⟨rfl,rfl⟩
 go_wp2
 go_ret;exact⟨rfl,rfl⟩
def Nb:Img 236 #[] #[] (λ_=>In.kM) (λ_ _=>True) aiJ where
 eg:=enters_of Tryz.func236 qkr rfl
 fB acc B M w w' h _ _:=h
 lt acc B M w h:=BS
 call acc B M w n h _:=by
  obtain⟨rfl,rfl⟩:=h;refine(Ub (n:Int) w).mono ?_;rintro e w'⟨rfl,rfl⟩;exact⟨_,_,_,rfl,H8 _ _ r_,⟨rfl,rfl⟩,λb p=>p.elim,λb p=>p.elim,Fr.refl _ _⟩
def BU{t}(o:dq w Q t v)(J:size t<=1000000000000):aa j8 225 #[v] w λe w'=>∃u,e=.returned u/\dq w' (λi=>w.heap.size<=i) (In.fW t) u/\Bq w w':=by
 have A:=zE Nb t [] _ _ w v Q ⟨rfl,rfl⟩ (λi hi=>trivial) J o<|λx _ _=>id;obtain⟨ta,xa,rfl⟩:=o.iface;go_in;go_wp;refine A.mono ?_;rintro e w1⟨u,B',M',rfl,d,hI,hB',hM',F⟩;obtain⟨tu,xu,rfl⟩:=d.iface;have I:=F.none<|λ_ q=>q
 go_wp2
 go_ret;exact⟨_,rfl,d.wide λx p=>p.2.elim (λq=>q.elim) id,I⟩
end
section
open Go.ChangeMaps Un
@[simp] theorem agf a0 a1 a2 a3 a4 a5 a6 w:(xn (.iface 96<|.agg #[a0,a1,a2,a3,a4,a5,a6]) 75 96 bb).run j8 w=.ok (.tuple #[(.agg #[a0,a1,a2,a3,a4,a5,a6]),.bool bb]) w:=qkr
@[simp] theorem agh a0 a1 a2 a3 a4 a5 a6 w:(xn (.iface 103<|.agg #[a0,a1,a2,a3,a4,a5,a6]) 75 103 bb).run j8 w=.ok (.tuple #[(.agg #[a0,a1,a2,a3,a4,a5,a6]),.bool bb]) w:=qkr
@[simp] theorem agi a0 a1 a2 a3 a4 a5 a6 w:(xn (.iface 103<|.agg #[a0,a1,a2,a3,a4,a5,a6]) 75 96 bb).run j8 w=.ok (.tuple #[(.agg #[Iv 0,Iv 0,Iv 0,Iv 0,.string ⟨#[]⟩,.slice ab 0 0,.slice ab 0 0]),.bool fb]) w:=qkr
def metW_Makers a w:(method 557 85 (.pointer<|some a) "Makers").run Tryz.prog w=.ok (218,.pointer<|some a) w:=qkr
def metW_Let a w:(method 557 85 (.pointer<|some a) "Let").run Tryz.prog w=.ok (217,.pointer<|some a) w:=qkr
def metJ_Makers a w:(method 557 87 (.pointer<|some a) "Makers").run Tryz.prog w=.ok (286,.pointer<|some a) w:=qkr
def metJ_Let a w:(method 557 87 (.pointer<|some a) "Let").run Tryz.prog w=.ok (285,.pointer<|some a) w:=qkr
def BQ:(Tryz.prog.info? 416).map (λi=>(i.zero,i.size,i.bytes))=na (na<|.pointer ab,1,8):=qkr
def vA:Tryz.prog.underlying 424=na (.slice 416):=qkr
def BP:∀(L:List Ty),L.length<=ak L
 |[]=>ql _|t::l=>by have:=BP l;have:=size_pos t;simp[ak];omega
def zT{α β:Type}{E d:α->β->Prop}(h:∀a b,E a b->d a b):∀{l:List α}{k:List β},dL E l k->dL d l k
 |_,_,.nil=>.nil|_,_,.cons p q=>.cons (h _ _ p)<|zT h q
def EK{α β:Type}{E:α->β->Prop}:∀{l:List α}{k:List β},dL E l k->∀i(h:i<l.length)(d:i<k.length),E l[i] k[i]
 |_,_,.nil,i,h,_=>absurd h (qn _)|_,_,.cons p _,0,_,_=>p|_,_,.cons _ q,i+1,h,d=>EK q i uY (by simpa using d)
def zU{α β:Type}{E:α->β->Prop}:∀{l:List α}{k:List β},dL E l k->l.length=k.length
 |_,_,.nil=>rfl|_,_,.cons _ q=>by simp[zU q]
def Fin.eqv{nx}(h:qg str nx vr F V)(e:iK str nx bh):qg str bh vr F V:=by
 intro x A;have⟨I,o⟩:=h x A;refine⟨(e.AQ x).2 I,?_⟩
 cases hs:str x with
 |none=>grind|some p=>
  obtain⟨c,l⟩:=p;rw[hs]at o;obtain⟨i,a,b,d⟩:=o;exact⟨i,zT (λx y q=>e.lB x y q) a,b,d⟩
def mu(M:List (Nat×ia)):List Nat->Nat
 |[]=>0|x::l=>(if(ba x M).isNone then 1 else 0)+mu M l
def EL{M M':List (Nat×ia)}(h:∀x,ba x M'=ab->ba x M=ab):∀ds,mu M' ds<=mu M ds
 |[]=>br _|x::l=>by
  have:=EL h l;unfold mu;by_cases e:ba x M'=ab
  .simp[e,h x e];exact this
  .have:(ba x M').isNone=fb:=by cases q:ba x M' with
    |none=>exact absurd q e|some v=>rfl
   simp[this];omega
def Yp{M:List (Nat×ia)}{h:Nat}(d:ba h M=ab)(v:ia):∀{ds:List Nat},h∈ds->mu (bF h v M) ds<mu M ds
 |[],q=>by simp at q|x::l,q=>by
  have i:=EL (M:=M) (M':=bF h v M) (λy hy=>by
   rw[aO]at hy;split at hy
   .cases hy
   .exact hy)
  by_cases e:h=x
  .subst e;have:=i l;unfold mu;rw[aO];simp[d];omega
  .have o:=(List.mem_cons.1 q).resolve_left e;have:=Yp d v o;unfold mu;rw[aO];simp[e];omega
def ab3{M}:ba x M=na v->∃p∈M,p.1=x:=by
 induction M with
 |nil=>intro h;cases h|cons p l ih=>
  intro h;rw[ba]at h;split at h
  .rename_i e;exact⟨p,ag,e⟩
  .grind
def JK{M}{p}:p∈bF x v M->p∈M\/p.1=x:=by
 induction M with
 |nil=>intro h;simp[bF]at h;exact qi (by rw[h])|cons q l ih=>
  intro h;rw[bF]at h;split at h
  .grind
  .grind
structure SZ(ds:List Nat)str nx vr M F(B:List Nat)V:Prop where
 fin:qg str nx vr F V
 fg:∀x,F x->ba x M=na (.int .i64 ((min (size<|V x) 49:Nat):Int))
 bg:∀x∈B,ba x M=na (Iv 0)
 gm:∀x v,ba x M=na v->F x\/x∈B
 kd:∀p∈M,p.1∈ds
section
variable {nx:Nx} {M:List (Nat×ia)} {B:List Nat}
def SZ.eqv(h:SZ ds str nx vr M F B V)(e:iK str nx bh):SZ ds str bh vr M F B V:=⟨Fin.eqv h.fin e,h.fg,h.bg,h.gm,h.kd⟩
def SZ.fd(h:SZ ds str nx vr M F B V)(i:F x):x∈ds:=by
 have⟨p,d,e⟩:=ab3<|h.fg x i;exact e▸h.kd p d
def QI T:(((min (size T) 49:Nat)):Int)≠0:=by have:=size_pos T;omega
def SZ.apart(h:SZ ds str nx vr M F B V)(e:F x)(i:x∈B):False:=by
 have d:=h.fg x e;rw[h.bg x i]at d;injection d with d;injection d with _ d;exact QI _ d.symm
def SZ.begin(h:SZ ds str nx vr M F B V)(i:x∈ds)(d:ba x M=ab):SZ ds str nx vr (bF x (Iv 0) M) F (x::B) V:=by
 refine⟨h.fin,λy hy=>?_,λy hy=>?_,λy v hy=>?_,λp hp=>?_⟩
 .rw[aO,if_neg (λe=>by subst e;rw[h.fg _ hy]at d;cases d)];exact h.fg y hy
 .rw[aO];by_cases e:x=y
  .rw[if_pos e]
  .rw[if_neg e];exact h.bg y<|(List.mem_cons.1 hy).resolve_left<|λq=>e q.symm
 .rw[aO]at hy;by_cases e:x=y
  .grind
  .rw[if_neg e]at hy;exact(h.gm y v hy).imp id λq=>qBf
 .obtain q|q:=JK hp
  .exact h.kd p q
  .rw[q];exact i
def SZ.done(h:SZ ds str nx vr M F (x::B) V)(K:¬x∈B)(O:x∈ds)(R:nx x=ab)T(A:match str x with
 |none=>T=.var (vr x)|some (c,l)=>∃hs,dL (Hd nx) l hs/\(∀y,y∈hs->F y)/\T=.aM c (hs.map V)):
 SZ ds str nx vr (bF x (.int .i64 ((min (size T) 49:Nat):Int)) M) (λy=>F y\/y=x) B (qe V x T):=by
 have I:∀y,F y->y≠x:=λy hy e=>by subst e;exact h.apart hy ag
 have i:∀hs:List Nat,(∀y,y∈hs->F y)->hs.map (qe V x T)=hs.map V:=λhs q=>by
  apply jy;intro y hy;simp[qe,I y<|q y hy]
 refine⟨λy hy=>?_,λy hy=>?_,λy hy=>?_,λy v hy=>?_,λp hp=>?_⟩
 .by_cases e:y=x
  .subst e;refine⟨R,?_⟩
   cases hs:str y with
   |none=>rw[hs]at A;simpa[qe]using A|some p=>
    obtain⟨c,l⟩:=p;rw[hs]at A;obtain⟨k,a,b,d⟩:=A;exact⟨k,a,λz hz=>qj<|b z hz,by rw[i k b];simp[qe,d]⟩
  .have J:=hy.resolve_right e;have⟨N,o⟩:=h.fin y J;refine⟨N,?_⟩
   cases hs:str y with
   |none=>rw[hs]at o;simpa[qe,e]using o|some p=>
    obtain⟨c,l⟩:=p;rw[hs]at o;obtain⟨k,a,b,d⟩:=o;exact⟨k,a,λz hz=>qj<|b z hz,by rw[i k b];simp[qe,e,d]⟩
 .rw[aO];by_cases e:x=y
  .subst e;simp[qe]
  .rw[if_neg e];have o:y≠x:=λq=>e q.symm;simp only[qe,o,if_false];exact h.fg y<|hy.resolve_right o
 .rw[aO,if_neg (λe:x=y=>K<|e▸hy)];exact h.bg y (by simp[hy])
 .rw[aO]at hy;by_cases e:x=y
  .omega
  .rw[if_neg e]at hy;obtain q|q:=h.gm y v hy
   .grind
   .grind
 .obtain q|q:=JK hp
  .exact h.kd p q
  .rw[q];exact O
end
abbrev A8:Nat->ia:=λb=>Pv b
def Uc:(Tryz.prog.info? 426).map (λi=>i.size)=na 5:=qkr
def V8:KL j8 416 A8 (λw b=>∃c t,w.heap[b]? =na (.cells c t (0,0))):=by
 obtain⟨j,d,hs⟩:∃j,Tryz.prog.info? 426=na j/\j.size=5:=by
  have:=Uc
  cases h:Tryz.prog.info? 426 with
  |none=>grind|some j=>grind
 exact KL.ptr Tryz.underlying416 d ae
def zV w ds(str:wP)(nx:Nx)(vr:Nat->Nat)(ly:Nat->Option Addr×Nat)(lv:Nat->Nat)n:=
 w.heap[n]? =na (.cells #[nP<|nx n,Nv<|lv n,Nv<|vr n,.string<|byS<|str n,.slice (ly n).1 (slN<|str n) (ly n).2] 426 (0,0))/\ig w ds (ly n).1 (str n)/\∀m,nx n=na m->m∈ds
structure GL w ds str nx vr ly lv:Prop where
 nd:∀n,n∈ds->zV w ds str nx vr ly lv n
 out:∀n,¬n∈ds->nx n=ab/\str n=ab
 hd:∀n,n∈ds->∃h,Hd nx n h
def zV.cells{nx}{lv}(h:zV w ds str nx vr ly lv n):w.cell? ⟨n,0,ab⟩=na (nP<|nx n)/\w.frozen? ⟨n,0,ab⟩=fb/\w.cell? ⟨n,3,ab⟩=na (.string<|byS<|str n)/\w.cell? ⟨n,2,ab⟩=na (Nv<|vr n)/\w.cell? ⟨n,4,ab⟩=na (.slice (ly n).1 (slN<|str n) (ly n).2):=by
 obtain⟨h1,_⟩:=h;exact⟨qBu,by simp[q9,h1],qBu,qBu,qBu⟩
def zV.lvl{nx}{lv}(h:zV w ds str nx vr ly lv n):w.cell? ⟨n,1,ab⟩=na (Nv<|lv n)/\w.frozen? ⟨n,1,ab⟩=fb:=⟨by simp[xf,h.1],by simp[q9,h.1]⟩
def QJ{p:Prop}(h:p:=by
 cases hs:str x with
 |none=>trivial|some p=>
  obtain⟨c,l⟩:=p;rw[hs]at h2;obtain⟨p1,p2,p3,p4⟩:=h2;refine⟨p1,p2,p3,p4.imp id λq=>?_⟩;obtain⟨g,q1,q2,q3,q4⟩:=q;refine⟨g,q1,q2,by simpa[qz]using q3,λi hi=>?_⟩;rw[World.cell?_setCell_other _ _ _ _ (by intro e;injection e with e;subst e;exact q2 hn)]
  exact q4 i hi):p:=h
def GL.set{nx}{lv}(h:GL w ds str nx vr ly lv)(hn:n∈ds)(J:k∈ds)(d:∀x,x∈ds->∃y,Hd (qe nx n<|some k) x y):GL (w.setCell ⟨n,0,ab⟩<|nA k) ds str (qe nx n<|some k) vr ly lv:=by
 refine⟨λx hx=>?_,λx hx=>?_,d⟩
 .have⟨o,h2,I⟩:=h.nd x hx;have A:ig (w.setCell ⟨n,0,ab⟩<|nA k) ds (ly x).1 (str x):=by
   exact QJ
  by_cases e:x=n
  .subst e;refine⟨(dR o 0 _).trans<|by simp[qe,nP],A,λm hm=>?_⟩;simp[qe]at hm;subst hm;exact J
  .refine⟨?_,A,λm hm=>I m<|by simpa[qe,e]using hm⟩;rw[zd _ _ _ _ e,o];simp[qe,e]
 .have:x≠n:=λe=>hx<|e▸hn;simpa[qe,this]using h.out x hx
def GL.SO{nx}{lv}(h:GL w ds str nx vr ly lv)(hn:n∈ds)L:GL (w.setCell ⟨n,1,ab⟩<|Nv L) ds str nx vr ly (qe lv n L):=by
 refine⟨λx hx=>?_,h.out,h.hd⟩;have⟨d,h2,o⟩:=h.nd x hx;have A:ig (w.setCell ⟨n,1,ab⟩<|Nv L) ds (ly x).1 (str x):=by
  exact QJ
 by_cases e:x=n
 .subst e;refine⟨(dR d 1 _).trans Oy,A,o⟩
 .refine⟨?_,A,o⟩;rw[zd _ _ _ _ e,d];simp[qe,e]
def Ud ds str nx vr ly lv h w(e:la)w':=
 e=.returned (nA h)/\∃bh,GL w' ds str bh vr ly lv/\Fr (λb=>b∈ds) w w'/\iK str nx bh/\w'.heap.size=w.heap.size
def Yq ds str nx vr ly lv h w gk v wr:=
 ∃n bh,v=nA n/\n∈ds/\Jq bh n h gk/\GL wr ds str bh vr ly lv/\Fr (λb=>b∈ds) w wr/\iK str nx bh/\wr.heap.size=w.heap.size
section
variable {nx:Nx} {lv:Nat->Nat}
def qP(hg:GL w ds str nx vr ly lv)(hn:n∈ds)(hh:Hd nx n h):aa j8 297 #[nA n] w (Ud ds str nx vr ly lv h w):=by
 have⟨j0,I⟩:=Hd.len hh;have HJ:=ai I;clear I hh;go_wp2
 go_loopg[0] j0 (λgk v wr=>Yq ds str nx vr ly lv h w gk v wr)
 case atStart=>exact⟨n,nx,rfl,hn,HJ,hg,Fr.refl _ _,iK.refl _ _,rfl⟩
 case round=>
  clear hg HJ;obtain⟨i,gX,rfl,d,N,e,O,R,X⟩:=hrel;have⟨o,f0,_⟩:=(e.nd i d).cells
  cases N with
  |here e0=>
   rw[e0]at o;have Y:wr.cell? ⟨h,0,ab⟩=na (.pointer ab):=o;clear o
   go_wp2
   go_ret;exact⟨rfl,gX,e,O,R,X⟩
  | @step _ m _ k e0 hlm=>
    have Z:m∈ds:=by
     have⟨_,_,h3⟩:=e.nd i d;exact h3 m e0
    have J:i≠m:=λq=>by subst q;have:=(Jq.step e0 hlm).one hlm;omega
    rw[e0]at o;have Y:wr.cell? ⟨i,0,ab⟩=na (Pv m):=o;have⟨A,_⟩:=(e.nd m Z).cells;clear o
    cases hlm with
    |here e1=>
     rw[e1]at A;have a0:wr.cell? ⟨h,0,ab⟩=na (.pointer ab):=A;clear A
     go_wp2
     go_roundg 0
     case measure=>omega
     case rel=>exact⟨h,gX,rfl,Z,.here e1,e,O,R,X⟩
    | @step _ m2 _ k2 e1 hl2=>
      rw[e1]at A;have a0:wr.cell? ⟨m,0,ab⟩=na (Pv m2):=A;have K:m2∈ds:=by
       have⟨_,_,h3⟩:=e.nd m Z;exact h3 m2 e1
      clear A;have hnm:¬m=i:=λq=>J q.symm
      go_wp2
      go_roundg k2
      case measure=>omega
      case rel=>
       refine⟨m2,qe gX i<|some m2,rfl,K,hl2.eE (Jq.step e0<|Jq.step e1 hl2) ae _,e.set d K<|λx hx=>?_,O.set (qj d) 0 _,R.trans<|iK.short str e0 e1 J,by simp[qz];exact X⟩;have⟨y,hy⟩:=e.hd x hx;exact⟨y,hy.short e0 e1⟩
end
structure jQ(str:wP)(nx:Nx)(ds:List Nat)(lv cJ:Nat->Nat)n L(D:Nat->Prop):Prop where
 up:∀m,D m->m∈ds/\nx m=ab/\L<lv m/\cJ m=L
 no:∀m,¬D m->cJ m=lv m
 hd:∀h,Hd nx n h->D h\/lv h<=L
 cl:∀a,D a->∀c l,str a=na (c,l)->∀p,p∈l->∀h,Hd nx p h->D h\/lv h<=L
 re:∀R:Nat->Prop,(∀h,Hd nx n h->R h)->(∀a c l p h,R a->str a=na (c,l)->p∈l->Hd nx p h->R h)->∀a,D a->R a
structure w_(str:wP)(nx:Nx)(ds:List Nat)(lv lK:Nat->Nat)h(l:List Nat)L(D:Nat->Prop):Prop where
 own:D h
 up:∀m,D m->m∈ds/\nx m=ab/\L<lv m/\lK m=L
 no:∀m,¬D m->lK m=lv m
 pt:∀p,p∈l->∀k,Hd nx p k->D k\/lv k<=L
 cl:∀a,D a->a≠h->∀c l,str a=na (c,l)->∀p,p∈l->∀k,Hd nx p k->D k\/lv k<=L
 re:∀R:Nat->Prop,R h->(∀a c l p k,R a->str a=na (c,l)->p∈l->Hd nx p k->R k)->∀a,D a->R a
section
variable {nx:Nx} {lv lK:Nat->Nat} {L:Nat} {E:Nat->Prop}
def jQ.nil(d:Hd nx n h)(e:lv h<=L):jQ str nx ds lv lv n L (λ_=>False):=
 ⟨λ_ q=>q.elim,λ_ _=>rfl,λk q=>qi (by rw[q.one d];exact e),λ_ q=>q.elim,λ_ _ _ _ q=>q.elim⟩
def w_.start(d:h∈ds)(e:nx h=ab)(i:L<lv h):w_ str nx ds lv (qe lv h L) h [] L (λm=>m=h):=
 ⟨rfl,λm q=>by subst q;exact⟨d,e,i,Oy⟩,λm q=>by simp[qe,q],λp q=>by simp at q,λa q r=>absurd q r,λR q _ a r=>by subst r;exact q⟩
def w_.step{p}{c}{l0}(K:str h=na (c,l0))(N:p∈l0)(k:w_ str nx ds lv lK h l L D)(q:jQ str nx ds lK cJ p L E):w_ str nx ds lv cJ h (l++[p]) L (λm=>D m\/E m):=by
 have i:∀m,E m->¬D m:=λm e d=>by have:=(q.up m e).2.2.1;have:=(k.up m d).2.2.2;omega
 have low:∀x,lK x<=L->D x\/lv x<=L:=λx hx=>by
  by_cases d:D x
  .exact qj d
  .exact qi (by rw[<-k.no x d];exact hx)
 refine⟨qj k.own,λm e=>?_,λm e=>?_,λp' BO x hx=>?_,λa e ne c' l' AZ p' BO x hx=>?_,λR r1 r2 a e=>?_⟩
 .by_cases d:E m
  .have⟨o,A,I,J⟩:=q.up m d;exact⟨o,A,by rw[<-k.no m (i m d)];exact I,J⟩
  .have⟨o,A,I,J⟩:=k.up m<|e.resolve_right d;exact⟨o,A,I,(q.no m d).trans J⟩
 .rw[q.no m<|λd=>e<|qi d,k.no m<|λd=>e<|qj d]
 .obtain BO|BO:=List.mem_append.1 BO
  .exact(k.pt p' BO x hx).imp qj id
  .simp at BO;subst BO;obtain r|r:=q.hd x hx
   .grind
   .grind
 .obtain d|d:=e
  .exact(k.cl a d ne c' l' AZ p' BO x hx).imp qj id
  .obtain r|r:=q.cl a d c' l' AZ p' BO x hx
   .grind
   .grind
 .obtain d|d:=e
  .exact k.re R r1 r2 a d
  .exact q.re R (λx hx=>r2 h c l0 p x r1 K N hx) r2 a d
def w_.done{l0}(i:Hd nx n h)(A:str h=na (c,l0))(k:w_ str nx ds lv lK h l0 L D):jQ str nx ds lv lK n L D:=by
 refine⟨k.up,k.no,λx hx=>qj (by rw[hx.one i];exact k.own),λa d c' l' AZ p hp x hx=>?_,λR r1 r2 a d=>k.re R (r1 h i) r2 a d⟩;by_cases e:a=h
 .subst e;rw[A]at AZ;injection AZ with AZ;injection AZ with _ o;subst o;exact k.pt p hp x hx
 .exact k.cl a d e c' l' AZ p hp x hx
def w_.VX(i:Hd nx n h)(hs:str h=ab)(k:w_ str nx ds lv lK h [] L D):jQ str nx ds lv lK n L D:=by
 refine⟨k.up,k.no,λx hx=>qj (by rw[hx.one i];exact k.own),λa d c' l' AZ p hp x hx=>?_,λR r1 r2 a d=>k.re R (r1 h i) r2 a d⟩;by_cases e:a=h
 .grind
 .exact k.cl a d e c' l' AZ p hp x hx
end
def dp(ds:List Nat)(lv:Nat->Nat)L:=ds.countP λm=>decide (L<lv m)
def ady{lv}{L:Nat}(h:∀m,L<cJ m->L<lv m):dp ds cJ L<=dp ds lv L:=List.countP_mono_left λm _ q=>by simpa using h m (by simpa using q)
def adz{lv cJ:Nat->Nat}{L x:Nat}(h:∀m,L<cJ m->L<lv m)(o:L<lv x)(d:¬L<cJ x):∀{ds:List Nat},x∈ds->dp ds cJ L<dp ds lv L
 |a::ds,hm=>by
  unfold dp;rw[j3,j3];have hle:ds.countP (λm=>decide (L<cJ m))<=ds.countP (λm=>decide (L<lv m)):=ady h;by_cases e:a=x
  .subst e;simp[o,d];omega
  .have:=adz h o d (ds:=ds) (by obtain q|q:=List.mem_cons.1 hm;exact absurd q.symm e;exact q);unfold dp at this;by_cases q:L<cJ a
   .simp[q,h a q];omega
   .by_cases i:L<lv a
    .simp[q,i];omega
    .simp[q,i];omega
def iK.back{nx}{lv}(g:GL w ds str nx vr ly lv)(e:iK str nx bh)(k:Hd bh x h):Hd nx x h:=by
 by_cases d:x∈ds
 .have⟨y,i⟩:=g.hd x d;rw[k.one<|e.lB x y i];exact i
 .have i:Hd nx x x:=.here (g.out x d).1;rw[k.one<|e.lB x x i];exact i
def jQ.eqv{nx}{lv0 lv}{L:Nat}(g:GL w ds str nx vr ly lv0)(e:iK str nx bh)(q:jQ str bh ds lv cJ n L D):jQ str nx ds lv cJ n L D:=
 ⟨λm d=>⟨(q.up m d).1,(e.AQ m).1 (q.up m d).2.1,(q.up m d).2.2⟩,q.no,λh k=>q.hd h<|e.lB _ _ k,λa d c l hs p hp h k=>q.cl a d c l hs p hp h<|e.lB _ _ k,λR r1 r2=>q.re R (λh k=>r1 h<|e.back g k)<|λa c l p h ra hs hp k=>r2 a c l p h ra hs hp<|e.back g k⟩
def JM ds str nx vr ly lv n L w(e:la)w':=
 e=.returned (.tuple #[])/\∃bh cJ D,GL w' ds str bh vr ly cJ/\Fr (λb=>b∈ds) w w'/\iK str nx bh/\w'.heap.size=w.heap.size/\jQ str nx ds lv cJ n L D
def ae8 ds str vr ly k:=∀(w:fa)(nx:Nx)(lv:Nat->Nat)(n L:Nat),GL w ds str nx vr ly lv->n∈ds->dp ds lv L<=k->aa j8 294 #[nA n,Nv L] w (JM ds str nx vr ly lv n L w)
def ae9 ds str nx vr ly lv h L(l:List Nat)w gk v wr:=
 ∃j xH lK D,Hid (gk=l.length-j)/\j<=l.length/\v=Nv j/\GL wr ds str xH vr ly lK/\Fr (λb=>b∈ds) w wr/\iK str nx xH/\wr.heap.size=w.heap.size/\w_ str nx ds lv lK h (l.take j) L D
def GL.row{nx}{lv}(g:GL w ds str nx vr ly lv)(K:a∈ds)(N:str a=na (c,l))(i:j<l.length):∃ga,(ly a).1=na ⟨ga,0,ab⟩/\w.cell? ⟨ga,j,ab⟩=na (nA l[j])/\¬ga∈ds:=by
 have⟨_,d,_⟩:=g.nd a K;rw[N]at d;obtain⟨_,_,_,o⟩:=d;have⟨ga,A,I,_,J⟩:=o.resolve_left (λe=>by subst e;simp at i);exact⟨ga,A,J j i,I⟩
def GL.part{nx}{lv}(g:GL w ds str nx vr ly lv)(e:a∈ds)(i:str a=na (c,l)):l.length<=1001/\∀m∈l,m∈ds:=by
 have⟨_,d,_⟩:=g.nd a e;rw[i]at d;exact⟨d.2.1,d.2.2.1⟩
def GL.bN{nx}{lv}(g:GL w ds str nx vr ly lv)(d:n∈ds)(k:Hd nx n h):h∈ds:=by
 induction k with
 |here=>exact d|step e _ ih=>exact ih<|(g.nd _ d).2.2 _ e
def Nc(IH:∀i,i<k->ae8 ds str vr ly i):ae8 ds str vr ly k:=by
 intro w nx lv n L A hn hk;have⟨h,K⟩:=A.hd n hn;have I:=A.bN hn K;have HC:=qP A hn K;go_in;go_wp;refine HC.mono ?_;rintro e Y⟨rfl,gX,R,F1,J,z1⟩;have⟨c1,f1⟩:=(R.nd h I).lvl;have d0:nx h=ab:=K.head;by_cases e0:lv h<=L
 .have hd:(lv h:Int)<=(L:Int):=ae
  go_wp2
  go_end0;exact⟨rfl,gX,lv,_,R,F1,J,z1,jQ.nil K e0⟩
 .have hd:¬(lv h:Int)<=(L:Int):=ae;have G2:=R.SO I L;have⟨_,_,_,_,c4⟩:=(R.nd h I).cells;have Z:Hid (Fr (λb=>b∈ds) w<|Y.setCell ⟨h,1,ab⟩<|Nv L):=ai<|F1.set (qj I) 1 _;have N:=ai G2;have Z1:=z1;have J0:Hid (w_ str nx ds lv (qe lv h L) h [] L<|λm=>m=h):=ai<|w_.start I d0 ae
  cases hs:str h with
  |none=>
   have O:Y.cell? ⟨h,4,ab⟩=na (.slice (ly h).1 0 (ly h).2):=by rw[c4,hs];rfl
   go_wp2
   go_loopg[23] 0 (λgk v wr=>v=Iv 0/\wr=Y.setCell ⟨h,1,ab⟩ (Nv L))
   case atStart=>exact⟨rfl,rfl⟩
   case round=>
    obtain⟨rfl,rfl⟩:=hrel
    go_wp2
    go_end0;exact⟨rfl,gX,_,_,uh N,uh Z,J,qAz,(uh J0).VX K hs⟩
  |some q=>
   obtain⟨c,l⟩:=q;have O:Y.cell? ⟨h,4,ab⟩=na (.slice (ly h).1 l.length (ly h).2):=by rw[c4,hs];rfl
   have⟨hl1,f0⟩:=A.part I hs;have hdp:dp ds (qe lv h L) L<dp ds lv L:=adz (x:=h) (λm q=>by by_cases e:m=h;subst e;simp[qe]at q;simpa[qe,e]using q) ae Oy I;by_cases a0:l=[]
   .subst a0;have aif:=O
    go_wp2
    go_loopg[23] 0 (λgk v wr=>v=Iv 0/\wr=Y.setCell ⟨h,1,ab⟩ (Nv L))
    case atStart=>exact⟨rfl,rfl⟩
    case round=>
     obtain⟨rfl,rfl⟩:=hrel
     go_wp2
     go_end0;exact⟨rfl,gX,_,_,uh N,uh Z,J,qAz,(uh J0).done K hs⟩
   have⟨ga,b0,_,_⟩:=A.row I hs<|List.length_pos_iff.2 a0;rw[b0]at O
   go_wp2
   go_loopg[23] l.length (λgk v wr=>ae9 ds str nx vr ly lv h L l w gk v wr)
   case atStart=>exact⟨0,gX,_,_,ai ag,ql _,rfl,uh N,uh Z,J,qAz,by simpa using uh J0⟩
   case round=>
    obtain⟨j,c0,lK,D,g0,hj,rfl,Gj,FJ,EJ,ZJ,X⟩:=hrel;by_cases o:j<l.length
    .have h0:=kK o;have hge:(0:Int)<=(j:Int):=ae;have⟨ga',e1,cg,_⟩:=Gj.row I hs o;have e2:=e1.symm.trans b0;injection e2 with e2;injection e2 with e2;subst e2
     have i0:=IH (dp ds (qe lv h L) L) ae wr c0 lK l[j] L Gj (f0 _<|ja o) (ady λm q=>by
      by_cases d:D m
      .have:=(X.up m d).2.2.2;omega
      .have e:m≠h:=λe=>d<|e▸X.own;simp only[qe,e,if_false]
       rw[<-X.no m d];exact q)
     go_wp2_with fail;refine i0.mono ?_;rintro e w2⟨rfl,tI,nh,D2,R,Z,E2,z2,q2⟩;have HF:=FJ.trans Z;have HE:=EJ.trans E2;have HZ:=z2.trans ZJ;have j0:=X.step hs (ja o)<|q2.eqv A EJ
     go_wp2
     go_roundg(l.length-(j+1))
     case measure=>rw[uh g0];omega
     case rel=>exact⟨j+1,tI,nh,_,ai rfl,Nat.succ_le_of_lt o,iF,R,HF,HE,HZ,by rw[jc o];exact j0⟩
    .have h0:=nN o;have ej:j=l.length:=ae;subst ej;rw[ju]at X;have HX:=show JM ds str nx vr ly lv n L w (Rv<|.tuple #[]) wr from⟨rfl,c0,lK,D,Gj,FJ,EJ,ZJ,X.done K hs⟩
     go_wp2
     go_end0;exact HX
def DQ:∀k,ae8 ds str vr ly k:=λk=>qr k λk ih=>Nc ih
def LC(str:wP)(ds:List Nat)nx(lv:Nat->Nat):=∀a,a∈ds->nx a=ab->∀c l,str a=na (c,l)->∀p,p∈l->∀h,Hd nx p h->lv h<=lv a
structure wD str(ds:List Nat)nx(lv:Nat->Nat)bh(cJ:Nat->Nat):Prop where
 mono:∀m,m∈ds->∀h h',Hd nx m h->Hd bh m h'->cJ h'<=lv h
 lc:LC str ds nx lv->LC str ds bh cJ
 low:∀(i:Nat)(U:Nat->Ty),mF str bh U->∀Lw:Ty->Prop,(∀c ts,Lw (.aM c ts)->∀t∈ts,Lw t)->(∀m,m∈ds->∀h,Hd nx m h->lv h<=i->Lw (U m))->∀m,m∈ds->∀h,Hd bh m h->cJ h<=i->Lw (U m)
 gr:∀n,bh n=ab->nx n=ab
section
variable {nx:Nx} {lv:Nat->Nat}
def wD.trans(h:wD str ds nx lv gX tO)(k:wD str ds gX tO tI nh)(d:∀m,m∈ds->∃x,Hd gX m x)(e:∀U,mF str tI U->mF str gX U):wD str ds nx lv tI nh:=
 ⟨λm hm a c ka kc=>by
  have⟨b,kb⟩:=d m hm
  exact qk (k.mono m hm b c kb kc)<|h.mono m hm a b ka kb,λq=>k.lc<|h.lc q,λi U hU Lw hc q=>k.low i U hU Lw hc<|h.low i U (e U hU) Lw hc q,λn q=>h.gr n<|k.gr n q⟩
def wD.eqv(g:GL w ds str nx vr ly tO)(e:iK str nx gX):wD str ds nx lv gX lv:=by
 refine⟨λm _ h h' k k'=>?_,λq a ha hn c l hs p hp h k=>?_,λi U hU Lw hc q m hm h k hl=>q m hm h (e.back g k) hl,λn q=>(e.AQ n).1 q⟩
 .rw[k'.one<|e.lB _ _ k];exact br _
 .exact q a ha ((e.AQ a).1 hn) c l hs p hp h (e.back g k)
def jQ.fwd{L:Nat}(g:GL w ds str nx vr ly nh)(e:iK str nx gX)(q:jQ str nx ds lv tO n L D):jQ str gX ds lv tO n L D:=
 ⟨λm d=>⟨(q.up m d).1,(e.AQ m).2 (q.up m d).2.1,(q.up m d).2.2⟩,q.no,λh k=>q.hd h<|e.back g k,λa d c l hs p hp h k=>q.cl a d c l hs p hp h<|e.back g k,λR r1 r2=>q.re R (λh k=>r1 h<|e.lB _ _ k)<|λa c l p h ra hs hp k=>r2 a c l p h ra hs hp<|e.lB _ _ k⟩
def jQ.le{L:Nat}(q:jQ str nx ds lv tO n L D)m:tO m<=lv m:=by
 by_cases d:D m
 .have:=q.up m d;omega
 .rw[q.no m d];exact br _
def jQ.lc{L:Nat}(q:jQ str nx ds lv tO n L D)(h:LC str ds nx lv):LC str ds nx tO:=λa ha hn c l hs p hp k hk=>by
 have e:=h a ha hn c l hs p hp k hk;by_cases d:D a
 .rw[(q.up a d).2.2.2];obtain r|r:=q.cl a d c l hs p hp k hk
  .rw[(q.up k r).2.2.2];exact br _
  .exact qk (q.le k) r
 .rw[q.no a d];exact qk (q.le k) e
def jQ.low{L:Nat}(q:jQ str nx ds lv tO n L D){i}(o:mF str nx U){e:Ty->Prop}(hc:∀c ts,e (.aM c ts)->∀t∈ts,e t)(I:∀m,m∈ds->∀h,Hd nx m h->lv h<=i->e (U m))(J:L<=i->e (U n)):∀m,m∈ds->∀h,Hd nx m h->tO h<=i->e (U m):=λm hm h hh hl=>by
 by_cases d:D h
 .have A:L<=i:=by rw[(q.up h d).2.2.2]at hl;exact hl
  rw[hh.nD o];refine q.re (λx=>e<|U x) (λx hx=>by rw[<-hx.nD o];exact J A) (λa c l p k ra hs hp hk=>?_) h d;rw[<-hk.nD o];rw[o.made a c l hs]at ra;exact hc c _ ra _<|jk hp
 .rw[q.no h d]at hl;exact I m hm h hh hl
structure rq str nx ds lv nh a b:Prop where
 x:∃tO D1 D2,jQ str nx ds lv tO a (lv b) D1/\jQ str nx ds tO nh b (tO a) D2
def rq.lvs(h:rq str nx ds lv nh a b)(A:nx a=ab)(I:nx b=ab):nh a<=lv a/\nh a<=lv b/\nh b<=lv a/\nh b<=lv b/\nh a=nh b:=by
 have⟨tO,D1,o,e,i⟩:=h.x;have n1:=e.no b (λd=>by have:=(e.up b d).2.2.1;omega);have n2:=i.no a (λd=>by have:=(i.up a d).2.2.1;omega);have l1:tO a<=lv b:=by
  obtain d|d:=e.hd a<|.here A
  .rw[(e.up a d).2.2.2];exact br _
  .exact qk (e.le a) d
 have l1a:=e.le a;have l2:nh b=tO a:=by
  by_cases d:o b
  .exact(i.up b d).2.2.2
  .have h2:=(i.hd b<|.here I).resolve_left d;rw[i.no b d];omega
 omega
def rq.lc(h:rq str nx ds lv nh a b)(k:LC str ds nx lv):LC str ds nx nh:=by
 have⟨tO,D1,D2,d,e⟩:=h.x;exact e.lc<|d.lc k
def rq.le(h:rq str nx ds lv nh a b)m:nh m<=lv m:=by
 have⟨tO,D1,D2,d,e⟩:=h.x;exact qk (e.le m)<|d.le m
def rq.low(h:rq str nx ds lv nh a b)(K:a∈ds)(N:b∈ds)(O:nx a=ab)(nb:nx b=ab){i}{U}(o:mF str nx U)(d:U a=U b){e:Ty->Prop}(hc:∀c ts,e (.aM c ts)->∀t∈ts,e t)(A:∀m,m∈ds->∀h,Hd nx m h->lv h<=i->e (U m)):∀m,m∈ds->∀h,Hd nx m h->nh h<=i->e (U m):=by
 have⟨tO,D1,D2,I,J⟩:=h.x;have s1:=I.low o hc A (λq=>by rw[d];exact A b N b (.here nb) q);exact J.low o hc s1 (λq=>by rw[<-d];exact s1 a K a (.here O) q)
def k_{h'}(e:nx a=ab)(nb:nx b=ab)(d:a≠b)(i:Hd nx x h)(k:Hd (qe nx a<|some b) x h'):h'=if h=a then b else h:=k.one<|i.join e nb d
def kF(i:nx x=ab)(o:mF str (qe nx x<|some y) U):mF str nx U:=by
 refine⟨o.made,λn m e=>o.bV n m ?_⟩;have d:n≠x:=λr=>by subst r;rw[i]at e;cases e
 simpa[qe,d]using e
def wD.link(h:rq str nx ds lv nh a b)(R:a∈ds)(K:b∈ds)(o:nx a=ab)(nb:nx b=ab)(A:a≠b)(N:∀m,m∈ds->∃x,Hd nx m x)(X:∀a,a∈ds->∀c l,str a=na (c,l)->∀m∈l,m∈ds):wD str ds nx lv (qe nx a<|some b) nh:=by
 have⟨l1,l2,O,l4,l5⟩:=h.lvs o nb;refine⟨λm hm x x' k k'=>?_,λq e he hn c l hs p hpl x' k'=>?_,λi U hU Lw hc hB m hm x' k' hl=>?_,λn q=>by by_cases e:n=a;subst e;exact o;simpa[qe,e]using q⟩
 .rw[k_ o nb A k k'];split
  .rename_i e;rw[e];exact O
  .exact h.le x
 .have d:e≠a:=λr=>by subst r;simp[qe]at hn
  have I:nx e=ab:=by simpa[qe,d]using hn
  have⟨x,k⟩:=N p<|X e he c l hs p hpl;have:=h.lc q e he I c l hs p hpl x k;rw[k_ o nb A k k'];split
  .rename_i r;rw[r]at this;omega
  .exact this
 .have I:=kF o hU;have d:=hU.bV a b Oy;have J:=h.low R K o nb I d hc hB;have⟨x,k⟩:=N m hm;rw[k_ o nb A k k']at hl;split at hl
  .rename_i r;subst r;rw[k.nD I,d];exact J b K b (.here nb) hl
  .exact J m hm x k hl
def wD.Yr(h:rq str nx ds lv nh a b)(K:a∈ds)(R:b∈ds)(A:nx a=ab)(nb:nx b=ab)(o:a≠b)(N:∀m,m∈ds->∃x,Hd nx m x)(X:∀a,a∈ds->∀c l,str a=na (c,l)->∀m∈l,m∈ds):wD str ds nx lv (qe nx b<|some a) nh:=by
 have⟨l1,O,l3,l4,l5⟩:=h.lvs A nb;refine⟨λm hm x x' k k'=>?_,λq e he hn c l hs p hpl x' k'=>?_,λi U hU Lw hc hB m hm x' k' hl=>?_,λn q=>by by_cases e:n=b;subst e;exact nb;simpa[qe,e]using q⟩
 .rw[k_ nb A (Ne.symm o) k k'];split
  .rename_i e;rw[e];exact O
  .exact h.le x
 .have d:e≠b:=λr=>by subst r;simp[qe]at hn
  have I:nx e=ab:=by simpa[qe,d]using hn
  have⟨x,k⟩:=N p<|X e he c l hs p hpl;have:=h.lc q e he I c l hs p hpl x k;rw[k_ nb A (Ne.symm o) k k'];split
  .rename_i r;rw[r]at this;omega
  .exact this
 .have I:=kF nb hU;have d:=hU.bV b a Oy;have J:=h.low K R A nb I d.symm hc hB;have⟨x,k⟩:=N m hm;rw[k_ nb A (Ne.symm o) k k']at hl;split at hl
  .rename_i r;subst r;rw[k.nD I,d];exact J a K a (.here A) hl
  .exact J m hm x k hl
end
structure JG(ds:List Nat)(str:wP)nx(vr:Nat->Nat):Prop where
 Ng:∀n,∃h,Hd nx n h
 lB:∀n h,n∈ds->Hd nx n h->h∈ds
 Vi:∀a c l,a∈ds->str a=na (c,l)->∀p,p∈l->p∈ds
 inj:∀a b,a∈ds->b∈ds->str a=ab->str b=ab->vr a=vr b->a=b
 mM:vD str nx []
def Can(str:wP)nx(vr:Nat->Nat)(V:Nat->Ty):=∀n h,Hd nx n h->V n=match str h with
 |none=>.var (vr h)|some (c,l)=>.aM c<|l.map V
section
variable {nx:Nx} {W:Nat->Ty}
def JG.eq(g:JG ds str nx vr):Un.Eq nx [] (yJ nx):=yJ.is λn _ _=>g.Ng n
def Can.same(d:Can str nx vr V)(k:yJ nx m n):V m=V n:=by
 obtain rfl|⟨h,a,b⟩:=k
 .rfl
 .rw[d m h a,d n h b]
def Nh(g:JG ds str nx vr)(k:Hd nx n h):∀{c l},str n=na (c,l)->∃l',str h=na (c,l')/\dL (yJ nx) l l':=by
 induction k with
 |here e=>exact λ{c l}hs=>⟨l,hs,sk g.eq.refl l⟩|step e _ ih=>
  intro c l hs;have⟨l1,d,i⟩:=g.mM _ g.eq _ _ c l e hs;have⟨o,A,I⟩:=ih d;exact⟨o,A,lE g.eq.trans i I⟩
def Can.nD(g:JG ds str nx vr)(d:Can str nx vr V):mF str nx V:=by
 refine⟨λn c l hs=>?_,λn m e=>?_⟩
 .have⟨h,k⟩:=g.Ng n;have⟨i,o,A⟩:=Nh g k hs;have:=d n h k;rw[o]at this;rw[this];show z9 c (i.map V)=z9 c (l.map V);rw[vG (λa b q=>d.same q) A]
 .have⟨h,k⟩:=g.Ng n;exact d.same<|qi ⟨h,k,k.so e⟩
noncomputable def Ue (nx:Nx) (n:Nat):Nat:=by
 classical
 exact if h:∃x,Hd nx n x then h.choose else n
theorem oX(k:Hd nx n h):Ue nx n=h:=by
 rw[Ue];have q:∃x,Hd nx n x:=⟨h,k⟩;rw[dif_pos q];exact q.choose_spec.one k
noncomputable def vK (str:wP) (nx:Nx) (vr:Nat->Nat):Nat->Nat->Ty
 |0,_=>.var 0
 |k+1,n=>match str (Ue nx n)with
  |none=>.var (vr<|Ue nx n)|some (c,l)=>.aM c<|l.map<|vK str nx vr k
def jL{p}(d:p∈l):size (U p)<size (.aM c<|l.map U):=by
 have:=mQ (V:=U) d;simp only[size];omega
def Ys{U:Nat->Ty}(g:JG ds str nx vr)(d:mF str nx U):∀k k' n,size (U n)<=k->size (U n)<=k'->vK str nx vr k n=vK str nx vr k' n
 |0,_,n,h,_=>by have:=size_pos<|U n;omega|_+1,0,n,_,h=>by have:=size_pos<|U n;omega|k+1,k'+1,n,h,h'=>by
  have⟨x,i⟩:=g.Ng n;simp only[vK,oX i]
  cases hs:str x with
  |none=>rfl|some q=>
   obtain⟨c,l⟩:=q;have e:=(i.nD d).trans<|d.made x c l hs;show z9 c _=z9 c _;congr 1;refine eJ λp hp=>Ys g d k k' p ?_ ?_;all_goals have:=jL (c:=c) (U:=U) hp;rw[<-e]at this;omega
def ae_(g:JG ds str nx vr)(d:mF str nx U):∃V,Can str nx vr V:=by
 refine⟨λn=>vK str nx vr (size<|U n) n,λn h k=>?_⟩;have i:=size_pos<|U n;obtain⟨j,o⟩:∃j,size (U n)=j+1:=⟨size (U n)-1,ae⟩;show vK str nx vr (size<|U n) n=_;rw[o];simp only[vK,oX k]
 cases hs:str h with
 |none=>rfl|some q=>
  obtain⟨c,l⟩:=q;have e:=(k.nD d).trans<|d.made h c l hs;show z9 c _=z9 c _;congr 1;refine eJ λp i=>Ys g d _ _ p ?_<|br _;have:=jL (c:=c) (U:=U) i;rw[<-e]at this;omega
def Rt(ds:List Nat)(str:wP)(nx:Nx)(vr:Nat->Nat)v h:=h∈ds/\nx h=ab/\str h=ab/\vr h=v
def Rt.one(g:JG ds str nx vr){v h d:Nat}(a:Rt ds str nx vr v h)(b:Rt ds str nx vr v d):h=d:=g.inj h d a.1 b.1 a.2.2.1 b.2.2.1<|a.2.2.2.trans b.2.2.2.symm
def Rt.val(d:Can str nx vr V){v:Nat}(a:Rt ds str nx vr v h):V h=.var v:=by
 have:=d h h<|.here a.2.1;rw[a.2.2.1,a.2.2.2]at this;exact this
noncomputable def tau (ds:List Nat) (str:wP) (nx:Nx) (vr:Nat->Nat) (W:Nat->Ty) (v:Nat):Ty:=by
 classical
 exact if h:∃x,Rt ds str nx vr v x then W h.choose else .var v
def Ni(g:JG ds str nx vr){v:Nat}(a:Rt ds str nx vr v h):tau ds str nx vr W v=W h:=by
 rw[tau];have q:∃x,Rt ds str nx vr v x:=⟨h,a⟩;rw[dif_pos q,q.choose_spec.one g a]
def afa{v:Nat}(a:¬∃x,Rt ds str nx vr v x):tau ds str nx vr W v=.var v:=by rw[tau];rw[dif_neg a]
def QK{V:Nat->Ty}{v:Nat}:∀{l:List Nat},bZ v (l.map V)->∃p,p∈l/\aA v (V p)
 |[],h=>by simp[bZ]at h|x::l,h=>by
  simp only[jd,bZ]at h;obtain h|h:=h
  .exact⟨x,ag,h⟩
  .have⟨p,d,e⟩:=QK h;exact⟨p,by simp[d],e⟩
def fq{lv:Nat->Nat}(g:JG ds str nx vr)(J:Can str nx vr V){v:Nat}:∀k n h,n∈ds->Hd nx n h->size (V n)<=k->aA v (V n)->∃x,Rt ds str nx vr v x/\(LC str ds nx lv->lv x<=lv h)
 |0,n,_,_,_,h,_=>by have:=size_pos<|V n;omega|k+1,n,h,hn,hh,hz,ho=>by
  have d:=g.lB n h hn hh;have e:=J n h hh
  cases hs:str h with
  |none=>
   rw[hs]at e;rw[e]at ho;exact⟨h,⟨d,hh.head,hs,ho⟩,λ_=>br _⟩
  |some q=>
   obtain⟨c,l⟩:=q;rw[hs]at e;have e:V n=.aM c (l.map V):=e;rw[e]at ho;obtain⟨p,i,o⟩:=QK (by simpa only[aA]using ho);obtain⟨y,I⟩:=g.Ng p;have A:size (V p)<=k:=by have:=jL (c:=c) (U:=V) i;rw[<-e]at this;omega
   obtain⟨x,K,N⟩:=fq g J k p y (g.Vi h c l d hs p i) I A o;exact⟨x,K,λhl=>qk (N hl)<|hl h d hh.head c l hs p i y I⟩
def EO(g:JG ds str nx vr)(A:Can str nx vr V)(i:mF str nx W):∀k n,n∈ds->size (V n)<=k->W n=sub (tau ds str nx vr W) (V n)
 |0,n,_,h=>by have:=size_pos<|V n;omega|k+1,n,hn,hz=>by
  have⟨h,d⟩:=g.Ng n;have o:=g.lB n h hn d;have e:=A n h d
  cases hs:str h with
  |none=>
   rw[hs]at e;rw[e,d.nD i];exact(Ni g ⟨o,d.head,hs,rfl⟩).symm
  |some q=>
   obtain⟨c,l⟩:=q;rw[hs]at e;have e:V n=.aM c (l.map V):=e;rw[d.nD i,i.made h c l hs,e];simp only[sub];rw[jH];congr 1;refine eJ λp hp=>EO g A i k p (g.Vi h c l o hs p hp) ?_;have:=jL (c:=c) (U:=V) hp;rw[<-e]at this;omega
end
def ScD(str:wP)(ds:List Nat)nx(S:Nat->Prop):=∀x,x∈ds->nx x=ab->S x->∀c l,str x=na (c,l)->∀p,p∈l->∀h,Hd nx p h->S h
def sM str ds nx(lv:Nat->Nat)bh(cJ:Nat->Nat)a b:=∀S:Nat->Prop,ScD str ds nx S->(∀h,Hd nx a h->S h)->(∀h,Hd nx b h->S h)->∀m,m∈ds->∀h h',Hd nx m h->Hd bh m h'->(¬S h->h'=h/\cJ h=lv h)/\(S h->S h')
section
variable {nx:Nx} {lv:Nat->Nat}
def sM.eqv(e:iK str nx gX):sM str ds nx lv gX lv x y:=λS _ _ _ m _ h h' k k'=>by
 rw[k'.one<|e.lB _ _ k];exact⟨λ_=>⟨rfl,rfl⟩,id⟩
def sM.oU(g:GL w ds str nx vr ly tO)(e:iK str nx gX)(d:Hd nx x a)(i:Hd nx y b)(k:sM str ds gX lv tI nh a b):sM str ds nx lv tI nh x y:=λS hS ha hb m hm h h' q q'=>by
 refine k S (λz hz hn sz c l hs p hp z' kz=>hS z hz ((e.AQ z).1 hn) sz c l hs p hp z'<|e.back g kz) (λz kz=>?_) (λz kz=>?_) m hm h h' (e.lB _ _ q) q'
 .have:z=a:=kz.one<|.here (e.lB _ _ d).head;subst this;exact ha _ d
 .have:z=b:=kz.one<|.here (e.lB _ _ i).head;subst this;exact hb _ i
def sM.pre(g:GL w ds str nx vr ly tO)(e:iK str nx gX)(k:sM str ds gX lv tI nh x y):sM str ds nx lv tI nh x y:=λS hS ha hb m hm h h' q q'=>
 k S (λz hz hn sz c l hs p hp z' kz=>hS z hz ((e.AQ z).1 hn) sz c l hs p hp z'<|e.back g kz) (λz kz=>ha z<|e.back g kz) (λz kz=>hb z<|e.back g kz) m hm h h' (e.lB _ _ q) q'
def sM.post(g:GL w ds str gX vr ly tO)(e:iK str gX tI)(k:sM str ds nx lv gX nh x y):sM str ds nx lv tI nh x y:=λS hS ha hb m hm h h' q q'=>k S hS ha hb m hm h h' q<|e.back g q'
def rq.out(h:rq str nx ds lv nh a b)(X:a∈ds)(Y:b∈ds)(I:nx a=ab)(nb:nx b=ab)(Z:∀a,a∈ds->∀c l,str a=na (c,l)->∀m∈l,m∈ds)(hm:∀m,m∈ds->∀x,Hd nx m x->x∈ds)(hS:ScD str ds nx S)(sa:S a)(sb:S b){x}(J:¬S x):nh x=lv x:=by
 have⟨tO,K,N,i,o⟩:=h.x;have A:∀e c l p k,(S e/\e∈ds/\nx e=ab)->str e=na (c,l)->p∈l->Hd nx p k->(S k/\k∈ds/\nx k=ab):=λe c l p k r hs hpl hk=>⟨hS e r.2.1 r.2.2 r.1 c l hs p hpl k hk,hm p (Z e r.2.1 c l hs p hpl) k hk,hk.head⟩;have O:¬K x:=λd=>J (i.re (λx=>S x/\x∈ds/\nx x=ab) (λk hk=>by rw[hk.one<|.here I];exact⟨sa,X,I⟩) A x d).1;have R:¬N x:=λd=>J (o.re (λx=>S x/\x∈ds/\nx x=ab) (λk hk=>by rw[hk.one<|.here nb];exact⟨sb,Y,nb⟩) A x d).1;rw[o.no x R,i.no x O]
def sM.link(h:rq str nx ds lv nh a b)(o:a∈ds)(A:b∈ds)(d:nx a=ab)(nb:nx b=ab)(i:a≠b)(I:∀a,a∈ds->∀c l,str a=na (c,l)->∀m∈l,m∈ds)(J:∀m,m∈ds->∀x,Hd nx m x->x∈ds):sM str ds nx lv (qe nx a<|some b) nh a b:=λS hS sa sb m _ x x' k k'=>by
 have sa:=sa a<|.here d;have sb:=sb b<|.here nb;rw[k_ d nb i k k'];refine⟨λq=>?_,λq=>?_⟩
 .have e:x≠a:=λe=>q<|e▸sa;exact⟨Vh,h.out o A d nb I J hS sa sb q⟩
 .grind
def sM.Yr(h:rq str nx ds lv nh a b)(o:a∈ds)(A:b∈ds)(d:nx a=ab)(nb:nx b=ab)(i:a≠b)(I:∀a,a∈ds->∀c l,str a=na (c,l)->∀m∈l,m∈ds)(J:∀m,m∈ds->∀x,Hd nx m x->x∈ds):sM str ds nx lv (qe nx b<|some a) nh a b:=λS hS sa sb m _ x x' k k'=>by
 have sa:=sa a<|.here d;have sb:=sb b<|.here nb;rw[k_ nb d (Ne.symm i) k k'];refine⟨λq=>?_,λq=>?_⟩
 .have e:x≠b:=λe=>q<|e▸sb;exact⟨Vh,h.out o A d nb I J hS sa sb q⟩
 .grind
def sM.step{p q}{c c'}{l l'}(g:wD str ds nx lv gX tO)(h:sM str ds nx lv gX tO x y)(R:Hd nx x a)(X:Hd nx y b)(ha:a∈ds)(hb:b∈ds)(sa:str a=na (c,l))(sb:str b=na (c',l'))(o:p∈l)(hq:q∈l')(I:∀a,a∈ds->∀c l,str a=na (c,l)->∀m∈l,m∈ds)(J:∀m,m∈ds->∃x,Hd nx m x)(K:∀m,m∈ds->∃x,Hd gX m x)(k:sM str ds gX tO tI nh p q):sM str ds nx lv tI nh x y:=λS hS hxa hyb m hm h0 h2 k0 k2=>by
 have d:=h S hS hxa hyb;have A:∀z,z∈ds->nx z=ab->S z->∀c l,str z=na (c,l)->∀p,p∈l->∀t,Hd gX p t->S t:=λz hz hn sz c l hs p o t kt=>by
  have e:=I z hz c l hs p o;have⟨N,i⟩:=J p e;exact(d p e N t i kt).2 (hS z hz hn sz c l hs p o N i)
 have⟨e,i⟩:=K m hm;have N:=d m hm h0 e k0 i;have O:=k S (λz hz hn=>A z hz<|g.gr z hn) (A a ha R.head (hxa a R) c l sa p o) (A b hb X.head (hyb b X) c' l' sb q hq) m hm e h2 i k2;refine⟨λn0=>?_,λs0=>O.2<|N.2 s0⟩;have⟨Y,Z⟩:=N.1 n0;subst Y;have⟨e3,e4⟩:=O.1 n0;exact⟨e3,e4.trans Z⟩
end
def GL.drewN{nx}{lv}(g:GL w ds str nx vr ly lv)n:GL (w.drewN n) ds str nx vr ly lv:=⟨g.nd,g.out,g.hd⟩
def GL.drew{nx}{lv}(g:GL w ds str nx vr ly lv):GL w.drew ds str nx vr ly lv:=⟨g.nd,g.out,g.hd⟩
def afb ds str nx vr ly lv x y w(e:la)w':=
 ∃ok bh cJ,e=.returned (.bool ok)/\GL w' ds str bh vr ly cJ/\Fr (λb=>b∈ds) w w'/\w'.heap.size=w.heap.size/\hc bh ds<=hc nx ds/\JR str nx bh x y ok/\(ok=bb->wD str ds nx lv bh cJ/\sM str ds nx lv bh cJ x y)
def Nj ds str vr ly k:=∀(w:fa)(nx:Nx)(lv:Nat->Nat),GL w ds str nx vr ly lv->hc nx ds<=k->∀x y,x∈ds->y∈ds->aa j8 316 #[nA x,nA y] w (afb ds str nx vr ly lv x y w)
def Yt ds str nx0 lv0 x y nx vr ly l l' k w gk v wr:=
 ∃j xH lK,Hid (gk=l.length-j)/\j<=l.length/\v=Nv j/\GL wr ds str xH vr ly lK/\Fr (λb=>b∈ds) w wr/\wr.heap.size=w.heap.size/\hc xH ds<=k/\JL str nx xH l l' j/\wD str ds nx0 lv0 xH lK/\sM str ds nx0 lv0 xH lK x y
def Nk(IH:Nj ds str vr ly k):Nj ds str vr ly (k+1):=by
 intro w nx lv G hk x y hx hy;have⟨a,o⟩:=G.hd x hx;have⟨b,A⟩:=G.hd y hy;have J:a∈ds:=G.bN hx o;have N:b∈ds:=G.bN hy A;have HC:=ai<|qP G hx o;go_in;go_wp;refine HC.mono ?_;rintro e w1⟨rfl,gX,G1,F1,E1,z1⟩;have C0:=ai<|qP G1 hy<|E1.lB _ _ A;clear HC;go_wp2_with fail;refine C0.mono ?_;rintro e w2⟨rfl,tI,G2,F2,E2,z2⟩;have E:=E1.trans E2;have FF:=F1.trans F2;have D0:=Yd E ds;have d:tI a=ab:=(E.lB _ _ o).head;have I:tI b=ab:=(E.lB _ _ A).head;have r0:=Ye (G2.nd a J).1 (G2.nd b N).1;have⟨F0,G0,R,_,f0⟩:=(G2.nd a J).cells;have⟨s0,t0,X,_,g0⟩:=(G2.nd b N).cells;have f1:=ai G2;clear C0;by_cases K:a=b
 .subst K;simp at r0
  go_wp2
  go_ret;exact⟨bb,tI,lv,rfl,G2,FF,ae,ae,(JR.same str tI a).oU E o A,λ_=>⟨wD.eqv G E,sM.eqv E⟩⟩
 .have h1:¬b=a:=λq=>K q.symm;rw[show decide (a=b)=fb by simp[K]]at r0;have⟨i1,_⟩:=(G2.nd b N).lvl;have H0:=ai<|DQ _ w2 tI lv a (lv b) G2 J<|br _;go_wp2_with fail;refine H0.mono ?_;rintro e w3⟨rfl,j1,u0,D3,G3,F3,E3,z3,q3⟩;have⟨l1,_⟩:=(G3.nd a J).lvl;have I0:=ai<|DQ _ w3 j1 u0 b (u0 a) G3 N<|br _;clear H0 F0 G0 R f0 s0 t0 X g0 r0 i1 f1;go_wp2_with fail;refine I0.mono ?_;rintro e w4⟨rfl,i,Y,D4,G4,F4,E4,z4,q4⟩;have O:Hid (rq str i ds lv Y a b):=ai ⟨u0,D3,D4,q3.fwd G2<|E3.trans E4,q4.fwd G3 E4⟩;have v0:Hid (wD str ds nx lv i lv):=ai<|wD.eqv G<|(E.trans E3).trans E4;have x0:Hid (∀m,m∈ds->∀x,Hd i m x->x∈ds):=ai λm hm x k=>G4.bN hm k;have j0:=ai G;have a0:Hid (∀a,a∈ds->∀c l,str a=na (c,l)->∀m∈l,m∈ds):=ai λx hx c l hs=>(G4.part hx hs).2;clear q3 q4;have E0:=E;clear E;have E:=(E0.trans E3).trans E4;have h0:=(FF.trans F3).trans F4;clear D0 d I;have D0:=Yd E ds;have d:i a=ab:=(E.lB _ _ o).head;have I:i b=ab:=(E.lB _ _ A).head;have⟨F0,G0,R,_,f0⟩:=(G4.nd a J).cells;have⟨s0,t0,X,_,g0⟩:=(G4.nd b N).cells;have c0:Hid (∀m,m∈ds->∃x,Hd i m x):=ai G4.hd;clear I0 l1 F3 F4 G3 E3 E4
  cases Vn:str a with
  |none=>
   rw[Vn]at R;have o0:w4.cell? ⟨a,3,ab⟩=na (Sv ⟨#[]⟩):=R;clear R
   go_wp2
   go_ret;refine⟨bb,qe i a<|some b,Y,rfl,G4.set J N<|λz hz=>?_,h0.set (qj J) 0 _,by simp[qz];omega,by have:=M4 (b:=b) d J;omega,(JR.aiD d Vn).oU E o A,λ_=>⟨v0.trans (wD.link O J N d I K c0 a0) c0<|λU=>kF d,(sM.link O J N d I K a0 x0).oU j0 E o A⟩⟩;have⟨q,hq⟩:=G4.hd z hz;exact⟨_,hq.join d I K⟩
  |some pa=>
   obtain⟨c,l⟩:=pa;have J0:=(G4.nd a J).2.1;rw[Vn]at R f0 J0;have o0:w4.cell? ⟨a,3,ab⟩=na (Sv<|pn c):=R;have K0:w4.cell? ⟨a,4,ab⟩=na (.slice (ly a).1 l.length (ly a).2):=f0;obtain⟨L0,hll,m1,M0⟩:=J0;have n1:((pn c).toList==[])=fb:=by rw[<-zv,beq_iff_eq];exact OK L0
   clear R f0
   cases Vo:str b with
   |none=>
    rw[Vo]at X;have p0:w4.cell? ⟨b,3,ab⟩=na (Sv ⟨#[]⟩):=X;clear X
    go_wp2
    go_ret;refine⟨bb,qe i b<|some a,Y,rfl,G4.set N J<|λz hz=>?_,h0.set (qj N) 0 _,by simp[qz];omega,by have:=M4 (b:=a) I N;omega,(JR.aiE I Vo).oU E o A,λ_=>⟨v0.trans (wD.Yr O J N d I K c0 a0) c0<|λU=>kF I,(sM.Yr O J N d I K a0 x0).oU j0 E o A⟩⟩;have⟨q,hq⟩:=G4.hd z hz;exact⟨_,hq.join I d h1⟩
   |some pb=>
    obtain⟨c',Z⟩:=pb;have O0:=(G4.nd b N).2.1;rw[Vo]at X g0 O0;have p0:w4.cell? ⟨b,3,ab⟩=na (Sv<|pn c'):=X;have P0:w4.cell? ⟨b,4,ab⟩=na (.slice (ly b).1 Z.length (ly b).2):=g0;obtain⟨q0,ajq,Q0,y0⟩:=O0;have o1:((pn c').toList==[])=fb:=by rw[<-zv,beq_iff_eq];exact OK q0
    clear X g0;by_cases z0:c=c'
    .subst z0;have R0:((pn c).toList==(pn c).toList)=bb:=ag;by_cases i0:l.length=Z.length
     .have S0:((l.length:Int)==(Z.length:Int))=bb:=by simp[i0]
      have hcu:=M4 (b:=b) d J;have p1:∀z,z∈ds->∃y,Hd (qe i a<|some b) z y:=λz hz=>by
       have⟨q,hq⟩:=G4.hd z hz;exact⟨_,hq.join d I K⟩
      clear s0 t0 G1 F1 F2 G
      go_wp2
      go_quiet(fail);go_wp2_with fail;have T0:Hid (wD str ds nx lv (qe i a<|some b) Y/\sM str ds nx lv (qe i a<|some b) Y x y):=ai ⟨v0.trans (wD.link O J N d I K c0 a0) c0<|λU=>kF d,(sM.link O J N d I K a0 x0).oU j0 E o A⟩;have GS:=ai<|(G4.drewN nq).set J N p1;have FS:=ai<|(h0.drewN nq).set (b:=a) (qj J) 0<|nA b;have zs:((w4.drewN nq).setCell ⟨a,0,ab⟩<|nA b).heap.size=w.heap.size:=by simp[qz];show w4.heap.size=_;omega
      go_loopg[77] l.length (λgk v wr=>Yt ds str nx lv x y (qe i a<|some b) vr ly l Z (hc (qe i a<|some b) ds) w gk v wr)
      case atStart=>exact⟨0,qe i a<|some b,Y,ai ag,ql _,rfl,GS,FS,zs,br _,JL.start _ _ _ _,T0⟩
      case round=>
       clear GS FS zs T0;obtain⟨j,d0,lK,q1,hj,rfl,Gj,Fj,zj,r1,A0,U0⟩:=hrel;have k0:=ai U0;have V0:Hid (∀m,m∈ds->∃x,Hd d0 m x):=ai Gj.hd;clear U0;by_cases e0:j<l.length
       .have hd:=kK e0;have b0:j<Z.length:=ae;have hd':(j:Int)<(Z.length:Int):=ae;have⟨ga,ea,ra,_⟩:=Gj.row J Vn e0;have⟨gb,eb,rb,_⟩:=Gj.row N Vo b0;have⟨_,_,_,_,qa⟩:=(Gj.nd a J).cells;have⟨_,_,_,_,qb⟩:=(Gj.nd b N).cells;rw[Vn,ea]at qa;rw[Vo,eb]at qb;have qa':wr.cell? ⟨a,4,ab⟩=na (Lv (na ⟨ga,0,ab⟩) l.length (ly a).2):=qa;have qb':wr.cell? ⟨b,4,ab⟩=na (Lv (na ⟨gb,0,ab⟩) Z.length (ly b).2):=qb
        have HJ:Hid (∀W,W=wr.drew->aa j8 316 #[nA l[j],nA Z[j]] W λe w'=>∃ok bh cJ,e=Rv (.bool ok)/\GL w' ds str bh vr ly cJ/\Fr (λb=>b∈ds) wr w'/\w'.heap.size=wr.heap.size/\hc bh ds<=hc (qe i a<|some b) ds/\JR str d0 bh l[j] Z[j] ok/\(ok=bb->wD str ds d0 lK bh cJ/\sM str ds d0 lK bh cJ l[j] Z[j])/\(w'.cell? ⟨a,4,ab⟩=na (Lv (na ⟨ga,0,ab⟩) l.length (ly a).2)/\w'.cell? ⟨b,4,ab⟩=na (Lv (na ⟨gb,0,ab⟩) Z.length (ly b).2)/\w'.cell? ⟨ga,j,ab⟩=na (nA l[j])/\w'.cell? ⟨gb,j,ab⟩=na (nA Z[j]))):=ai (λW hW=>by
         subst hW;refine(IH wr.drew d0 lK Gj.drew ae l[j] Z[j] (m1 _<|ja _)<|Q0 _<|ja _).mono ?_;rintro e w5⟨ok,l0,n0,rfl,G5,F5,z5,h5,J5,L5⟩;have⟨ga5,B0,X0,_⟩:=G5.row J Vn e0;have⟨gb5,W0,Y0,_⟩:=G5.row N Vo b0;have⟨_,_,_,_,pa⟩:=(G5.nd a J).cells;have⟨_,_,_,_,pb⟩:=(G5.nd b N).cells;rw[Vn,ea]at pa;rw[Vo,eb]at pb;rw[ea]at B0;rw[eb]at W0
         cases B0
         cases W0
         exact⟨ok,l0,n0,rfl,G5,(Fr.refl _ wr).drew.trans F5,z5,qk h5 r1,J5,L5,pa,pb,X0,Y0⟩)
        clear ea eb qa qb M0 y0 o0 p0 K0 P0 o1 n1 R0 S0 IH
        go_wp2
        go_region_held3(λw'=>w'.cell? ⟨a,4,ab⟩=na (Lv (na ⟨ga,0,ab⟩) l.length (ly a).2)/\w'.cell? ⟨b,4,ab⟩=na (Lv (na ⟨gb,0,ab⟩) Z.length (ly b).2)/\w'.cell? ⟨ga,j,ab⟩=na (nA l[j])/\w'.cell? ⟨gb,j,ab⟩=na (nA Z[j])) (first|go_keep|(simp[*])) (first|(go_at_call 316;refine(HJ _ rfl).mono ?_;rintro e w5⟨ok,l0,n0,rfl,W0,X0,Y0,h5,Z0,a1,k1,k2,k3,k4⟩;have b1:=ai a1;clear a1;have c1:=ai W0;have d1:=ai X0;have e1:=ai Y0;have B0:=ai Z0;clear W0 X0 Y0 Z0))
        all_goals(
         cases ok with
         |true=>
          go_wp2
          go_roundg(l.length-(j+1))
          case measure=>rw[uh q1];omega
          case rel=>exact⟨j+1,l0,n0,ai rfl,ae,iF,c1,Fj.trans d1,e1.trans zj,h5,A0.step e0 b0 B0,k0.1.trans (b1 trivial).1 V0<|λU q=>((B0.yes rfl).1 U).1 q|>.1,sM.step k0.1 k0.2 o A J N Vn Vo (ja _) (ja _) a0 j0.hd V0 (b1 trivial).2⟩
         |false=>
          go_wp2
          go_ret
          exact⟨fb,l0,n0,rfl,c1,Fj.trans d1,e1.trans zj,ae,(JL.fail d Vn Vo A0 e0 b0 B0).oU E o A,λq=>iP⟩)
       .have hd:=nN e0;have ej:j=l.length:=ae;subst ej
        go_wp2
        go_ret;exact⟨bb,d0,lK,rfl,Gj,Fj,zj,ae,(JL.done d Vn Vo i0 A0).oU E o A,λ_=>k0⟩
     .have S0:((l.length:Int)==(Z.length:Int))=fb:=bQ
      go_wp2
      go_quiet(fail)
      go_wp2
      go_ret;exact⟨fb,i,Y,rfl,G4.drewN _,h0.drewN _,by show w4.heap.size=_;omega,ae,(JR.adx Vn Vo<|qi i0).oU E o A,λq=>iP⟩
    .have R0:((pn c).toList==(pn c').toList)=fb:=by rw[<-zv,beq_iff_eq];exact λq=>z0<|aeY L0 q0 q
     go_wp2
     go_quiet(fail)
     go_wp2
     go_ret;exact⟨fb,i,Y,rfl,G4.drewN _,h0.drewN _,by show w4.heap.size=_;omega,ae,(JR.adx Vn Vo<|qj z0).oU E o A,λq=>iP⟩
def Yu:∀k,Nj ds str vr ly k
 |0=>λw nx lv G hk x y hx hy=>by
  have⟨a,d⟩:=G.hd x hx;have:=aeZ (G.bN hx d) d.head;omega
 |k+1=>Nk<|Yu k
mutual
def Yv{σ τ:Nat->Ty}{n:Nat}:∀t,sub σ t=sub τ t->aA n t->σ n=τ n
 |.var m,h,o=>by simp only[aA]at o;subst o;simpa[sub]using h|.aM c l,h,o=>by simp only[sub,Ty.aM.injEq,true_and]at h;exact QL l h o
def QL{σ τ:Nat->Ty}{n:Nat}:∀l,aU σ l=aU τ l->bZ n l->σ n=τ n
 |[],_,o=>by simp[bZ]at o|t::l,h,o=>by
  simp only[aU,List.cons.injEq]at h;obtain o|o:=o
  .exact Yv t h.1 o
  .exact QL l h.2 o
end
def ab4{a b}(i:sub θ a=sub θ b)(d:∀σ,sub σ a=sub σ b->∀v,sub σ (θ v)=σ v)(A:∀v x,aA x (θ v)->θ x=.var x):In.wY θ a b:=by
 classical
 let σ1:Nat->Ty:=λv=>if aA v a\/aA v b then θ v else .var v;have I:∀v,aA v a\/aA v b->σ1 v=θ v:=λv h=>if_pos h;have O:∀v,¬(aA v a\/aA v b)->σ1 v=.var v:=λv h=>if_neg h;have J:sub σ1 a=sub σ1 b:=by rw[sub_congr a λn o=>I n<|qj o,sub_congr b λn o=>I n<|qi o];exact i
 refine⟨i,d,λv h1 h2=>?_,λv n hv hn=>?_⟩
 .have hv:¬(aA v a\/aA v b):=λq=>q.elim h1 h2;have g:=d σ1 J v;rw[O v hv]at g
  cases ht:θ v with
  |aM c l=>rw[ht]at g;simp[sub]at g|var x=>
   rw[ht]at g;simp only[sub]at g;by_cases K:aA x a\/aA x b
   .rw[I x K,A v x (by rw[ht];rfl)]at g;exact g
   .grind
 .refine zi λhno=>?_;let σ2:Nat->Ty:=λx=>if x=n then .aM pq []else σ1 x;have K:∀x,x≠n->σ2 x=σ1 x:=λx h=>if_neg h;have R:sub σ2 a=sub σ2 b:=by rw[sub_congr a λx o=>K x<|λe=>hno<|qj<|e▸o,sub_congr b λx o=>K x<|λe=>hno<|qi<|e▸o];exact J
  have N:v≠n:=λe=>hno<|e▸hv;have g1:=d σ1 J v;have g2:=d σ2 R v;rw[K v N]at g2;have:=Yv _ (g1.trans g2.symm) hn;rw[O n hno]at this;have X:σ2 n=.aM pq []:=if_pos rfl;rw[X]at this
  cases this
section
variable {nx:Nx}
def JN(g:JG ds str nx vr)(k:yJ nx m n):Ue nx m=Ue nx n:=by grind[nx,yJ,Ue,oX]
def QM:∀{l d e:List Nat},dL (yJ nx) l d->dL (Hd nx) d e->dL (Hd nx) l e
 |[],_,_,.nil,.nil=>.nil|_::_,_,_,.cons p q,.cons r s=>by
  refine .cons ?_<|QM q s;obtain rfl|⟨x,i,o⟩:=p
  .exact r
  .rw[r.one o];exact i
def zX{E:Nat->Nat->Prop}{f k:Nat->Ty}:∀{l m:List Nat},dL E l m->(∀p x,p∈l->x∈m->E p x->f p=k x)->l.map f=m.map k
 |[],_,.nil,_=>rfl|_::_,_,.cons r s,h=>by
  simp only[jd];rw[h _ _ ag ag r,zX s λp x hp hx=>h p x (by simp[hp])<|by simp[hx]]
def Yw(g:JG ds str nx vr)(Y:Can str nx vr V)(g':JG ds str bh vr)(N:JR str nx bh a b bb)(hF:qg str bh vr F VF)(Z:Hd bh a h)(o:F h)(ha:a∈ds)(hb:b∈ds):∃U,mF str bh U:=by
 classical
 let σ:Nat->Ty:=λv=>if q:∃x,Rt ds str nx vr v x then(if F (Ue bh q.choose)then VF (Ue bh q.choose)else .var v)else .var v;have J:∀v x,Rt ds str nx vr v x->F (Ue bh x)->σ v=VF (Ue bh x):=λv x r f=>by
  have q:∃x,Rt ds str nx vr v x:=⟨x,r⟩;have e:q.choose=x:=q.choose_spec.one g r;show(if q:∃x,Rt ds str nx vr v x then _ else _)=_;rw[dif_pos q,e,if_pos f]
 have Eo:=N.eqs [] _ g'.eq;have d:∀k n,n∈ds->size (V n)<=k->F (Ue bh n)->sub σ (V n)=VF (Ue bh n):=by
  intro k
  induction k with
  |zero=>intro n _ hz;have:=size_pos<|V n;omega|succ k ih=>
   intro n hn hz A;have⟨x,I⟩:=g.Ng n;have O:=g.lB n x hn I;have e:=Y n x I;have K:=JN g'<|I.eq Eo;rw[K]at A⊢
   cases hs:str x with
   |none=>
    rw[hs]at e;rw[e];exact J _ x ⟨O,I.head,hs,rfl⟩ A
   |some q=>
    obtain⟨c,l⟩:=q;rw[hs]at e;have e:V n=.aM c (l.map V):=e;have⟨y,R⟩:=g'.Ng x;rw[oX R]at A⊢;have⟨l',h1,h2⟩:=Nh g' R hs;have⟨_,X⟩:=hF y A;rw[h1]at X;obtain⟨hs2,h4,h5,h6⟩:=X;rw[e,h6];simp only[sub];rw[jH];congr 1;have h7:=QM h2 h4;have i:∀p,p∈l->p∈ds/\size (V p)<=k:=λp hp=>⟨g.Vi x c l O hs p hp,by have:=jL (c:=c) (U:=V) hp;rw[<-e]at this;omega⟩;exact zX h7 λp z hp hz2 r=>by
     have:=ih p (i p hp).1 (i p hp).2 (by rw[oX r];exact h5 z hz2);rw[this,oX r]
 have I:=Y.nD g;refine⟨λn=>sub σ<|V n,((N.yes rfl).1 _).2 ⟨⟨λn c l hs=>?_,λn m e=>by rw[I.bV n m e]⟩,?_⟩⟩
 .rw[I.made n c l hs];simp only[sub];rw[jH]
 .have A:=(N.yes rfl).2.2 [] _ g'.eq;have i:=JN g' A;show sub σ (V a)=sub σ (V b);rw[d _ a ha (br _) (by rw[oX Z];exact o),d _ b hb (br _) (by rw[<-i,oX Z];exact o),i]
structure ahh(ds:List Nat)str nx bh vr(V V':Nat->Ty)θ a b:Prop where
 can:Can str bh vr V'
 val:∀n,n∈ds->V' n=sub θ (V n)
 mgu:In.wY θ (V a) (V b)
 rt:∀v x,Rt ds str nx vr v x->θ v=V' x
 no:∀v,(¬∃x,Rt ds str nx vr v x)->θ v=.var v
def Yx{lv}(g:JG ds str nx vr)(I:Can str nx vr V)(g':JG ds str bh vr)(K:JR str nx bh a b bb)(lr:wD str ds nx lv bh cJ)(hF:qg str bh vr F VF)(hh:Hd bh a h)(a0:F h)(ha:a∈ds)(hb:b∈ds):∃V' θ,ahh ds str nx bh vr V V' θ a b:=by
 have⟨U,hU⟩:=Yw g I g' K hF hh a0 ha hb;have⟨V',d⟩:=ae_ g' hU;have N:=d.nD g';have sV:=I.nD g;have O:=(((K.yes rfl).1 V').1 N).1;have A:∀v x,Rt ds str bh vr v x->Rt ds str nx vr v x:=λv x r=>⟨r.1,lr.gr x r.2.1,r.2.2⟩;have i:∀n,n∈ds->V' n=sub (tau ds str nx vr V') (V n):=λn hn=>EO g I O _ n hn<|br _;have J:∀v x,Rt ds str nx vr v x->tau ds str nx vr V' v=V' x:=λv x r=>Ni g r;have R:∀v,(¬∃x,Rt ds str nx vr v x)->tau ds str nx vr V' v=.var v:=λv q=>afa q;have X:=(K.yes rfl).2.2 [] _ g'.eq;refine⟨V',tau ds str nx vr V',d,i,ab4 ?_ (λσ e v=>?_)<|λv x o=>?_,J,R⟩
 .rw[<-i a ha,<-i b hb];exact d.same X
 .have hW:mF str bh (λn=>sub σ<|V n):=((K.yes rfl).1 _).2 ⟨⟨λn c l hs=>by rw[sV.made n c l hs];simp only[sub];rw[jH],λn m e=>by rw[sV.bV n m e]⟩,e⟩;have Y:∀n,n∈ds->sub σ (V n)=sub σ (V' n):=λn hn=>by
   have Z:=EO g' d hW _ n hn<|br _;have Z:=Z;rw[Z];refine sub_congr _ λw o=>?_;have⟨y,hy⟩:=g'.Ng n;have⟨x,r,_⟩:=fq (lv:=cJ) g' d _ n y hn hy (br _) o;rw[Ni g' r];show sub σ (V x)=σ w;rw[(A w x r).val I];rfl
  by_cases q:∃x,Rt ds str nx vr v x
  .obtain⟨x,r⟩:=q;rw[J v x r,<-Y x r.1,r.val I];rfl
  .rw[R v q];rfl
 .by_cases q:∃y,Rt ds str nx vr v y
  .obtain⟨y,r⟩:=q;rw[J v y r]at o;have⟨z,hz⟩:=g'.Ng y;have⟨Y,Z,_⟩:=fq (lv:=cJ) g' d _ y z r.1 hz (br _) o;rw[J x Y<|A x Y Z,Z.val d]
  .have Y:=R v q;rw[Y]at o;simp only[aA]at o;subst o;exact Y
def Lo ds str nx(vr lv:Nat->Nat)i v:=∃x,Rt ds str nx vr v x/\lv x<=i
def Yy{lv}{V'}(g:JG ds str nx vr)(X:Can str nx vr V)(g':JG ds str bh vr)(J:wD str ds nx lv bh cJ)(K:LC str ds nx lv)(jw:ahh ds str nx bh vr V V' θ a b)i w:Lo ds str bh vr cJ i w↔∃v,Lo ds str nx vr lv i v/\aA w (θ v):=by
 constructor
 .rintro⟨x,r,d⟩
  have N:=J.low i V' (jw.can.nD g') (λt=>∀w,aA w t->∃v,Lo ds str nx vr lv i v/\aA w (θ v)) (λc ts q t ht w o=>q w (by
   simp only[aA];clear q
   induction ts with
   |nil=>simp at ht|cons y ts ih=>
    obtain e|e:=List.mem_cons.1 ht
    .subst e;exact qj o
    .exact qi (ih e))) (λm hm y hy hly w o=>by
   rw[jw.val m hm]at o;have⟨v,O,R⟩:=(xj _).1 o;have⟨z,A,I⟩:=fq (lv:=lv) g X _ m y hm hy (br _) O
   exact⟨v,⟨z,A,qk (I K) hly⟩,R⟩) x r.1 x (.here r.2.1) d
  exact N w (by rw[r.val jw.can];rfl)
 .rintro⟨v,⟨x,r,d⟩,o⟩;rw[jw.rt v x r]at o;have⟨y,hy⟩:=g'.Ng x;have⟨z,A,I⟩:=fq (lv:=cJ) g' jw.can _ x y r.1 hy (br _) o;exact⟨z,A,qk (I<|J.lc K)<|qk (J.mono x r.1 x y (.here r.2.1) hy) d⟩
end
section
variable {nx:Nx} {lv:Nat->Nat}
theorem GL.move(h:GL w ds str nx vr ly lv)(I:w.heap.size<=w'.heap.size)(d:∀b i v,w.cell? ⟨b,i,ab⟩=na v->w'.heap[b]? =w.heap[b]?):GL w' ds str nx vr ly lv:=by
 refine⟨λn hn=>?_,h.out,h.hd⟩;have hc:=(h.nd n hn).cells.1;have⟨e,o,A⟩:=h.nd n hn;exact⟨(d n 0 _ hc).trans e,o.move I d,A⟩
def zV.lt(h:zV w ds str nx vr ly lv n):n<w.heap.size:=(Array.getElem?_eq_some_iff.1 h.1).1
end
def GL.one{w w':fa}{b}{ds:List Nat}{str:wP}{nx}{vr:Nat->Nat}{ly:Nat->Option Addr×Nat}{lv}(h:GL w ds str nx vr ly lv)(o:One b w w')(h1:¬b∈ds)(h4:∀m∈ds,∀c l g,str m=na (c,l)->l≠[]->(ly m).1=na ⟨g,0,ab⟩->g≠b):GL w' ds str nx vr ly lv:=by
 refine⟨λn hn=>?_,h.out,h.hd⟩;have⟨J,A,K⟩:=h.nd n hn;have d:n≠b:=λe=>h1<|e▸hn;refine⟨(o.block n d).trans J,?_,K⟩;have N:=h4 n hn
 cases hs:str n with
 |none=>trivial|some p=>
  obtain⟨c,l⟩:=p;rw[hs]at A;obtain⟨O,R,X,Y⟩:=A;refine⟨O,R,X,?_⟩;by_cases e:l=[]
  .exact qj e
  .have⟨g,I,Z,r3,r4⟩:=Y.resolve_left e;have hg:=N c l g hs e I;refine qi ⟨g,I,Z,by rw[o.size];exact r3,λi hi=>?_⟩;rw[qy (a:=⟨g,i,ab⟩) (w:=w)<|o.block g hg];exact r4 i hi
def GL.ahi{nx}{lv}(h:GL w ds str nx vr ly lv)(o:m∈ds){g}(A:str m=na (c,l))(I:l≠[])(J:(ly m).1=na ⟨g,0,ab⟩):g<w.heap.size:=by
 have⟨_,e,_⟩:=h.nd m o;rw[A]at e;have⟨g',d,_,i,_⟩:=e.2.2.2.resolve_left I;rw[J]at d;injection d with d;injection d with d;subst d;exact i
def Uf ds str nx vr ly lv T w(e:la)w':=
 ∃u bh,e=.returned u/\eh w' (λb=>w.heap.size<=b) T u/\GL w' ds str bh vr ly lv/\iK str nx bh/\Fr (λb=>b∈ds) w w'
def Nl ds str vr ly lv F V k:=
 ∀(w:fa)(nx:Nx)(n h:Nat),GL w ds str nx vr ly lv->qg str nx vr F V->n∈ds->Hd nx n h->F h->size (V h)<=k->aa j8 291 #[nA n] w (Uf ds str nx vr ly lv (V h) w)
def Yz ds str nx vr ly lv N(L:List Ty)w gk v wr:=
 ∃(j:Nat)(C:Array ia)(d:Nx),Hid (gk=N-j)/\j<=N/\v=Nv j/\GL wr ds str d vr ly lv/\iK str nx d/\Fr (λb=>b∈ds) w wr/\Bx wr w.heap.size C/\Hid (C.size=N)/\
  Hid (∀i(h:i<L.length),i<j->∃u,C[i]? =na u/\eh wr (λb=>w.heap.size<b/\b<wr.heap.size) L[i] u)
section
variable {lv:Nat->Nat}
def Nn(IH:Nl ds str vr ly lv F V k):Nl ds str vr ly lv F V (k+1):=by
 intro w nx n h G0 hF hn hd o0 a0;have hh:h∈ds:=G0.bN hn hd;have HC:=ai<|qP G0 hn hd;go_in;go_wp;refine HC.mono ?_;rintro e d⟨rfl,gX,Z,F1,E1,z1⟩;have b0:=Fin.eqv hF E1;obtain⟨c0,f0,c2,c1,c3⟩:=(Z.nd h hh).cells;have K:=(Z.nd h hh).2.1;obtain⟨_,hV⟩:=b0 h o0;have I:∀x∈ds,x<d.heap.size:=λx hx=>(Z.nd x hx).lt;clear HC G0 hF
 cases hs:str h with
 |none=>
  rw[hs]at c2 hV;have g0:d.cell? ⟨h,3,ab⟩=na (.string ⟨#[]⟩):=c2;clear c2 c3 K;have o:V h=.var (vr h):=hV;clear hV
  go_wp2
  go_ret;refine⟨_,gX,rfl,?_,Z,E1,F1⟩;rw[o];exact .var _
 |some p=>
  obtain⟨c,l⟩:=p;rw[hs]at c2 hV c3 K;obtain⟨h0,hl,p0,_⟩:=K;have g0:d.cell? ⟨h,3,ab⟩=na (.string<|pn c):=c2;have j0:d.cell? ⟨h,4,ab⟩=na (.slice (ly h).1 l.length (ly h).2):=c3;have hne:((pn c).toList==[])=fb:=by
   rw[<-zv,beq_iff_eq];exact OK h0
  obtain⟨o,a2,q0,N⟩:=hV;have J:=zU a2;obtain⟨i0,r0,s0,t0,u0⟩:=info_parts fY;have v0:=jE (by_:=16) eH r0 s0 rfl t0 u0 aD l.length hl;rw[N]at a0;have k0:∀x∈o,size (V x)<=k:=λx hx=>by have:=mQ (V:=V) hx;simp[size]at a0;omega
  have HL:=ai J;have HZ:=ai z1;have HV:=ai N;obtain⟨sa,HA⟩:∃sa,Hid<|(ly h).1=sa:=⟨_,ai rfl⟩;rw[uh HA]at j0;clear c2 c3 J z1 N
  go_wp2
  go_loopg[29] l.length (λgk v wr=>Yz ds str gX vr ly lv l.length (o.map V) d gk v wr)
  case atStart=>
   have A:Bq d (d.alloc<|.cells (qs l.length .nilIface) 105):=bw _;refine⟨0,qs l.length .nilIface,gX,ai ag,ql _,rfl,Z.move A.size<|λb i v hc=>A.block b<|iV hc,iK.refl _ _,Fr.of A,vd d _ _,ai ag,ai<|λi _ hi=>absurd hi<|qn _⟩
  case round=>
   obtain⟨j,C,l0,x0,hj,rfl,GJ,EJ,FJ,BJ,hC,hT⟩:=hrel;have zw:=FJ.size;have zb:=BJ.z;obtain⟨d0,e0,d2,d1,d3⟩:=(GJ.nd h hh).cells;rw[hs]at d2;have y0:wr.cell? ⟨h,3,ab⟩=na (.string<|pn c):=d2;clear d0 e0 d2 d1 d3 c0 f0 c1 g0 j0 v0;by_cases bY:j<l.length
   .have z0:=kK bY;obtain⟨ga,ea,cg,hga⟩:=GJ.row hh hs bY;have A:j<o.length:=by rw[<-uh HL];exact bY
    have A0:=EJ.lB _ _<|EK a2 j bY A;have HC:=IH wr l0 l[j] o[j] GJ (Fin.eqv b0 EJ) (p0 _<|ja bY) A0 (q0 _<|ja A)<|k0 _<|ja A;have B0:=HA.symm.trans ea;subst B0;clear ea;go_wp2_with fail;refine HC.mono ?_;rintro e O⟨u,tI,rfl,hU,G2,E2,F2⟩;obtain⟨R,X,rfl⟩:=hU.iface;have n0:¬d.heap.size∈ds:=λq=>by have:=I _ q;omega
    have B2:=BJ.fr F2 n0;have Y:j<C.size:=qBh;have cj:O.cell? ⟨d.heap.size,j,ab⟩=na C[j]:=(B2.c j).trans<|qv Y;have fj:=B2.f j;have B3:=ai<|B2.aW j (.iface R X) (C.setIfInBounds j<|.iface R X) rfl Y;have HU:=ai hU;have HF:=ai F2;have C0:=ai<|FJ.trans F2;have HE:=ai<|EJ.trans E2;have z2:=F2.size;have G3:=ai (G2.one (One.cell O d.heap.size j<|.iface R X) n0 (λm hm c' l' g' e1 e2 e3=>by have:=Z.ahi hm e1 e2 e3;omega));clear HC hU G2 E2 F2 B2 cg y0
    go_wp2
    go_roundg(l.length-(j+1))
    case measure=>rw[uh x0];omega
    case rel=>
     refine⟨j+1,C.setIfInBounds j<|.iface R X,tI,ai rfl,ae,iF,G3,HE,C0.set (qi<|br _) j _,B3,ai (by simp;exact hC),ai<|λi hi hij=>?_⟩;have LS:∀b,d.heap.size<b->b<O.heap.size->(O.setCell ⟨d.heap.size,j,ab⟩<|.iface R X).heap[b]? =O.heap[b]? :=λb hb _=>zd _ _ _ _ (by show b≠d.heap.size;omega);have hss:(O.setCell ⟨d.heap.size,j,ab⟩<|.iface R X).heap.size=O.heap.size:=BL;by_cases e:i=j
     .subst e;refine⟨.iface R X,by simp[Y],?_⟩;rw[List.getElem_map];exact JJ
     .obtain⟨u',D0,E0⟩:=uh hT i hi ae;refine⟨u',by rw[qu ae];exact D0,?_⟩;have h3:=E0.fr HF (λb p _ q=>by have:=I _ q;omega);exact EH
   .have z0:=nN bY;have R:j=l.length:=ae;subst R
    go_wp2
    go_ret;refine⟨_,l0,rfl,?_,GJ,E1.trans EJ,F1.trans FJ⟩;have A:(o.map V).length=l.length:=by rw[List.length_map];exact HL.symm
    rw[uh HV,<-A];have z1:=uh HZ;refine .aM c _ _ _ (λi=>C.getD i .nilIface) h0 (qi ⟨d.heap.size,rfl,by show w.heap.size<=d.heap.size;omega,zb,λi hi=>?_⟩) (λi hi=>?_)
    .obtain⟨u,hu,_⟩:=uh hT i hi ae;rw[BJ.c i,hu];simp[qt,hu]
    .obtain⟨u,hu,O⟩:=uh hT i hi ae;have:C.getD i .nilIface=u:=qBm;rw[this];exact O.wide λb p=>qAu
def QN:∀k,Nl ds str vr ly lv F V k
 |0=>λw nx n h G hF hn hd hFh Bu=>absurd Bu (by have:=size_pos<|V h;omega)|k+1=>Nn<|QN k
end
def QO{w:fa}{ds:List Nat}{str:wP}{nx:Nx}{vr:Nat->Nat}{ly:Nat->Option Addr×Nat}{lv:Nat->Nat}(G:GL w ds str nx vr ly lv):∀l:List Nat,(∀m∈l,m∈ds)->∃hs,dL (Hd nx) l hs
 |[],_=>⟨[],.nil⟩|x::l,h=>by
  have⟨y,d⟩:=G.hd x<|h x ag;have⟨hs,q⟩:=QO G l λm hm=>h m (by simp[hm]);exact⟨y::hs,.cons d q⟩
def Ug ds str nx vr ly lv sb M(F:Nat->Prop)B(V:Nat->Ty)n w(e:la)w':=
 ∃bh,GL w' ds str bh vr ly lv/\iK str nx bh/\Fr (λb=>b∈ds\/b=sb) w w'/\
  ((∃M' F' V' h,e=.returned (.tuple #[.int .i64 ((min (size<|V' h) 49:Nat):Int),.bool bb])/\Hd nx n h/\F' h/\(∀x,F x->F' x/\V' x=V x)/\SZ ds str bh vr M' F' B V'/\MS A8 w' sb M'/\(∀x,ba x M'=ab->ba x M=ab))\/
   (e=.returned (.tuple #[Iv 0,.bool fb])/\∀W,¬mF str nx W))
def EP ds str vr ly lv sb k:=
 ∀(w:fa)(nx:Nx)(M:List (Nat×ia))(F:Nat->Prop)(B:List Nat)(V:Nat->Ty)(n:Nat),GL w ds str nx vr ly lv->SZ ds str nx vr M F B V->MS A8 w sb M->n∈ds->(∀W,mF str nx W->∀b∈B,size (W n)<size (W b))->mu M ds<k->
  aa j8 302 #[.agg #[Iv 48,Mv sb],nA n] w (Ug ds str nx vr ly lv sb M F B V n w)
def QP ds str nx vr ly lv sb bx M(F:Nat->Prop)B(V:Nat->Ty)N(A:List Nat)w gk u v wr:=
 ∃(j:Nat)(d:Nx)(e:List (Nat×ia))(i:Nat->Prop)(o:Nat->Ty)(sz:Nat),Hid (gk=N-j)/\j<=N/\u=Nv sz/\v=Nv j/\sz<=49/\Hid (sz=min (1+ak ((A.take j).map o)) 49)/\GL wr ds str d vr ly lv/\iK str nx d/\Fr (λb=>b∈ds\/b=sb) w wr/\Bx wr bx #[Iv 48,Mv sb]/\
  Hid (SZ ds str d vr e i B o)/\MS A8 wr sb e/\Hid ((∀x,F x->i x/\o x=V x)/\(∀x,ba x e=ab->ba x M=ab)/\∀x∈A.take j,i x)
section
variable {lv:Nat->Nat}
def Np(IH:EP ds str vr ly lv sb k):EP ds str vr ly lv sb (k+1):=by
 intro w nx M F B V n G0 N M0 Z hB hmu;have⟨h,HD⟩:=G0.hd n Z;have O:=G0.bN Z HD;have⟨I,BA⟩:=rF w #[.int .i64 48,.map<|some sb] 432;have GA:=G0.move I.size<|λb i v hc=>I.block b<|iV hc;have HC:=qP GA Z HD;have zs:=M0.lt;have MA:=M0.below I;have k0:∀x∈ds,x<w.heap.size:=λx hx=>(G0.nd x hx).lt;have l0:¬sb∈ds:=λq=>by have:=(G0.nd sb q).cells.1;rw[M0.qQ 0]at this;cases this
 have n0:¬w.heap.size∈ds:=λq=>by have:=k0 _ q;omega
 go_in;go_wp;refine HC.mono ?_;rintro e w1⟨rfl,gX,G1,F1,R,HZ⟩;have B1:=BA.fr F1 n0;have HM:=MA.same (F1.block sb (by have:=I.size;omega) l0);have a0:∀x∈ds,∃c t,w1.heap[x]? =na (Cv c t (0,0)):=λx hx=>⟨_,_,(G1.nd x hx).1⟩;have hl:=HM.look V8 Tryz.underlying430 (Qx w1) h (a0 h O) (λp hp=>a0 p.1<|N.kd p hp) bb;have ca:=B1.c 0;have cb:=B1.c 1;have D0:=ca;have E0:=cb;have FF:Fr (λb=>b∈ds\/b=sb) w w1:=(Fr.of I).trans' F1<|λx q=>Or.inl<|Or.inl q;have HD1:=R.lB _ _ HD;clear HC GA BA MA G0 M0 ca cb
 cases hg:ba h M with
 |some v=>
  rw[hg]at hl;simp at hl;obtain q|q:=N.gm h v hg
  .have d:=N.fg h q;rw[hg]at d;injection d with d;subst d;have o:=QI<|V h;have BO:((((min (size<|V h) 49:Nat)):Int)==0)=fb:=by simpa using o
   generalize hq:(((min (size<|V h) 49:Nat)):Int)=sz at*
   go_wp2
   go_ret2;refine⟨gX,G1,R,FF,qj ⟨M,F,V,h,?_,HD,q,λx hx=>⟨hx,rfl⟩,N.eqv R,HM,λ_ hx=>hx⟩⟩;have e1:(sz !=0)=bb:=by simpa using o
   rw[hq];show Rv (Value.tuple #[.int .i64 sz,.bool<|sz !=0])=_;rw[e1]
  .have d:=N.bg h q;rw[hg]at d;injection d with d;subst d
   go_wp2
   go_ret2;refine⟨gX,G1,R,FF,qi ⟨rfl,λW hW=>?_⟩⟩;have:=hB W hW h q;rw[HD.nD hW]at this;omega
 |none=>
  rw[hg]at hl;simp at hl;have⟨c0,f0,c2,c1,c3⟩:=(G1.nd h O).cells;have J:=(G1.nd h O).2.1;obtain⟨l,b0,o0,p0⟩:∃l:List Nat,Hid ((str h=ab/\l=[])\/∃c,str h=na (c,l))/\slN (str h)=l.length/\∀m∈l,m∈ds:=by
   cases hs:str h with
   |none=>exact⟨[],ai<|qj ⟨rfl,rfl⟩,rfl,ag⟩|some p=>
    rw[hs]at J;exact⟨p.2,ai<|qi ⟨p.1,rfl⟩,rfl,J.2.2.1⟩
  have ajr:l.length<=1001:=by
   obtain⟨_,e⟩|⟨c,e⟩:=uh b0
   .subst e;simp
   .rw[e]at J;exact J.2.1
  have⟨hs,a2⟩:=QO G1 l p0;have HL:=zU a2;obtain⟨sa,HA⟩:∃sa,Hid<|(ly h).1=sa:=⟨_,ai rfl⟩;rw[uh HA,o0]at c3;have q0:=c3;have N:=N.eqv R;have F0:=N.kd;have H0:h≠sb:=λe=>l0<|e▸O;clear c3 o0 c0 c1 c2 f0 J;go_wp2_with(refine aV _ rfl _ _ _ _ (qi rfl) V8 Tryz.underlying430 _ _ rfl HM h (.int .i64 0) rfl rfl (a0 h O) (λp hp=>a0 p.1<|F0 p hp) ?_;intro w2 H' O';have I0:=ai H';have O2:=O';clear H' O';have r0:w2.cell? ⟨h,4,ab⟩=na (Lv sa l.length (ly h).2):=(qy (a:=⟨h,4,ab⟩) (w:=w1)<|O2.block h H0).trans q0);have FP:Fr (λb=>b∈ds\/b=sb) w w2:=⟨O2.os.trans FF.os,O2.tape.trans FF.tape,O2.output.trans FF.output,by rw[O2.size];exact FF.size,λb hz Z=>(O2.block b<|λe=>Z<|qi e).trans<|FF.block b hz Z⟩;have J0:∀(d:Nx),iK str gX d->∀j(hj:j<l.length)W,mF str d W->∀b∈h::B,size (W l[j])<size (W b):=by
   intro d X j hj W hW b A;have o:=((R.trans X).nD W).1 hW;have e1:=HD.nD o;have d0:size (W l[j])<size (W h):=by
    obtain⟨_,e⟩|⟨c,e⟩:=uh b0
    .subst e;simp at hj
    .rw[o.made h c l e];have:=mQ (V:=W)<|ja hj;simp[size];omega
   obtain q|q:=List.mem_cons.1 A
   .rw[q];exact d0
   .have:=hB W o b q;rw[e1]at this;omega
  have h0:=hg;have s0:mu (bF h (.int .i64 0) M) ds<k:=by have:=Yp h0 (.int .i64 0) O;omega
  have i0:∀b i v,w1.cell? ⟨b,i,ab⟩=na v->w2.heap[b]? =w1.heap[b]? :=λb i v hc=>O2.block b (λe=>by subst e;rw[HM.qQ i]at hc;cases hc);have G2:=G1.move (by rw[O2.size];exact br _) i0;have B2:=B1.one O2 ae;clear hl D0 E0 q0 r0;go_loopg[8,34] l.length (λgk u v wr=>QP ds str gX vr ly lv sb w.heap.size (bF h (.int .i64 0) M) F (h::B) V l.length hs w gk u v wr)
  case atStart=>
   exact⟨0,gX,bF h (.int .i64 0) M,F,V,1,ai ag,ql _,rfl,rfl,ae,ai<|by simp[ak],G2,iK.refl _ _,FP,B2,ai<|N.begin O h0,uh I0,ai ⟨λx hx=>⟨hx,rfl⟩,λ_ hx=>hx,ag⟩⟩
  case round=>
   obtain⟨j,d,Mj,Fj,Vj,sz,K0,hj,rfl,rfl,Bu,e0,GJ,X,FJ,BJ,SJ,j0,hT⟩:=hrel;have zw:=FJ.size;have zb:=BJ.z;have ca:=BJ.c 0;have cb:=BJ.c 1;by_cases o:j<l.length
   .have L0:=kK o;obtain⟨c,O0⟩:∃c,Hid<|str h=na (c,l):=by
     obtain⟨_,e⟩|⟨c,e⟩:=uh b0
     .subst e;simp at o
     .exact⟨c,ai e⟩
    have⟨ga,ea,cg,hga⟩:=GJ.row O (uh O0) o;have A:j<hs.length:=by rw[<-HL];exact o
    have P0:=X.lB _ _<|EK a2 j o A;have Q0:mu Mj ds<k:=Nat.lt_of_le_of_lt (EL (uh hT).2.1 ds) s0;have HC:=IH wr d Mj Fj (h::B) Vj l[j] GJ SJ j0 (p0 _<|ja o) (J0 d X j o) Q0;have R0:=(uh HA).symm.trans ea;subst R0;clear ea;go_wp2_with fail;refine HC.mono ?_;rintro e w3⟨t0,G3,E3,F3,⟨M3,u0,V3,h3,rfl,v0,x0,K,S3,y0,z0⟩|⟨rfl,S0⟩⟩
    .have e3:=v0.one P0;subst e3;obtain⟨s2,g0⟩:∃s2,Hid<|s2=min (size<|V3 hs[j]) 49:=⟨_,ai rfl⟩;rw[<-uh g0];have ajs:s2<=49:=by rw[uh g0];omega
     have B3:=BJ.fr F3 (λq=>by obtain q|q:=q;exact n0 q;omega);have ca3:=B3.c 0;have A0:∀(x:Bool)(w:fa),(Op.unary .not<|.bool x).run j8 w=.ok (.bool<|!x) w:=λ_ _=>rfl;clear HC ca cb cg
     have HR:∀sz',sz'<=49->sz'=min (sz+s2) 49->QP ds str gX vr ly lv sb w.heap.size (bF h (.int .i64 0) M) F (h::B) V l.length hs w (l.length-(j+1)) (.int .i64 (sz':Int)) (.int .i64<|(j:Int)+1) w3:=(λsz' hz1 hz2=>by
      have⟨Y,t2,t3⟩:=uh hT;have B0:∀x∈hs.take (j+1),u0 x:=λx hx=>by
       rw[jc A]at hx;obtain q|q:=List.mem_append.1 hx
       .exact(K x<|t3 x q).1
       .simp at q;rw[q];exact x0
      have T0:(hs.take j).map V3=(hs.take j).map Vj:=by
       apply jy;intro x hx;exact(K x<|t3 x hx).2
      have C0:∀(a:List Ty)(t:Ty),ak (a++[t])=ak a+size t:=by
       intro a t
       induction a with
       |nil=>simp[ak]|cons x a ih=>simp[ak,ih];omega
      refine⟨j+1,t0,M3,u0,V3,sz',ai rfl,ae,rfl,iF,hz1,ai ?_,G3,X.trans E3,FJ.trans F3,B3,ai S3,y0,ai ⟨λx hx=>⟨(K x (Y x hx).1).1,((K x (Y x hx).1).2).trans (Y x hx).2⟩,λx hx=>t2 x<|z0 x hx,B0⟩⟩;rw[jc A,j5,T0];simp only[jd,j7];rw[C0,hz2,uh e0,uh g0]
      omega)
     clear v0 x0 K S3 y0 z0 hT e0 g0 G3 E3 F3;go_wp2_with fail;all_goals(go_roundg(l.length-(j+1)))
     all_goals(first|(rw[uh K0];omega)|exact HR 49 ae (by omega)|(have:=HR (sz+s2) ae ae;rw[Int.natCast_add]at this;exact this)|(obtain q|q:=Nat.le_total (sz+s2) 49<;>first|(rw[Int.min_eq_left ae];have:=HR (sz+s2) ae ae;rw[Int.natCast_add]at this;exact this)|(rw[Int.min_eq_right ae];exact HR 49 ae ae)))
    .have A0:∀(x:Bool)(w:fa),(Op.unary .not<|.bool x).run j8 w=.ok (.bool<|!x) w:=λ_ _=>rfl;clear HC ca cb cg
     go_wp2
     go_ret2;exact⟨t0,G3,(R.trans X).trans E3,FJ.trans F3,qi ⟨rfl,λW hW=>S0 W<|((R.trans X).nD W).2 hW⟩⟩
   .have L0:=nN o;have ej:j=l.length:=ae;subst ej;have d0:hs.take l.length=hs:=by rw[HL];exact ju
    have⟨Y,t2,t3⟩:=uh hT;have A:=uh e0;rw[d0]at t3 A
    obtain⟨T,v0,g0⟩:∃T:Ty,Hid (sz=min (size T) 49)/\Hid (match str h with
     |none=>T=.var (vr h)|some (c,l)=>∃hs,dL (Hd d) l hs/\(∀y,y∈hs->Fj y)/\T=.aM c (hs.map Vj)):=by
     obtain⟨e1,K⟩|⟨c,e⟩:=uh b0
     .have e3:hs=[]:=by
       have:=HL;rw[K]at this;exact List.length_eq_zero_iff.1 this.symm
      refine⟨.var<|vr h,ai ?_,ai<|by rw[e1]⟩;rw[A,e3];simp[ak,size]
     .refine⟨.aM c<|hs.map Vj,ai ?_,ai ?_⟩
      .rw[A];simp[size]
      .rw[e];exact⟨hs,zT (λx y q=>X.lB x y q) a2,t3,rfl⟩
    have x0:¬h∈B:=λq=>by
     have:=N.bg h q;rw[h0]at this
     cases this
    have SD:=SJ.done x0 O ((X.AQ h).2<|(R.lB _ _ HD).head) T g0;have K:∀x∈ds,∃c t,wr.heap[x]? =na (Cv c t (0,0)):=(λx hx=>⟨_,_,(GJ.nd x hx).1⟩);have y0:=(uh SJ).kd;have z0:=And.intro Y t2;clear e0 A Y t2 t3 hT d0 g0;go_wp2_with(refine aV _ rfl _ _ _ _ (qi rfl) V8 Tryz.underlying430 _ _ rfl j0 h (.int .i64 (sz:Int)) rfl rfl (K h O) (λp hp=>K p.1<|y0 p hp) ?_;intro w4 H' O';have A0:=ai H';have O4:=O';clear H' O');go_ret2;obtain⟨Y,t2⟩:=z0;have t0:=uh v0;have u0:=SD;rw[<-t0]at u0;have B0:∀b i v,wr.cell? ⟨b,i,ab⟩=na v->w4.heap[b]? =wr.heap[b]? :=λb i v hc=>O4.block b (λe=>by subst e;rw[j0.qQ i]at hc;cases hc);refine⟨d,GJ.move (by rw[O4.size];exact br _) B0,R.trans X,⟨O4.os.trans FJ.os,O4.tape.trans FJ.tape,O4.output.trans FJ.output,by rw[O4.size];exact FJ.size,λb hz Z=>(O4.block b<|λe=>Z<|qi e).trans<|FJ.block b hz Z⟩,qj ⟨bF h (.int .i64 (sz:Int)) Mj,λy=>Fj y\/y=h,qe Vj h T,h,?_,HD,qi rfl,λx hx=>⟨qj (Y x hx).1,?_⟩,u0,uh A0,λx hx=>?_⟩⟩
    .have e1:qe Vj h T h=T:=Oy;rw[e1,<-t0];rfl
    .have C0:x≠h:=λe=>by subst e;exact(uh SJ).apart (Y x hx).1 ag
     simp only[qe,C0,if_false];exact(Y x hx).2
    .rw[aO]at hx;split at hx
     .cases hx
     .have:=t2 x hx;rw[aO]at this;split at this
      .cases this
      .exact this
def QQ:∀k,EP ds str vr ly lv sb k
 |0=>λw nx M F B V n _ _ _ _ _ hmu=>absurd hmu (qn _)|k+1=>Np<|QQ k
end
section
variable {nx:Nx} {lv:Nat->Nat}
def ab5 ds str nx vr ly lv n w(e:la)w':=
 ∃bh,GL w' ds str bh vr ly lv/\iK str nx bh/\Fr (λb=>b∈ds) w w'/\
  ((∃F V h,e=.returned (.tuple #[.int .i64 ((min (size<|V h) 49:Nat):Int),.bool bb])/\Hd nx n h/\F h/\qg str bh vr F V/\∀x,F x->x∈ds)\/
   (e=.returned (.tuple #[Iv 0,.bool fb])/\∀W,¬mF str nx W))
def wE(G:GL w ds str nx vr ly lv)(hn:n∈ds):aa j8 295 #[nA n,Iv 48] w (ab5 ds str nx vr ly lv n w):=by
 have d:Bq w (w.alloc<|.map #[] 0):=bw _;have Z:=G.move d.size<|λb i v hc=>d.block b<|iV hc;have S0:SZ ds str nx vr [] (λ_=>False) [] (λ_=>.var 0):=⟨λ_ q=>q.elim,λ_ q=>q.elim,λ_ q=>(List.not_mem_nil q).elim,λx v q=>(by simp[ba]at q),λ_ q=>(List.not_mem_nil q).elim⟩;have J:=QQ (mu [] ds+1) (w.alloc<|.map #[] 0) nx [] (λ_=>False) [] (λ_=>.var 0) n Z S0 (MS.new A8 w) hn (λ_ _ b hb=>by simp at hb) (Nat.lt_succ_self _);have ajt:∀x∈ds,x<w.heap.size:=λx hx=>(G.nd x hx).lt;go_in;go_wp;refine J.mono ?_
 have o:∀w',Fr (λb=>b∈ds\/b=w.heap.size) (w.alloc<|.map #[] 0) w'->Fr (λb=>b∈ds) w w':=λw' h=>(Fr.of d).trans' h (λx q=>by
  obtain q|q:=q
  .exact qj q
  .exact qi ae)
 rintro e K⟨gX,N,O,R,⟨M1,F',X,h,rfl,hd,hF,hV,Y,MS1,hg⟩|⟨rfl,I⟩⟩
 .obtain⟨s2,A⟩:∃s2:Nat,Hid<|s2=min (size<|X h) 49:=⟨_,ai rfl⟩;rw[<-uh A]
  go_wp2
  go_ret2;refine⟨gX,N,O,o K R,qj ⟨F',X,h,?_,hd,hF,Y.fin,λx hx=>Y.fd hx⟩⟩;rw[<-uh A];rfl
 .clear J
  go_wp2
  go_ret2;exact⟨gX,N,O,o K R,qi ⟨rfl,I⟩⟩
end
structure gD where
 ds:List Nat
 str:wP
 nx:Nx
 vr:Nat->Nat
 ly:Nat->Option Addr×Nat
 lv:Nat->Nat
 V:Nat->Ty
abbrev gD.L(g:gD)i v:=Lo g.ds g.str g.nx g.vr g.lv i v
abbrev gD.R(g:gD)v x:=Rt g.ds g.str g.nx g.vr v x
structure JS w(g:gD)(s:xi):Prop where
 gl:GL w g.ds g.str g.nx g.vr g.ly g.lv
 mM:vD g.str g.nx []
 inj:∀a b,a∈g.ds->b∈g.ds->g.str a=ab->g.str b=ab->g.vr a=g.vr b->a=b
 can:Can g.str g.nx g.vr g.V
 lc:LC g.str g.ds g.nx g.lv
 val:∀n,n∈g.ds->g.str n=ab->g.V n=s.k (g.vr n)
 use:∀n,n∈g.ds->g.str n=ab->s.u (g.vr n)
 ok:In.Ok s
section
variable {g g1 g2:gD} {s s1 s2:xi}
def GL.jg{nx:Nx}{lv:Nat->Nat}(h:GL w ds str nx vr ly lv)(hc:vD str nx [])(d:∀a b,a∈ds->b∈ds->str a=ab->str b=ab->vr a=vr b->a=b):JG ds str nx vr where
 Ng n:=by
  by_cases q:n∈ds
  .exact h.hd n q
  .exact⟨n,.here (h.out n q).1⟩
 lB n x hn k:=h.bN hn k
 Vi a c l ha hs p hp:=(h.part ha hs).2 p hp
 inj:=d
 mM:=hc
def JS.jg(h:JS w g s):JG g.ds g.str g.nx g.vr:=h.gl.jg h.mM h.inj
def JS.nR(h:JS w g s){v:Nat}(e:n∈g.ds)(o:aA v (g.V n)):∃x,g.R v x:=by
 have⟨y,d⟩:=h.jg.Ng n;have⟨x,r,_⟩:=fq (lv:=g.lv) h.jg h.can _ n y e d (br _) o;exact⟨x,r⟩
def JS.root(h:JS w g s){v:Nat}(r:g.R v x):s.u v/\s.k v=.var v:=by
 rw[<-r.2.2.2];exact⟨h.use x r.1 r.2.2.1,by rw[<-h.val x r.1 r.2.2.1,r.val h.can,r.2.2.2]⟩
def JS.eqv(h:JS w g s){bh}(e:iK g.str g.nx bh)(d:GL w' g.ds g.str bh g.vr g.ly g.lv):JS w' {g with nx:=bh} s:=
 ⟨d,e.mM _ h.mM,h.inj,λn x k=>h.can n x<|e.back h.gl k,(wD.eqv h.gl e).lc h.lc,h.val,h.use,h.ok⟩
structure iL L(g:gD)(s:xi)(g1:gD)(s1:xi):Prop where
 fV:∀n,n∈g.ds->n∈g1.ds/\g1.str n=g.str n/\g1.vr n=g.vr n
 val:∀n,n∈g.ds->g1.V n=sub s1.k (g.V n)
 SO:∀i,i<L->∀x,g1.L i x↔∃v,g.L i v/\aA x (s1.k v)
def iL.key{L}(h:JS w g s)(k:iL L g s g1 s1)(I:JS w' g1 s1)(d:n∈g.ds)(e:g.str n=ab):s1.k (g.vr n)=sub s1.k (s.k<|g.vr n):=by
 have⟨i,o,A⟩:=k.fV n d;rw[<-h.val n d e,<-k.val n d,I.val n i<|o.trans e,A]
def iL.refl(h:JS w g s)L:iL L g s g s:=
 ⟨λn hn=>⟨hn,rfl,rfl⟩,λn hn=>(In.gZ λv o=>by have⟨x,r⟩:=h.nR hn o;exact(h.root r).2).symm,λi _ x=>⟨λq=>⟨x,q,by obtain⟨y,r,_⟩:=q;rw[(h.root r).2];rfl⟩,λ⟨v,q,o⟩=>by obtain⟨y,r,l⟩:=q;rw[(h.root r).2]at o;simp only[aA]at o;subst o;exact⟨y,r,l⟩⟩⟩
def iL.trans{L}{w2}(h:JS w g s)(O:JS w' g1 s1)(X:JS w2 g2 s2)(k:iL L g s g1 s1)(A:iL L g1 s1 g2 s2):iL L g s g2 s2:=by
 have key:∀v y,g.R v y->s2.k v=sub s2.k (s1.k v):=λv y r=>by
  have⟨d,e,I⟩:=k.fV y r.1;have:=A.key O X d<|e.trans r.2.2.1
  rwa[I,r.2.2.2]at this
 refine⟨λn hn=>?_,λn hn=>?_,λi hi x=>?_⟩
 .have⟨d,e,I⟩:=k.fV n hn;have⟨J,K,N⟩:=A.fV n d;exact⟨J,K.trans e,N.trans I⟩
 .rw[A.val n (k.fV n hn).1,k.val n hn,sub_sub];refine sub_congr _ λv o=>?_;have⟨y,r⟩:=h.nR hn o;exact(key v y r).symm
 .rw[A.SO i hi x];constructor
  .rintro⟨d,q,o⟩;have⟨v,e,I⟩:=(k.SO i hi d).1 q;refine⟨v,e,?_⟩;obtain⟨y,r,_⟩:=e;rw[key v y r];exact(xj _).2 ⟨d,I,o⟩
  .rintro⟨v,e,o⟩;obtain⟨y,r,ly⟩:=e;rw[key v y r]at o;have⟨d,I,J⟩:=(xj _).1 o;exact⟨d,(k.SO i hi d).2 ⟨v,⟨y,r,ly⟩,I⟩,J⟩
def iL.eqv(h:JS w g s)(e:iK g.str g.nx bh)(hg:GL w' g.ds g.str bh g.vr g.ly g.lv)L:iL L g s {g with nx:=bh} s:=by
 have r:=iL.refl h L;refine⟨r.fV,r.val,λi hi x=>?_⟩;rw[<-r.SO i hi x];exact⟨λ⟨y,⟨d,o,A⟩,l⟩=>⟨y,⟨d,(e.AQ y).1 o,A⟩,l⟩,λ⟨y,⟨d,o,A⟩,l⟩=>⟨y,⟨d,(e.AQ y).2 o,A⟩,l⟩⟩
def QR{str:wP}{nx:Nx}{vr:Nat->Nat}{ds:List Nat}{F:Nat->Prop}{VF V:Nat->Ty}(A:qg str nx vr F VF)(o:Can str nx vr V):∀k x,size (V x)<=k->F x->VF x=V x
 |0,x,h,_=>by have:=size_pos<|V x;omega|k+1,x,hz,hx=>by
  have⟨J,i⟩:=A x hx;have e:=o x x<|.here J
  cases hs:str x with
  |none=>rw[hs]at i e;rw[i,e]|some q=>
   obtain⟨c,l⟩:=q;rw[hs]at i e;have e:V x=.aM c (l.map V):=e;obtain⟨hs2,K,I,N⟩:=i;rw[N,e];congr 1;refine(zX K λp y hp hy r=>?_).symm;have d:V p=V y:=by rw[o p y r,o y y<|.here (A y<|I y hy).1]
   rw[d];refine(QR (ds:=ds) A o k y ?_<|I y hy).symm;have:=jL (c:=c) (U:=V) hp;rw[<-e,d]at this;omega
def ab6{nx}(g:JG ds str nx vr)(I:Can str nx vr V):qg str nx vr (λh=>h∈ds/\nx h=ab) V:=λh hh=>by
 refine⟨hh.2,?_⟩;have e:=I h h<|.here hh.2
 cases hs:str h with
 |none=>rw[hs]at e;exact e|some q=>
  obtain⟨c,l⟩:=q;rw[hs]at e;have e:V h=.aM c (l.map V):=e;have K:=g.Vi h c l hh.1 hs;have:∀l:List Nat,(∀p,p∈l->p∈ds)->∃hs,dL (Hd nx) l hs/\(∀x,x∈hs->x∈ds/\nx x=ab)/\l.map V=hs.map V:=by
   intro l
   induction l with
   |nil=>exact λ_=>⟨[],.nil,ag,rfl⟩|cons p l ih=>
    intro J;have⟨y,d⟩:=g.Ng p;have⟨hs,i,o,A⟩:=ih λq hq=>J q (by simp[hq]);refine⟨y::hs,.cons d i,λx hx=>?_,?_⟩
    .obtain e|e:=List.mem_cons.1 hx
     .subst e;exact⟨g.lB p _ (J p ag) d,d.head⟩
     .exact o x e
    .simp only[jd,A];rw[show V p=V y from by rw[I p y d,I y y<|.here d.head]]
  have⟨d,i,o,A⟩:=this l K;exact⟨d,i,o,by rw[e,A]⟩
end
abbrev guJ(f:Fl)(vl vr:ia):ia:=.iface 414<|.agg #[Nv f.kind,Nv f.ah,Nv f.to,vl,vr]
abbrev L8(f:Fl)(vl vr:ia):la:=.panicked [{v:=guJ f vl vr,recovered:=fb}]
section
variable {g:gD} {s:xi}
def JS.lt(h:JS w g s){n}(d:n∈g.ds):n<w.heap.size:=(h.gl.nd n d).lt
def GL.af{nx}{lv}(h:GL w ds str nx vr ly lv)(d:Bq w w'):GL w' ds str nx vr ly lv:=h.move d.size λb i v hc=>d.block b<|iV hc
def JS.af(h:JS w g s)(d:Bq w w'):JS w' g s:=⟨h.gl.af d,h.mM,h.inj,h.can,h.lc,h.val,h.use,h.ok⟩
def ab7(h:JS w g s)(N:n∈g.ds):aa j8 295 #[nA n,Iv 48] w (λe w'=>e=.returned (.tuple #[.int .i64 ((min (size<|g.V n) 49:Nat):Int),.bool bb])/\∃bh,iK g.str g.nx bh/\JS w' {g with nx:=bh} s/\Fr (λb=>b∈g.ds) w w'):=by
 refine(wE h.gl N).mono ?_;rintro e w'⟨bh,G,E,F,⟨Fs,VF,x,rfl,i,A,I,_⟩|⟨_,d⟩⟩
 .have o:=h.eqv E G;have J:=QR (ds:=g.ds) I o.can _ x (br _) A;have K:g.V n=g.V x:=by rw[h.can n x i,h.can x x<|.here i.head]
  refine⟨by rw[J,K],bh,E,o,F⟩
 .exact absurd (h.can.nD h.jg) (d _)
def qR(h:JS w g s)(hn:n∈g.ds)f t:aa j8 289 #[nA n,.agg #[Nv f,Nv t]] w (λe w'=>(∃bh,iK g.str g.nx bh/\JS w' {g with nx:=bh} s)/\Fr (λb=>b∈g.ds) w w'/\((size (g.V n)<=48/\e=.returned (.tuple #[]))\/(48<size (g.V n)/\e=L8 ⟨7,f,t⟩ .nilIface .nilIface))):=by
 have⟨o,O⟩:=rF w #[Nv f,Nv t] 90;have R:=ab7 (h.af o) hn;have X:¬w.heap.size∈g.ds:=λq=>by have:=h.lt q;omega
 have Y:=ai o;go_in;go_wp;refine R.mono ?_;rintro e Z⟨rfl,gX,A,I,J⟩;have K:=(Fr.of Y).trans J;by_cases hb:48<size (g.V n)
 .have d:(48:Int)<((min (size<|g.V n) 49:Nat):Int):=ae;obtain⟨M,i⟩:∃M:Int,M=((min (size<|g.V n) 49:Nat):Int):=⟨_,rfl⟩;rw[<-i]at d⊢;have HT:=mO (w:=Z) (f:Int) (t:Int);have⟨c1,c2,c3⟩:=O.fr J X;go_wp2_with fail;refine HT.mono ?_;rintro e w2⟨rfl,N⟩
  go_wp2
  exact⟨rfl,⟨gX,A,I.af N⟩,K.trans<|Fr.of N,qi ⟨hb,rfl⟩⟩
 .have d:¬(48:Int)<((min (size<|g.V n) 49:Nat):Int):=ae;obtain⟨M,i⟩:∃M:Int,M=((min (size<|g.V n) 49:Nat):Int):=⟨_,rfl⟩;rw[<-i]at d⊢
  go_wp2
  go_end0;exact⟨⟨gX,A,I⟩,K,qj ⟨ae,rfl⟩⟩
def xV(h:JS w g s)(o:n∈g.ds):aa j8 291 #[nA n] w (λe w'=>∃tu xu bh,e=.returned (.iface tu xu)/\eh w' (λb=>w.heap.size<=b) (g.V n) (.iface tu xu)/\iK g.str g.nx bh/\JS w' {g with nx:=bh} s/\Fr (λb=>b∈g.ds) w w'):=by
 have⟨x,d⟩:=h.jg.Ng n;refine(QN _ w g.nx n x h.gl (ab6 h.jg h.can) o d ⟨h.jg.lB n x o d,d.head⟩<|br _).mono ?_;rintro e w'⟨u,bh,rfl,i,G,E,F⟩;obtain⟨tu,xu,rfl⟩:=i.iface;exact⟨tu,xu,bh,rfl,by rw[show g.V n=g.V x from by rw[h.can n x d,h.can x x<|.here d.head]];exact i,E,h.eqv E G,F⟩
def JR.post{nx}(h:JR str nx gX a b bb)(e:iK str gX tI):JR str nx tI a b bb:=
 ⟨λP E q=>h.eqs P E<|e.eqs P E q,λ_=>⟨λV=>(e.nD V).trans<|(h.yes rfl).1 V,λP q=>e.mM P<|(h.yes rfl).2.1 P q,λP E q=>(h.yes rfl).2.2 P E<|e.eqs P E q⟩,λq=>iP⟩
def JS.join(h:JS w g s)(Y:GL w' g.ds g.str bh g.vr g.ly cJ)(Z:JR g.str g.nx bh a b bb)(K:wD g.str g.ds g.nx g.lv bh cJ)(hF:qg g.str bh g.vr F VF)(hx:Hd bh a x)(N:F x)(ha:a∈g.ds)(hb:b∈g.ds){ta tb}(d:g.V a=sub s.k ta)(eb:g.V b=sub s.k tb)(za:size (g.V a)<=48)(zb:size (g.V b)<=48)f t:
 ∃V' s',JS w' {g with nx:=bh,lv:=cJ,V:=V'} s'/\(∀L,iL L g s {g with nx:=bh,lv:=cJ,V:=V'} s')/\xk ta tb f t s (.ok ((),s'))/\s'.u=s.u:=by
 have A:=(Z.yes rfl).2.1 [] h.mM;have O:=Y.jg A h.inj;have⟨V',θ,jw⟩:=Yx h.jg h.can O Z K hF hx N ha hb;have I:∀{n:Nat}{T:Ty},n∈g.ds->g.V n=sub s.k T->In.cy (λ_=>True) s (sub s.k T):=λhn e=>⟨λv o=>by rw[<-e]at o;have⟨y,r⟩:=h.nR hn o;exact(h.root r).1,λ_ _=>trivial⟩;have X:∀{ta tb:Ty},g.V a=sub s.k ta->g.V b=sub s.k tb->xk ta tb f t s (.ok ((),⟨λv=>sub θ<|s.k v,s.u⟩)):=λd eb=>qi ⟨by rw[<-d];exact za,by rw[<-eb];exact zb,qj ⟨θ,by rw[<-d,<-eb];exact jw.mgu,rfl⟩⟩;have J:=(In.fE (Λ:=λ_=>True) h.ok (λ_ _=>trivial) (I ha d) (I hb eb) f t _ _<|X (by rw[h.ok.qE,d])<|by rw[h.ok.qE,eb]).1.ok;have js:JS w' {g with nx:=bh,lv:=cJ,V:=V'} ⟨λv=>sub θ<|s.k v,s.u⟩:=
  ⟨Y,A,h.inj,jw.can,K.lc h.lc,λn hn hs=>by show V' n=sub θ (s.k<|g.vr n);rw[jw.val n hn,h.val n hn hs],h.use,J⟩
 have J:∀v y,g.R v y->sub θ (s.k v)=θ v:=λv y r=>by rw[(h.root r).2];rfl
 refine⟨V',⟨λv=>sub θ<|s.k v,s.u⟩,js,λL=>⟨λn hn=>⟨hn,rfl,rfl⟩,λn hn=>?_,λi _ w=>?_⟩,X d eb,rfl⟩
 .show V' n=sub (λv=>sub θ<|s.k v) (g.V n);rw[jw.val n hn];refine sub_congr _ λv o=>?_;have⟨y,r⟩:=h.nR hn o;exact(J v y r).symm
 .show Lo g.ds g.str bh g.vr cJ i w↔_;rw[Yy h.jg h.can O K h.lc jw i w];constructor
  .rintro⟨v,⟨y,r,ly⟩,o⟩;exact⟨v,⟨y,r,ly⟩,by show aA w (sub θ<|s.k v);rw[J v y r];exact o⟩
  .rintro⟨v,⟨y,r,ly⟩,o⟩;have o:aA w (sub θ<|s.k v):=o;rw[J v y r]at o;exact⟨v,⟨y,r,ly⟩,o⟩
def JS.apart(h:JS w g s)(i:∀W,mF g.str g.nx W->W a≠W b)σ:sub σ (g.V a)≠sub σ (g.V b):=by
 have d:=h.can.nD h.jg;exact i (λn=>sub σ<|g.V n) ⟨λn c l hs=>by rw[d.made n c l hs];simp only[sub];rw[jH],λn m e=>by rw[d.bV n m e]⟩
def ab8{nx}{lv}(G:GL w ds str nx vr ly lv)(Y:n∈ds):aa j8 317 #[nA n] w (λe w'=>∃ok bh,e=.returned (.bool ok)/\GL w' ds str bh vr ly lv/\iK str nx bh/\Fr (λb=>b∈ds) w w'/\(ok=bb->∃F V x,Hd nx n x/\F x/\qg str bh vr F V)/\(ok=fb->∀W,¬mF str nx W)):=by
 have K:=wE G Y;go_in;go_wp;refine K.mono ?_;rintro e d⟨gX,A,I,J,⟨F,V,x,rfl,N,O,R,_⟩|⟨rfl,i⟩⟩
 .have o:=show∃ok bh,Rv (.bool bb)=Rv (.bool ok)/\GL d ds str bh vr ly lv/\iK str nx bh/\Fr (λb=>b∈ds) w d/\(ok=bb->∃F V x,Hd nx n x/\F x/\qg str bh vr F V)/\(ok=fb->∀W,¬mF str nx W)from⟨bb,gX,rfl,A,I,J,λ_=>⟨F,V,x,N,O,R⟩,λq=>iP⟩;obtain⟨M,X⟩:∃M:Int,M=((min (size<|V x) 49:Nat):Int):=⟨_,rfl⟩;rw[<-X]
  go_wp2
  go_ret;exact o
 .have o:=show∃ok bh,Rv (.bool fb)=Rv (.bool ok)/\GL d ds str bh vr ly lv/\iK str nx bh/\Fr (λb=>b∈ds) w d/\(ok=bb->∃F V x,Hd nx n x/\F x/\qg str bh vr F V)/\(ok=fb->∀W,¬mF str nx W)from⟨fb,gX,rfl,A,I,J,(λq=>iP),λ_=>i⟩
  go_wp2
  go_ret;exact o
def sN g(s:xi)a b x y f t w e w':=Fr (λb=>b∈g.ds) w w'/\
 ((e=.returned (.tuple #[])/\∃bh cJ V' s',JS w' {g with nx:=bh,lv:=cJ,V:=V'} s'/\(∀L,iL L g s {g with nx:=bh,lv:=cJ,V:=V'} s')/\xk x y f t s (.ok ((),s'))/\s'.u=s.u/\(∀m,m∈g.ds->∀h h',Hd g.nx m h->Hd bh m h'->cJ h'<=g.lv h)/\sM g.str g.ds g.nx g.lv bh cJ a b)\/
  (∃z vl vr,e=L8 z.f vl vr/\xk x y f t s (.error z)/\qM w' (λb=>w.heap.size<=b) z vl vr))
def Wj(h:JS w g s)(ha:a∈g.ds)(hb:b∈g.ds){x y}(ea:g.V a=sub s.k x)(eb:g.V b=sub s.k y)f t:
 aa j8 301 #[nA a,nA b,.agg #[Nv f,Nv t]] w (sN g s a b x y f t w):=by
 have⟨k0,B0⟩:=nbh w #[Nv f,Nv t] 90;have H1:=qR (h.af k0) ha f t;have hz:¬w.heap.size∈g.ds:=λq=>by have:=h.lt q;omega
 have LT:∀n,n∈g.ds->n<w.heap.size:=λn q=>h.lt q;have K0:=ai k0;have⟨c1,c2,c3⟩:=uh B0;go_in;go_wp;refine H1.mono ?_;rintro e w1⟨⟨gX,j0,J1⟩,F1,l0⟩;have X:=(Fr.of K0).trans F1;obtain⟨hza,rfl⟩|⟨hza,rfl⟩:=l0.symm
 .have I:=show sN g s a b x y f t w (L8 ⟨7,f,t⟩ Zv Zv) w1 from⟨X,qi ⟨In.p9 f t,Zv,Zv,rfl,qj ⟨qj (by rw[<-ea];exact hza),rfl⟩,⟨λ_=>⟨rfl,rfl⟩,(λq=>iP),qi rfl⟩⟩⟩
  go_wp2
  exact⟨rfl,I⟩
 have B1:=ai<|B0.fr F1 hz;have⟨c1,c2,c3⟩:=uh B1;have H2:=qR J1 hb f t;go_wp2_with fail;refine H2.mono ?_;rintro e w2⟨⟨tI,E2,J2⟩,F2,n0⟩;have d:=X.trans F2;obtain⟨hzb,rfl⟩|⟨hzb,rfl⟩:=n0.symm
 .have I:=show sN g s a b x y f t w (L8 ⟨7,f,t⟩ Zv Zv) w2 from⟨d,qi ⟨In.p9 f t,Zv,Zv,rfl,qj ⟨qi (by rw[<-eb];exact hzb),rfl⟩,⟨λ_=>⟨rfl,rfl⟩,(λq=>iP),qi rfl⟩⟩⟩
  go_wp2
  exact⟨rfl,I⟩
 have B2:=B1.fr F2 hz;have H3:=xV J2 ha;have o0:=j0.trans E2;have z2:=d.size;go_wp2_with fail;refine H3.mono ?_;rintro e w3⟨J,K,nx3,rfl,T3,E3,J3,F3⟩;have H4:=xV J3 hb;have B3:=B2.fr F3 hz;have a0:=d.trans F3;have p0:=o0.trans E3;have z3:=F3.size;go_wp2_with fail;refine H4.mono ?_;rintro e w4⟨N,O,b0,rfl,T4,E4,R,F4⟩;have H5:=Yu _ w4 b0 g.lv R.gl (br _) a b ha hb;have B4:=B3.fr F4 hz;have c0:=a0.trans F4;have i:=p0.trans E4;have z4:=F4.size;have o:∀b:Nat,w.heap.size<=b->¬b∈g.ds:=λb hb q=>by have:=LT b q;omega
 have q0:=T3.fr F4 (λb p _=>o b (by have:w2.heap.size<=b:=p;omega));go_wp2_with fail;refine H5.mono ?_;rintro e w5⟨ok,nx5,r0,rfl,d0,F5,z5,_,Y,s0⟩;have e0:∀(W:fa)(vl:TypeId)(xl:ia)(vr:TypeId)(xr:ia),Fr (λb=>b∈g.ds) w W->eh W (λb=>w.heap.size<=b) (g.V a) (Fv vl xl)->eh W (λb=>w.heap.size<=b) (g.V b) (Fv vr xr)->(∀σ,sub σ (g.V a)≠sub σ (g.V b))->sN g s a b x y f t w (L8 ⟨6,f,t⟩ (Fv vl xl)<|Fv vr xr) W:=λW vl xl vr xr hF h1 h2 h3=>
  ⟨hF,qi ⟨⟨⟨6,f,t⟩,g.V a,g.V b⟩,_,_,rfl,qi ⟨by rw[<-ea];exact hza,by rw[<-eb];exact hzb,qi ⟨by rw[<-ea,<-eb];exact h3,by rw[<-ea,<-eb]⟩⟩,⟨(λq=>iP),λ_=>⟨h1,h2⟩,qj rfl⟩⟩⟩
 have f0:=(q0.fr F5<|λb p _=>o b (by have:w2.heap.size<=b:=p;omega)).wide (Q:=λb=>w.heap.size<=b) λb p=>by have:w2.heap.size<=b:=p;omega
 have g0:=(T4.fr F5<|λb p _=>o b (by have:w3.heap.size<=b:=p;omega)).wide (Q:=λb=>w.heap.size<=b) λb p=>by have:w3.heap.size<=b:=p;omega
 have A:=c0.trans F5;have B5:=B4.fr F5 hz
 cases ok with
 |false=>
  have Z:∀σ,sub σ (g.V a)≠sub σ (g.V b):=λσ=>R.apart (g:={g with nx:=b0}) (Y.no rfl) σ;obtain⟨c1,c2,c3⟩:=B5;have HA:=Ev (w:=w5) (f:Int) (t:Int) J N K O;go_wp2_with fail;refine HA.mono ?_;rintro e w6⟨rfl,k6⟩;have I:=e0 w6 J K N O (A.trans<|Fr.of k6) (f0.af k6) (g0.af k6) Z
  go_wp2
  exact⟨rfl,I⟩
 |true=>
  have H6:=ab8 d0 ha;have h0:=s0 rfl;go_wp2_with fail;refine H6.mono ?_;rintro e w6⟨t0,u0,rfl,G6,E6,F6,hy,hn⟩
  cases t0 with
  |false=>
   have Z:∀σ,sub σ (g.V a)≠sub σ (g.V b):=λσ eσ=>by
    have j4:=R;have sV:=j4.can.nD j4.jg;exact hn rfl (λn=>sub σ<|g.V n) (((Y.yes rfl).1 _).2 ⟨⟨λn c l hs=>by rw[sV.made n c l hs];simp only[sub];rw[jH],λn m e=>by rw[sV.bV n m e]⟩,eσ⟩)
   have⟨c1,c2,c3⟩:=B5.fr F6 hz;have HA:=Ev (w:=w6) (f:Int) (t:Int) J N K O;have v0:=f0.fr F6<|λb p _=>o b p;have x0:=g0.fr F6<|λb p _=>o b p;have i0:=A.trans F6;go_wp2_with fail;refine HA.mono ?_;rintro e w7⟨rfl,k7⟩;have I:=e0 w7 J K N O (i0.trans<|Fr.of k7) (v0.af k7) (x0.af k7) Z
   go_wp2
   exact⟨rfl,I⟩
  |true=>
   have⟨FF,VF,z,q1,q2,q3⟩:=hy rfl;have j4:=R;have i0:=Y.post E6;have g5:=d0;have Z:=h0.1.trans (wD.eqv g5 E6) g5.hd<|λU q=>(E6.nD U).1 q;have⟨V',s',js,st,he,hu⟩:=j4.join (x:=z) G6 i0 Z q3 (E6.lB _ _ q1) q2 ha hb ea eb hza hzb f t;have I:=show sN g s a b x y f t w (Rv<|.tuple #[]) w6 from⟨A.trans F6,qj ⟨rfl,u0,r0,V',s',js,λL=>iL.trans h j4 js (iL.eqv h i j4.gl L)<|st L,he,hu,λm hm p p' k k'=>Z.mono m hm p p' (i.lB _ _ k) k',(h0.2.post g5 E6).pre h.gl i⟩⟩
   go_wp2
   go_end0;exact I
end
section
variable {g:gD} {s:xi}
def GL.add{ds}{str}{nx}{vr}{ly}{lv}(h:GL w ds str nx vr ly lv)(A:Bq w w'){n:Nat}(N:w.heap.size<=n)s v a l(O:w'.heap[n]? =na (.cells #[.pointer ab,Nv l,Nv v,.string<|byS s,.slice a.1 (slN s) a.2] 426 (0,0)))(R:ig w' (n::ds) a.1 s):
 GL w' (n::ds) (qe str n s) nx (qe vr n v) (qe ly n a) (qe lv n l):=by
 have o:∀b i v,w.cell? ⟨b,i,ab⟩=na v->w'.heap[b]? =w.heap[b]? :=λb i v hc=>A.block b<|iV hc;have nd:¬n∈ds:=λq=>by have:=(h.nd n q).lt;omega
 have nn:=(h.out n nd).1;refine⟨λx hx=>?_,λx hx=>?_,λx hx=>?_⟩
 .by_cases e:x=n
  .subst e;refine⟨by simpa[qe,nP,nn]using O,by simpa[qe]using R,λm hm=>by rw[nn]at hm;cases hm⟩
  .have d:=(List.mem_cons.1 hx).resolve_left e;have hc:=(h.nd x d).cells.1;have⟨I,J,K⟩:=h.nd x d;refine⟨?_,?_,λm hm=>jf _<|K m hm⟩
   .rw[o x 0 _ hc,I];simp[qe,e]
   .simp only[qe,e,if_false];exact(J.more N).move A.size o
 .have d:x≠n/\¬x∈ds:=⟨λe=>hx Vh,λe=>hx Vh⟩;exact⟨(h.out x d.2).1,by simpa[qe,d.1]using(h.out x d.2).2⟩
 .by_cases e:x=n
  .subst e;exact⟨x,.here nn⟩
  .exact h.hd x ((List.mem_cons.1 hx).resolve_left e)
abbrev gD.add(g:gD)(n:Nat)(q:Option (BA×List Nat))(v:Nat)(a:Option Addr×Nat)(l:Nat)(T:Ty):gD:=⟨n::g.ds,qe g.str n q,g.nx,qe g.vr n v,qe g.ly n a,qe g.lv n l,qe g.V n T⟩
def JS.QS(h:JS w g s)(nd:¬n∈g.ds)q:vD (qe g.str n q) g.nx []:=λE hE x m c l e hs=>by
 have d:=zi λz=>by rw[(h.gl.out x z).1]at e;cases e
 have i:=(h.gl.nd x d).2.2 m e;have o:x≠n:=λz=>nd<|z▸d;have A:m≠n:=λz=>nd<|z▸i;simp only[qe,o,if_false]at hs;have⟨I,J,K⟩:=h.mM E hE x m c l e hs;exact⟨I,by simp only[qe,A,if_false];exact J,K⟩
def JS.QT(h:JS w g s)(nd:¬n∈g.ds){v:Nat}(A:T=match q with|none=>.var v|some (c,l)=>.aM c<|l.map g.V)(K:∀c l,q=na (c,l)->∀p,p∈l->p∈g.ds):Can (qe g.str n q) g.nx (qe g.vr n v) (qe g.V n T):=λx y k=>by
 have nn:=(h.gl.out n nd).1;have i:∀l:List Nat,(∀p,p∈l->p∈g.ds)->l.map (qe g.V n T)=l.map g.V:=λl hl=>eJ λp hp=>by
  have:p≠n:=λe=>nd<|e▸hl p hp;simp[qe,this]
 by_cases d:x∈g.ds
 .have o:=h.gl.bN d k;have I:x≠n:=λz=>nd<|z▸d;have J:y≠n:=λz=>nd<|z▸o;simp only[qe,I,J,if_false];have:=h.can x y k;rw[this]
  cases hs:g.str y with
  |none=>rfl|some p=>
   obtain⟨c,l⟩:=p;show z9 c (l.map g.V)=z9 c (l.map<|qe g.V n T);rw[i l (h.gl.part o hs).2]
 .have o:=(h.gl.out x d).1;have I:=k.one<|.here o;subst I;by_cases e:y=n
  .subst e;simp only[qe,if_true];rw[A]
   cases q with
   |none=>rfl|some p=>
    obtain⟨c,l⟩:=p;show z9 c (l.map g.V)=z9 c (l.map<|qe g.V y _);rw[<-A,i l<|K c l rfl]
  .simp only[qe,e,if_false];have:=h.can y y k;rw[(h.gl.out y d).2]at this⊢;exact this
def JS.YA(h:JS w g s)(nd:¬n∈g.ds){L:Nat}(A:∀c l,q=na (c,l)->∀p,p∈l->p∈g.ds/\∀x,Hd g.nx p x->g.lv x<=L):LC (qe g.str n q) (n::g.ds) g.nx (qe g.lv n L):=λa ha hn c l hs p hp x k=>by
 by_cases e:a=n
 .subst e;simp only[qe,if_true]at hs;have⟨d,o⟩:=A c l hs p hp;have i:x≠a:=λz=>nd<|z▸h.gl.bN d k;simp only[qe,i,if_false,if_true];exact o x k
 .have d:=(List.mem_cons.1 ha).resolve_left e;simp only[qe,e,if_false]at hs;have i:x≠n:=λz=>nd<|z▸h.gl.bN ((h.gl.part d hs).2 p hp) k;simp only[qe,e,i,if_false];exact h.lc a d hn c l hs p hp x k
def iL.add(h:JS w g s){n:Nat}(nd:¬n∈g.ds){q:Option (BA×List Nat)}{v:Nat}{a:Option Addr×Nat}{l L:Nat}{T:Ty}{s1}(O:s1.k=s.k)(R:q=ab->L<=l):iL L g s (g.add n q v a l T) s1:=by
 have r:=iL.refl h L;have A:∀m,m∈g.ds->m≠n:=λm hm e=>nd<|e▸hm;refine⟨λm hm=>⟨jf _ hm,by simp[qe,A m hm],by simp[qe,A m hm]⟩,λm hm=>?_,λi hi x=>?_⟩
 .rw[O,<-r.val m hm];simp[qe,A m hm]
 .rw[O,<-r.SO i hi x];constructor
  .rintro⟨y,⟨I,K,d,J⟩,o⟩;by_cases e:y=n
   .subst e;simp only[qe,if_true]at d o;have:=R d;omega
   .have N:=(List.mem_cons.1 I).resolve_left e;simp only[qe,e,if_false]at d J o;exact⟨y,⟨N,K,d,J⟩,o⟩
  .rintro⟨y,⟨I,K,d,J⟩,o⟩;have e:=A y I;exact⟨y,⟨jf _ I,K,by simpa[qe,e]using d,by simpa[qe,e]using J⟩,by simpa[qe,e]using o⟩
def QU{p:Prop}(h:p:=by
 simp only[qe,e1,e2,if_false]at e sa sb
 exact h.inj a b ((List.mem_cons.1 ha).resolve_left e1) ((List.mem_cons.1 hb).resolve_left e2) sa sb e):p:=h
def JO{p:Prop}(h:p:=by
 simpa[qe,e]using h.val m ((List.mem_cons.1 hm).resolve_left e) (by simpa[qe,e]using hs)):p:=h
def JS.var(h:JS w g s)(o:Bq w w'){v l:Nat}(A:w.heap.size<=n)(d:¬s.u v)(I:w'.heap[n]? =na (.cells #[.pointer ab,Nv l,Nv v,.string ⟨#[]⟩,.slice ab 0 0] 426 (0,0))):
 JS w' (g.add n ab v (ab,0) l<|.var v) ⟨s.k,λm=>s.u m\/m=v⟩:=by
 have nd:¬n∈g.ds:=λq=>by have:=h.lt q;omega
 have ne:∀m,m∈g.ds->m≠n:=λm hm e=>nd<|e▸hm;refine⟨h.gl.add o A ab v (ab,0) l I trivial,h.QS nd ab,λa b ha hb sa sb e=>?_,h.QT nd rfl (λc l q=>iP),h.YA nd<|λc l q=>iP,λm hm hs=>?_,λm hm hs=>?_,(In.ie (Λ:=λ_=>True) h.ok (λ_ _=>trivial) _ _ ⟨v,d,rfl⟩).1.ok⟩
 .by_cases e1:a=n<;>by_cases e2:b=n
  .rw[e1,e2]
  .exfalso;have i:=(List.mem_cons.1 hb).resolve_left e2;simp only[qe,e1,e2,if_false,if_true]at e sb;exact d (by rw[e];exact h.use b i sb)
  .exfalso;have i:=(List.mem_cons.1 ha).resolve_left e1;simp only[qe,e1,e2,if_false,if_true]at e sa;exact d (by rw[<-e];exact h.use a i sa)
  .exact QU
 .by_cases e:m=n
  .subst e;simp[qe,h.ok.out v d]
  .exact JO
 .by_cases e:m=n
  .subst e;simp[qe]
  .have i:=(List.mem_cons.1 hm).resolve_left e;simp only[qe,e,if_false]at hs⊢;exact qj<|h.use m i hs
def JS.V5(h:JS w g s)(A:Bq w w'){l:Nat}{a:Option Addr×Nat}(I:w.heap.size<=n)(hc:CN c)(J:ps.length<=1001)(d:∀p,p∈ps->p∈g.ds/\∀x,Hd g.nx p x->g.lv x<=l)(o:ps=[]\/∃gg,a.1=na ⟨gg,0,ab⟩/\¬gg∈n::g.ds/\gg<w'.heap.size/\∀i(h:i<ps.length),w'.cell? ⟨gg,i,ab⟩=na (nA ps[i]))(K:w'.heap[n]? =na (.cells #[.pointer ab,Nv l,Iv 0,.string<|pn c,.slice a.1 ps.length a.2] 426 (0,0))):
 JS w' (g.add n (na (c,ps)) 0 a l<|.aM c<|ps.map g.V) s:=by
 have nd:¬n∈g.ds:=λq=>by have:=h.lt q;omega
 have ne:∀m,m∈g.ds->m≠n:=λm hm e=>nd<|e▸hm;refine⟨h.gl.add A I (na (c,ps)) 0 a l K ⟨hc,J,λm hm=>jf _ (d m hm).1,o⟩,h.QS nd _,λa b ha hb sa sb e=>?_,h.QT nd rfl (λc' l' q=>by injection q with q;injection q with _ q;subst q;exact λp hq=>(d p hq).1),h.YA nd (λc' l' q=>by injection q with q;injection q with _ q;subst q;exact d),λm hm hs=>?_,λm hm hs=>?_,h.ok⟩
 .have e1:a≠n:=λz=>by subst z;simp[qe]at sa
  have e2:b≠n:=λz=>by subst z;simp[qe]at sb
  exact QU
 .have e:m≠n:=λz=>by subst z;simp[qe]at hs
  exact JO
 .have e:m≠n:=λz=>by subst z;simp[qe]at hs
  simp only[qe,e,if_false]at hs⊢;exact h.use m ((List.mem_cons.1 hm).resolve_left e) hs
def JS.made(h:JS w g s)(I:Bq w w'){l:Nat}{a:Option Addr×Nat}(J:w.heap.size<=n)(hc:CN c)(K:ps.length<=1001)(N:∀p,p∈ps->p∈g.ds/\∀x,Hd g.nx p x->g.lv x<=l)(O:ps=[]\/∃gg,a.1=na ⟨gg,0,ab⟩/\w.heap.size<=gg/\gg≠n/\gg<w'.heap.size/\∀i(h:i<ps.length),w'.cell? ⟨gg,i,ab⟩=na (nA ps[i]))(R:w'.heap[n]? =na (.cells #[.pointer ab,Nv l,Iv 0,.string<|pn c,.slice a.1 ps.length a.2] 426 (0,0))):
 JS w' (g.add n (na (c,ps)) 0 a l<|.aM c<|ps.map g.V) s:=by
 refine h.V5 I J hc K N (O.imp id λ⟨gg,d,q2,e,o,A⟩=>⟨gg,d,λz=>?_,o,A⟩) R;obtain z|z:=List.mem_cons.1 z
 .exact e z
 .have:=h.lt z;omega
end
def gD.K(g:gD)(P:Nat->Prop)n:=n∈g.ds/\∀x,Hd g.nx n x->P x
open Classical in
noncomputable def gD.cut (g:gD) (P:Nat->Prop):gD:=⟨g.ds.filter λn=>decide (g.K P n),λn=>if g.K P n then g.str n else ab,λn=>if g.K P n then g.nx n else ab,g.vr,g.ly,g.lv,λn=>if g.K P n then g.V n else .var (g.vr n)⟩
section
variable {g:gD} {s:xi}
def dh:n∈(g.cut P).ds↔g.K P n:=by
 simp only[gD.cut,List.mem_filter,decide_eq_true_eq];exact⟨λq=>q.2,λq=>⟨q.1,q⟩⟩
def bG(h:g.K P n):(g.cut P).str n=g.str n/\(g.cut P).nx n=g.nx n/\(g.cut P).V n=g.V n:=by simp[gD.cut,h]
def uG(h:¬g.K P n):(g.cut P).str n=ab/\(g.cut P).nx n=ab/\(g.cut P).V n=.var (g.vr n):=by simp[gD.cut,h]
def ab9(i:GL w g.ds g.str g.nx g.vr g.ly g.lv)(d:n∈g.ds)(e:g.nx n=na m):g.K P n↔g.K P m:=
 ⟨λq=>⟨(i.nd n d).2.2 m e,λx k=>q.2 x<|.step e k⟩,λq=>⟨d,λx k=>q.2 x<|k.so e⟩⟩
def aa5(A:GL w g.ds g.str g.nx g.vr g.ly g.lv)(k:Hd g.nx n x)(d:g.K P n):Hd (g.cut P).nx n x/\g.K P x:=by
 induction k with
 |here e=>exact⟨.here<|by rw[(bG d).2.1,e],d⟩|step e k ih=>
  have⟨i,o⟩:=ih<|(ab9 A d.1 e).1 d;exact⟨.step (by rw[(bG d).2.1,e]) i,o⟩
def aeg(e:GL w g.ds g.str g.nx g.vr g.ly g.lv)(i:g.K P n)(k:Hd (g.cut P).nx n x):Hd g.nx n x:=by
 have⟨y,d⟩:=e.hd n i.1;rw[k.one (aa5 e d i).1];exact d
def ER(Z:GL w g.ds g.str g.nx g.vr g.ly g.lv)(j:JG g.ds g.str g.nx g.vr)(hP:ScD g.str g.ds g.nx P)(A:g.K P n)(J:g.str n=na (c,l)){p}(i:p∈l):g.K P p:=by
 have⟨x,o⟩:=Z.hd n A.1;have⟨d,N,O⟩:=Nh j o J;refine⟨j.Vi n c l A.1 J p i,λy hy=>?_⟩;have:∀{l d:List Nat},dL (yJ g.nx) l d->p∈l->∃q,q∈d/\yJ g.nx p q:=by
  intro l d a
  induction a with
  |nil=>simp|cons e _ ih=>
   intro i;obtain rfl|i:=List.mem_cons.1 i
   .grind
   .grind
 have⟨q,R,e⟩:=this O i;have I:Hd g.nx q y:=by
  obtain rfl|⟨z,X,Y⟩:=e
  .exact hy
  .rw[hy.one X];exact Y
 exact hP x (j.lB n x A.1 o) o.head (A.2 x o) c d N q R y I
def JS.cut(i:GL w g.ds g.str g.nx g.vr g.ly g.lv)(mM:vD g.str g.nx [])(inj:∀a b,a∈g.ds->b∈g.ds->g.str a=ab->g.str b=ab->g.vr a=g.vr b->a=b)(J:Can g.str g.nx g.vr g.V)(val:∀n,n∈g.ds->g.str n=ab->g.V n=s.k (g.vr n))(use:∀n,n∈g.ds->g.str n=ab->s.u (g.vr n))(ok:In.Ok s)(A:ScD g.str g.ds g.nx P)(lc:∀a,a∈g.ds->g.nx a=ab->P a->∀c l,g.str a=na (c,l)->∀p,p∈l->∀h,Hd g.nx p h->g.lv h<=g.lv a):JS w (g.cut P) s:=by
 have j:=i.jg mM inj;refine⟨⟨λn hn=>?_,λn hn=>?_,λn hn=>?_⟩,λE hE n m c l e hs=>?_,λa b ha hb sa sb e=>?_,λn x k=>?_,λa ha hn c l hs p hp x hx=>?_,λn hn hs=>?_,λn hn hs=>?_,ok⟩
 .have hn:=dh.1 hn;have⟨I,o,q3⟩:=i.nd n hn.1;refine⟨by rw[(bG hn).1,(bG hn).2.1];exact I,?_,λm e=>dh.2<|(ab9 i hn.1 (by rw[<-(bG hn).2.1];exact e)).1 hn⟩;rw[(bG hn).1]
  cases e:g.str n with
  |none=>trivial|some q=>
   obtain⟨c,l⟩:=q;rw[e]at o;obtain⟨N,O,r3,R⟩:=o;exact⟨N,O,λm hm=>dh.2<|ER i j A hn e hm,R.imp id λ⟨X,Y,Z,z3,z4⟩=>⟨X,Y,λz=>Z (dh.1 z).1,z3,z4⟩⟩
 .have hn:¬g.K P n:=λq=>hn<|dh.2 q;exact⟨(uG hn).2.1,(uG hn).1⟩
 .have hn:=dh.1 hn;have⟨x,hx⟩:=i.hd n hn.1;exact⟨x,(aa5 i hx hn).1⟩
 .have hn:=zi λq=>by rw[(uG q).2.1]at e;cases e
  rw[(bG hn).2.1]at e;rw[(bG hn).1]at hs;have hm:=(ab9 i hn.1 e).1 hn;have I:Un.Eq g.nx [] (λa b=>(g.K P a↔g.K P b)/\(g.K P a->E a b)):=by
   refine⟨λa=>⟨Iff.rfl,λ_=>hE.refl a⟩,λa b q=>⟨q.1.symm,λz=>hE.symm _ _<|q.2<|q.1.2 z⟩,λa b d q r=>⟨q.1.trans r.1,λz=>hE.trans _ _ _ (q.2 z)<|r.2<|q.1.1 z⟩,λa b q=>?_,λa b q=>by simp at q⟩;have ha:=zi λz=>by rw[(i.out a z).1]at q;cases q
   exact⟨ab9 i ha q,λz=>hE.bV a b (by rw[(bG z).2.1];exact q)⟩
  have⟨o,N,O⟩:=mM _ I n m c l e hs;refine⟨o,by rw[(bG hm).1];exact N,?_⟩;have:∀{l o:List Nat},dL (λa b=>(g.K P a↔g.K P b)/\(g.K P a->E a b)) l o->(∀p,p∈l->g.K P p)->dL E l o:=by
   intro l o a
   induction a with
   |nil=>exact λ_=>.nil|cons e _ ih=>exact λh=>.cons (e.2<|h _ ag) (ih λp hp=>h p<|by simp[hp])
  exact this O λp hp=>ER i j A hn hs hp
 .have ha:=dh.1 ha;have hb:=dh.1 hb;rw[(bG ha).1]at sa;rw[(bG hb).1]at sb;exact inj a b ha.1 hb.1 sa sb e
 .by_cases hn:g.K P n
  .have o:=aeg i hn k;have hx:=(aa5 i o hn).2;rw[(bG hn).2.2,(bG hx).1,J n x o]
   cases e:g.str x with
   |none=>rfl|some q=>
    obtain⟨c,l⟩:=q;show z9 c (l.map g.V)=.aM c (l.map (g.cut P).V);rw[eJ λp hp=>(bG<|ER i j A hx e hp).2.2]
  .rw[k.one<|.here (uG hn).2.1,(uG hn).2.2,(uG hn).1];rfl
 .have ha:=dh.1 ha;rw[(bG ha).1]at hs;rw[(bG ha).2.1]at hn;exact lc a ha.1 hn (ha.2 a<|.here hn) c l hs p hp x<|aeg i (ER i j A ha hs hp) hx
 .have hn:=dh.1 hn;rw[(bG hn).1]at hs;rw[(bG hn).2.2];exact val n hn.1 hs
 .have hn:=dh.1 hn;rw[(bG hn).1]at hs;exact use n hn.1 hs
end
end
end Go.Proofs.YtonaidfgokhmoaaGreatDoor

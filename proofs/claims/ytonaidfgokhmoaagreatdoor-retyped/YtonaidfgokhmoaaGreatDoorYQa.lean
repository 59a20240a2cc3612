import Derived.Laws.AppendOwnNone
import Derived.Shelf.SlMaps.Clone
import Derived.Test.YtonaidfgokhmoaaGreatDoorYPf
import Derived.Test.YtonaidfgokhmoaaGreatDoorYWj
set_option linter.all false
set_option maxRecDepth 100000
set_option maxHeartbeats 4000000
namespace Go.Proofs.YtonaidfgokhmoaaGreatDoor
open Go renaming Calls->aa,World->ea,Value->fa,Ending->ga
open _root_.Option renaming some->ia,none->ka
open _root_.Bool renaming true->la,false->na
open _root_.List renaming getElem?_eq_getElem->ja,take_length->jc,map_cons->jd,take_succ_eq_append_getElem->jf,mem_cons_of_mem->jh,take_succ_cons->ji,eq_nil_of_length_eq_zero->jj,getElem_cons_succ->jk,nodup_cons->jl,mem_map_of_mem->jm,getElem_of_mem->jo,append_assoc->jp,mem_cons->jq,getElem_mem->jt,foldl_append->ju,getD_eq_getElem?_getD->jv,getElem_append_left->jx,getElem?_take_of_lt->jy,map_nil->jz,length_pos_of_mem->j3,mem_singleton->j5,pairwise_map->j6,nodup_append->j7,map_append->j8,length_map->j9,foldl_cons->qe,nodup_nil->qf,length->qg,Nodup->qh
open Or renaming inr->qi,inl->qj
open Go.Proofs.Tryz renaming prog->qk,underlying9->ql
open _root_.Nat renaming le_trans->qm,lt_of_lt_of_le->qn,strongRecOn->qp,zero_le->qr,mul_le_mul_left->qs,mul_le_mul->qt,mul_le_mul_right->qu,pos_of_ne_zero->qv
open Go.World renaming cell?_of_block->qw,cell?->qx,setCell->qy,ownsRow_nil->qz,frozen?->q9
open _root_.Array renaming replicate->xf,getElem?_setIfInBounds_ne->xg,getElem?_eq_getElem->xh,getElem?_setIfInBounds->xi,getD_eq_getD_getElem?->xj,toList_modify->xk
open Go.RowKit.Below renaming heap_setCell->xm,refl->xn
open Go.Value renaming string->xo,ownBlock->xq,iface->xt,int->xw,slice->zd
open Un renaming seen->zg,eE->zh,Eq->zi
open In renaming cV->zo,Env->zt,over->zu,Lp->zv,uX->zx,yl->zy,lN->z9
open Go.Instr renaming typeAssert->vd,lookup->vf,mapUpdate->vg,next->vh
open Go.MapKept renaming heap_alloc->vo,run_setObj_map->vw,run_getObj_map->v7
open Go.Lib renaming byteCells->v8
open Go.Result renaming andThen->v9
open _root_.ByteArray renaming toList->kg,mk->kh
open And renaming intro->ki
open Classical renaming propDecidable->kq
open Ne renaming symm->ku
open Go.Op renaming mapUpdate->kv,insert->kw
open Go.Sem renaming run_bind->kx
open Go Go.RowKit Go.ChangeMaps Proofs.Tryz
variable {ops:Array Oper} {C ca cs:Array fa} {c c' last s:BA} {Γ LA wS:zt} {L:List (Int×fa)} {ns:List BA} {V acc ds l l':List Nat} {N:List Nat->Nat->Prop} {rest:List Oper} {xs:List fa} {B S b1 b2 base by_ cb f fb g gb h kb mb n pb r:Nat} {p:Nat->Bool} {rk vr:Nat->Nat} {ly:Nat->Option Addr×Nat} {D D1 K:Nat->Option Un.Ty} {F P Q:Nat->Prop} {R:Nat->Un.Ty} {o:Oper} {sa:Option Addr} {row:Option Nat} {κ:Type} {e k ta tb:TypeId} {i:TypeInfo} {bh xH:Un.Nx} {str:Un.wP} {T t x y:Un.Ty} {bv mv u z:fa} {W w' w0:ea}
section
open Un
def tl(s:BA):BA:=s.extract 1 s.size
def Ve(s:BA):=∃r,s.toList=39::r
def xP{r}(h:s.toList=39::r):(tl s).toList=r:=by
 rw[tl];rw[ByteArray.toList_eq]at h⊢;rw[ByteArray.data_extract];simp;rw[h];have:s.size=(39::r).length:=by rw[<-h];simp
 rw[this];simp
def XG{t}(m:Ve s)(A:Ve t)(h:tl s=tl t):s=t:=by
 obtain⟨r,d⟩:=m;obtain⟨q,j⟩:=A;have:r=q:=by rw[<-xP d,<-xP j,h]
 exact toList_inj (by rw[d,j,this])
def XH:Nat->List BA->List (BA×fa)
 |_,[]=>[]|i,a::l=>(tl a,Iv<|(i:Int)+1)::XH (i+1) l
def IM(s:BA):∀l i,XH i (l++[s])=XH i l++[(tl s,Iv<|((i+l.length:Nat):Int)+1)]
 |[],i=>by simp[XH]|a::l,i=>by
  simp only[List.cons_append,XH,IM s l<|i+1];simp;omega
def XI{s:BA}(j:Ve s):∀l i,(∀a∈l,Ve a)->s∈l->ba (tl s) (XH i l)=ia (Iv<|((i+ix s l:Nat):Int)+1)
 |[],i,_,h=>vB|a::l,i,h,hm=>by
  rw[XH,ba];by_cases e:tl a=tl s
  .have:a=s:=XG (h a ag) j e;subst this;simp[ix]
  .have d:¬s=a:=λq=>e (by rw[q]);have m:ix s (a::l)=ix s l+1:=by
    show(if a.toList=s.toList then 0 else ix s l+1)=_;rw[if_neg<|λq=>d (toList_inj q).symm]
   rw[if_neg e,XI j l (i+1) (λb hb=>h b<|jh _ hb)<|(List.mem_cons.1 hm).resolve_left d,m];congr 2;omega
def PS{s:BA}(d:Ve s):∀l i,(∀a∈l,Ve a)->¬s∈l->ba (tl s) (XH i l)=ka
 |[],i,_,_=>rfl|a::l,i,h,hm=>by
  rw[XH,ba];have e:¬tl a=tl s:=λq=>hm<|List.mem_cons.2<|qj (XG (h a ag) d q).symm;rw[if_neg e];exact PS d l (i+1) (λb hb=>h b<|jh _ hb)<|λq=>hm<|jh _ q
structure NM w kb fb cb mb(ns:List BA):Prop where
 bk:Bx w kb #[Mv mb]
 bf:Bx w fb #[.func (.func 71) #[] #[Pv cb]]
 bc:Bx w cb #[Nv ns.length]
 mp:MS xo w mb (XH 0 ns)
 qo:∀a∈ns,Ve a
 nd:ns.Nodup
 d1:cb≠kb/\cb≠fb/\cb≠mb/\mb≠kb/\mb≠fb
abbrev nmV(kb fb:Nat):fa:=.func (.func 258) #[] #[Pv kb,Pv fb]
def Two cb mb(b:Nat):=b=cb\/b=mb
def NM.fr{S}{w w'}{kb fb cb mb}{ns}(h:NM w kb fb cb mb ns)(d:Fr S w w')(j:∀b,S b->b≠kb/\b≠fb/\b≠cb/\b≠mb):NM w' kb fb cb mb ns:=
 ⟨h.bk.fr d<|λq=>(j _ q).1 rfl,h.bf.fr d<|λq=>(j _ q).2.1 rfl,h.bc.fr d<|λq=>(j _ q).2.2.1 rfl,h.mp.same<|d.block mb h.mp.lt<|λq=>(j _ q).2.2.2 rfl,h.qo,h.nd,h.d1⟩
def NM.af{w:ea}(h:NM w kb fb cb mb ns)(d:Bq w w'):NM w' kb fb cb mb ns:=h.fr (S:=λ_=>False) (Fr.of d)<|λ_ q=>q.elim
def NM.set{w}{kb fb cb mb}{ns}(h:NM w kb fb cb mb ns){b}(d:b≠kb/\b≠fb/\b≠cb/\b≠mb)j v:NM (w.setCell ⟨b,j,ka⟩ v) kb fb cb mb ns:=
 h.fr (S:=λx=>x=b) ((Fr.refl (λx=>x=b) w).set (qj rfl) j v) (λx q=>by subst q;exact d)
section
variable {w:ea}
def abC w:(zeroValue 182).run qk w=.ok (Iv 0) w:=qkr
def MN n(hn:n<=2000)(h:Bx w cb #[Nv n]):aa qk 71 #[Pv cb] w λe w'=>e=.returned (Iv<|(n:Int)+1)/\w'=w.setCell ⟨cb,0,ka⟩ (Iv<|(n:Int)+1):=by
 obtain⟨c,f,z⟩:=h;go_wp2
 go_ret;exact⟨rfl,rfl⟩
def MO kb fb cb mb ns s w(e:ga)w':=
 e=.returned (.iface 182<|Iv<|(ix s (pO s ns):Int)+1)/\NM w' kb fb cb mb (pO s ns)/\Fr (Two cb mb) w w'
def Gl(h:NM w kb fb cb mb ns)s(U:Ve s)(X:ns.length<=2000):aa qk 258 #[.string<|tl s,Pv kb,Pv fb] w (MO kb fb cb mb ns s w):=by
 have A:=h.mp.look (KL.str ql) Tryz.underlying389 (abC w) (tl s) trivial (λ_ _=>trivial) la;have⟨c,f,z⟩:=h.bk;have⟨cf,ff,zf⟩:=h.bf;by_cases j:s∈ns
 .rw[XI U ns 0 h.qo j]at A;simp at A;go_wp2
  go_ret;rw[MO];rw[Pr j];exact⟨rfl,h,Fr.refl _ _⟩
 .have Y:=PS U ns 0 h.qo j;rw[Y]at A;simp at A;have d:=h.d1;have hcc:=c 0;have HM:=h.mp.sv d.2.2.1.symm 0<|Iv<|(ns.length:Int)+1;have Z:=ai<|h.bk.bU d.1.symm 0<|Iv<|(ns.length:Int)+1;have BF:=ai<|h.bf.bU d.2.1.symm 0<|Iv<|(ns.length:Int)+1;have BC:=h.bc.aW 0 (Iv<|(ns.length:Int)+1) #[Iv<|(ns.length:Int)+1] rfl ag;have F1:=(Fr.refl (Two cb mb) w).set (b:=cb) (Or.inl<|Or.inl rfl) 0<|Iv<|(ns.length:Int)+1;have⟨c1,m,z1⟩:=uh Z;go_in;go_wp2_with(first|(go_at_call 71;refine(MN ns.length ae h.bc).mono ?_;rintro e w'⟨rfl,rfl⟩)|(refine aV _ rfl _ _ _ _ (Or.inr rfl) (KL.str Tryz.underlying9) Tryz.underlying389 _ _ rfl HM (tl s) (Iv<|(ns.length:Int)+1) rfl rfl trivial (λ_ _=>trivial) ?_;intro w' H' O';have E:=ai H';have O2:=ai O';clear H' O'));go_ret;have e1:=XJ j;have e2:=PV j;rw[MO];rw[e1,e2];have O:=uh O2;refine⟨rfl,⟨Z.one O d.2.2.2.1.symm,BF.one O d.2.2.2.2.symm,?_,?_,?_,?_,d⟩,?_⟩
  .have:=BC.one O d.2.2.1;simpa using this
  .have:=uh E;rw[ot _ _ _ Y]at this;rw[IM];simpa using this
  .intro a J;obtain q|q:=List.mem_append.1 J
   .exact h.qo a q
   .simp at q;subst q;exact U
  .rw[j7];refine⟨h.nd,ag,λa J b hb=>?_⟩;simp at hb;subst hb;intro e;subst e;exact j J
  .have m:=F1;exact⟨O.os.trans m.os,O.tape.trans m.tape,O.output.trans m.output,by rw[O.size];exact m.size,λk hk X=>(O.block k<|λe=>X<|qi e).trans<|m.block k hk X⟩
end
def pn(c:BA):BA:=if c.toList=[62]then⟨#[45,62]⟩else c
def CN c:=c=rG\/c=pq\/p_ c
def jO:pn rG=⟨#[45,62]⟩:=by simp_all[pn]
def jP:pn pq=⟨#[44]⟩:=by simp_all[pn]
def dQ(h:p_ c)x r(hx:Pu.AU x.toNat=na):c.toList≠x::r:=by grind[p_]
def e9(h:p_ c):pn c=c:=by rw[pn];rw[if_neg<|dQ h 62 [] aD]
inductive eh(w:ea)(P:Nat->Prop):Ty->fa->Prop where
 |var(n:Nat):eh w P (.var n) (.iface 182<|Nv n)
 |aM(c:BA)(L:List Ty)(sa:Option Addr)(sc:Nat)(vs:Nat->fa)(hc:CN c)(bK:L=[]\/∃g,sa=ia ⟨g,0,ka⟩/\P g/\g<w.heap.size/\∀i,i<L.length->w.cell? ⟨g,i,ka⟩=ia (vs i))(hr:∀i(h:i<L.length),eh w P L[i]<|vs i):
  eh w P (.aM c L) (.iface 194<|.agg #[.string<|pn c,.slice sa L.length sc])
def PW{p:Prop}(h:p:=by
 induction h with
 |var n=>exact .var n|aM c L sa sc vs hc bK hr ih=>
  refine .aM c L sa sc vs hc ?_ ih;obtain h0|⟨g,h1,hP,hz,hc⟩:=bK
  .exact qj h0
  .refine qi ⟨g,h1,hq g hP hz,qn hz hs,λi hi=>?_⟩;rw[qw (a:=⟨g,i,ka⟩) (w:=w)<|hb g hP hz]
   exact hc i hi):p:=h
theorem eh.move{w:ea}{v:fa}(h:eh w P t v)(hs:w.heap.size<=w'.heap.size)(hb:∀b,P b->b<w.heap.size->w'.heap[b]? =w.heap[b]?)(hq:∀b,P b->b<w.heap.size->Q b):eh w' Q t v:=by
 exact PW
def eh.af{w:ea}{v:fa}(h:eh w P t v)(d:Bq w w'):eh w' P t v:=h.move d.size (λb _ hz=>d.block b hz)<|λ_ p _=>p
def eh.wide{w:ea}{v:fa}(h:eh w P t v)(d:∀b,P b->Q b):eh w Q t v:=h.move (br _) (λ_ _ _=>rfl)<|λb p _=>d b p
def eh.fr{S:Nat->Prop}{w:ea}{v:fa}(h:eh w P t v)(d:Fr S w w')(j:∀b,P b->b<w.heap.size->¬S b):eh w' P t v:=h.move d.size (λb p z=>d.block b z<|j b p z)<|λ_ p _=>p
def eh.low{w:ea}{v:fa}(h:eh w P t v):eh w (λb=>P b/\b<w.heap.size) t v:=h.move (br _) (λ_ _ _=>rfl)<|λ_ p z=>⟨p,z⟩
def eh.iface{w:ea}{v:fa}(h:eh w P t v):∃a x,v=.iface a x:=by
 cases h<;>exact⟨_,_,rfl⟩
def PT.fr{S:Nat->Prop}{w:ea}{nd}{v:fa}(h:PT w P nd v)(d:Fr S w w')(j:∀b,P b->b<w.heap.size->¬S b):PT w' P nd v:=h.move d.size (λb p z=>d.block b z<|j b p z)<|λ_ p _=>p
def PT.dI{w:ea}{a}{v:fa}(h:PT w P a v):∃t x,v=.iface t (.agg x):=by
 cases h<;>exact⟨_,_,rfl⟩
def yX z n:madeCells #[z] n=xf n z:=by
 rw[madeCells];apply Array.ext
 .simp
 .grind
def IP{p:Prop}(h:p:=by
 rw[run_make w t e i z ht hi hz .i64 .i64 n n ae (Int.le_refl _) hb ae,hzc,h1]
 simp[yX]):p:=h
def IQ{p:Prop}(h:p:=by
 have h3:((by_*n:Nat):Int)<=281474976710656:=ae
 rwa[Int.natCast_mul]at h3):p:=h
def jE{P}{t}(ht:P.underlying t=ia (.slice e))(hi:P.info? e=ia i)(hz:i.zero=ia z)(hzc:z.cells=#[z])(h1:i.size=1)(j:i.bytes=by_)(d:by_<=16)n(m:n<=1001)w:
 (Instr.makeSlice t (Nv n)<|Nv n).run P w=.ok (.slice (ia ⟨w.heap.size,0,ka⟩) n n) (w.alloc<|.cells (xf n z) e):=by
 have hb:(i.bytes:Int)*(n:Int)<=281474976710656:=by
  rw[j];have:by_*n<=16*1001:=qt d m;exact IQ
 exact IP
def fY:(Tryz.prog.info? 105).map (λi=>(i.zero,i.size,i.bytes))=ia (ia .nilIface,1,16):=qkr
def eH:Tryz.prog.underlying 192=ia (.slice 105):=qkr
def sI kb fb cb mb(ns:List BA)T ns' w(e:ga)w':=
 ∃u,e=.returned u/\eh w' (λb=>w.heap.size<=b) T u/\NM w' kb fb cb mb ns'/\Fr (Two cb mb) w w'
def OfC nd:=∀(w:ea)(kb fb cb mb:Nat)(ns:List BA)(Q:Nat->Prop)(v:fa),NM w kb fb cb mb ns->PT w Q nd v->(∀b,Q b->b≠cb/\b≠mb)->(bm ns nd).2.length<=2000->
 aa qk 241 #[v,nmV kb fb] w (sI kb fb cb mb ns (bm ns nd).1 (bm ns nd).2 w)
def NM.lt{w}{kb fb cb mb}{ns}(h:NM w kb fb cb mb ns):kb<w.heap.size/\fb<w.heap.size/\cb<w.heap.size/\mb<w.heap.size:=⟨h.bk.z,h.bf.z,h.bc.z,h.mp.lt⟩
def IR ns:∀(L:List Nd)(i:Nat)(h:i<L.length),(aJ ns<|L.take<|i+1).1=(aJ ns<|L.take i).1++[(bm (aJ ns<|L.take i).2 L[i]).1]/\(aJ ns<|L.take<|i+1).2=(bm (aJ ns<|L.take i).2 L[i]).2:=by
 intro L
 induction L generalizing ns with
 |nil=>intro i h;simp at h|cons x l ih=>
  intro i h
  cases i with
  |zero=>simp[aJ]|succ i=>
   have:=ih (bm ns x).2 i uY;simp only[ji,aJ,this,jk];simp
def abD kb fb cb mb ns(L:List Nd)w gk v wr:=
 ∃(j:Nat)(C:Array fa),Hid (gk=L.length-j)/\j<=L.length/\v=Nv j/\NM wr kb fb cb mb (aJ ns<|L.take j).2/\Fr (Two cb mb) w wr/\Bx wr w.heap.size C/\Hid (C.size=L.length)/\
  Hid (∀i(h:i<(aJ ns<|L.take j).1.length),∃u,C[i]? =ia u/\eh wr (λb=>w.heap.size<b/\b<wr.heap.size) (aJ ns<|L.take j).1[i] u)
section
variable {w:ea}
def yY ns:∀(L:List Nd),(aJ ns L).1.length=L.length:=by
 intro L
 induction L generalizing ns with
 |nil=>rfl|cons x l ih=>simp[aJ,ih]
def Be ns L i:(aJ ns<|L.take i).2.length<=(aJ ns L).2.length:=by
 induction L generalizing ns i with
 |nil=>simp|cons x l ih=>
  cases i with
  |zero=>simp only[List.take_zero];exact uA (x::l) ns|succ i=>simp only[ji,aJ];exact ih _ i
def yZ{p:Prop}(h:p:=by
 obtain h0|h0:=bK
 .subst h0;simp at bY
 .exact h0):p:=h
def IU c(r0:CN c)L sa sc(vs:Nat->fa)(hL:L.length<=1001)(h:NM w kb fb cb mb ns)(hQ:∀b,Q b->b≠cb/\b≠mb)(bK:L=[]\/∃g,sa=ia ⟨g,0,ka⟩/\Q g/\g<w.heap.size/\∀i,i<L.length->w.cell? ⟨g,i,ka⟩=ia (vs i))(hr:∀i(h:i<L.length),PT w Q L[i]<|vs i)(IH:∀i(h:i<L.length),OfC L[i])(hn:(aJ ns L).2.length<=2000):
 aa qk 259 #[.string<|pn c,nmV kb fb,.slice sa L.length sc] w (sI kb fb cb mb ns (.aM c (aJ ns L).1) (aJ ns L).2 w):=by
 obtain⟨i0,c0,d0,e0,f0⟩:=info_parts fY;have hmk:=jE (by_:=16) eH c0 d0 rfl e0 f0 aD L.length hL;have hlt:=h.lt;go_wp2
 go_loopg[15] L.length (λgk v wr=>abD kb fb cb mb ns L w gk v wr)
 case atStart=>
  refine⟨0,xf L.length .nilIface,ai ag,qr _,rfl,?_,Fr.of<|bw _,Bx.new w _ _,ai ag,ai<|λi hi=>absurd hi<|by simp[aJ]⟩;simpa[aJ]using h.af (bw _)
 case round=>
  obtain⟨j,C,g0,hj,rfl,N1,X,Y,hC,hT⟩:=hrel;have zw:=X.size;have n1:=N1.lt;by_cases bY:j<L.length
  .have hd:=kK bY;obtain⟨g,rfl,hg,j0,A⟩:∃g,sa=ia ⟨g,0,ka⟩/\Q g/\g<w.heap.size/\∀i,i<L.length->w.cell? ⟨g,i,ka⟩=ia (vs i):=by
    exact yZ
   have Z:=hQ g hg;have cg:wr.cell? ⟨g,j,ka⟩=ia (vs j):=by
    rw[qw (a:=⟨g,j,ka⟩) (w:=w)<|X.block g j0 (λq=>by obtain q|q:=q;exact Z.1 q;exact Z.2 q)];exact A j bY
   have PJ:=(hr j bY).fr X (λb p _ q=>by obtain q|q:=q;exact(hQ b p).1 q;exact(hQ b p).2 q);obtain⟨tv,xv,hv⟩:=PJ.dI;obtain⟨E,a0⟩:=IR ns L j bY;have k0:(bm (aJ ns<|L.take j).2 L[j]).2.length<=2000:=by rw[<-a0];exact qm (Be ns L<|j+1) hn
   have HC:=IH j bY wr kb fb cb mb _ Q (vs j) N1 PJ hQ k0;rw[hv]at cg HC;go_wp2_with fail;refine HC.mono ?_;rintro e w1⟨u,rfl,HU,l0,HF⟩;obtain⟨O,U,rfl⟩:=HU.iface;have n0:¬Two cb mb w.heap.size:=λq=>by obtain q|q:=q<;>omega
   have B2:=Y.fr HF n0;have J:j<C.size:=qBh;have cj:=(B2.c j).trans<|xh J;have fj:=B2.f j;have B3:=B2.aW j (.iface O U) (C.setIfInBounds j<|.iface O U) rfl J;have o0:=X.trans HF;have z2:=HF.size
   go_wp2
   go_roundg(L.length-(j+1))
   case measure=>rw[uh g0];omega
   case rel=>
    have m:(aJ ns<|L.take j).1.length=j:=by rw[yY];simp;omega
    refine⟨j+1,C.setIfInBounds j<|.iface O U,ai rfl,ae,iF,?_,?_,B3,ai (by simp;exact hC),ai<|λi hi=>?_⟩
    .rw[a0];exact l0.set ae j _
    .exact o0.set (qi<|br _) j _
    .have b0:∀b,w.heap.size<b->b<w1.heap.size->(w1.setCell ⟨w.heap.size,j,ka⟩<|.iface O U).heap[b]? =w1.heap[b]? :=λb hb _=>xm _ _ _ _ (by show b≠w.heap.size;omega);have hss:(w1.setCell ⟨w.heap.size,j,ka⟩<|.iface O U).heap.size=w1.heap.size:=BL;have hi':i<j+1:=by rw[E]at hi;simp[m]at hi;omega
     by_cases e:i=j
     .subst e;refine⟨.iface O U,by simp[J],?_⟩;have e1:(aJ ns<|L.take<|i+1).1[i]'hi=(bm (aJ ns<|L.take i).2 L[i]).1:=by
       have:(aJ ns<|L.take<|i+1).1[i]? =ia (bm (aJ ns<|L.take i).2 L[i]).1:=by rw[E,List.getElem?_append_right ae];simp[m]
       rw[ja hi]at this;exact Option.some.inj this
      rw[e1];refine HU.low.move ae (λb p z=>b0 b (by have:wr.heap.size<=b:=p.1;have:=Y.z;omega) z) (λb p z=>⟨by have:wr.heap.size<=b:=p.1;have:=Y.z;omega,ae⟩)
     .have d:i<(aJ ns<|L.take j).1.length:=ae;obtain⟨u',p0,q0⟩:=uh hT i d;have e1:(aJ ns<|L.take<|j+1).1[i]'hi=(aJ ns<|L.take j).1[i]'d:=by
       have:(aJ ns<|L.take<|j+1).1[i]? =ia ((aJ ns<|L.take j).1[i]'d):=by rw[E,List.getElem?_append_left d,ja d]
       rw[ja hi]at this;exact Option.some.inj this
      refine⟨u',by rw[xg ae];exact p0,?_⟩;rw[e1];have h3:=q0.fr HF (λb p _ q=>by obtain q|q:=q<;>omega);exact h3.move ae (λb p z=>b0 b p.1 z)<|λb p z=>⟨p.1,ae⟩
  .have hd:=nN bY;have A:j=L.length:=ae;subst A
   go_wp2
   go_ret;refine⟨_,rfl,?_,?_,X⟩
   .have E:L.take L.length=L:=jc;rw[E]at hT;have d:=yY ns L;rw[<-d];refine .aM c _ _ _ (λi=>C.getD i .nilIface) r0 (qi ⟨w.heap.size,rfl,br _,Y.z,λi hi=>?_⟩)<|λi hi=>?_
    .obtain⟨u,hu,_⟩:=uh hT i hi;rw[Y.c i,hu];simp[xj,hu]
    .obtain⟨u,hu,m⟩:=uh hT i hi;have:C.getD i .nilIface=u:=qBm;rw[this];exact m.wide λb p=>qAu
   .rw[jc]at N1;exact N1
end
def sI.up{ns'}{w:ea}{e}(h:sI kb fb cb mb ns T ns' w0 e w')(d:Bq w w0):sI kb fb cb mb ns T ns' w e w':=by
 obtain⟨u,j,m,A,E⟩:=h;exact⟨u,j,m.wide λb p=>qm d.size p,A,(Fr.of d).trans E⟩
section
variable {w:ea}
def LZ s n f t a:OfC (.mk 16 s n [] f t a):=by
 intro w kb fb cb mb ns Q v h A hQ m;have e:bm ns (.mk 16 s n [] f t a)=(.var<|ix s (pO s ns)+1,pO s ns):=by simp[bm]
 rw[e]at m⊢;have j:ns.length<=2000:=by have:=IV s ns;simp at m;omega
 cases A with
 |var s n f t a x y hq hx hy=>
 clear hx hy;have d:Bq w (w.alloc<|Cv #[Iv x,Iv y,Sv<|s.extract 1 s.size] 191):=bw _;have E:=Gl (h.af d) s hq j;go_in;go_wp;refine E.mono ?_;rintro e w1⟨rfl,J,O⟩
 go_wp2
 go_ret;exact⟨_,rfl,.var _,J,(Fr.of d).trans O⟩
def PX{p:Prop}(h:p:=by
 go_in;go_wp;refine HC.mono ?_;intro e w1 hp;have hp2:=hp.up MP;obtain⟨u,rfl,_⟩:=hp
 go_wp2
 go_ret
 exact hp2):p:=h
def XK{k T}{cn}(J:k=17/\T=228/\cn=rG\/k=6/\T=231/\cn=pq)s n x y f t a(hx:OfC x)(hy:OfC y):OfC (.mk k s n [x,y] f t a):=by
 intro w kb fb cb mb ns Q v h hp hQ Y;have e:bm ns (.mk k s n [x,y] f t a)=(.aM cn (aJ ns [x,y]).1,(aJ ns [x,y]).2):=by obtain⟨rfl,rfl,rfl⟩|⟨rfl,rfl,rfl⟩:=J<;>simp[bm,pP]
 rw[e]at Y⊢;obtain⟨A,E,O,U,Z,hb,rfl⟩:∃A E O U,PT w Q x O/\PT w Q y U/\v=Fv T (Av #[Iv A,Iv E,O,U]):=by obtain⟨rfl,rfl,rfl⟩|⟨rfl,rfl,rfl⟩:=J<;>(cases hp;exact⟨_,_,_,_,qas,qas,rfl⟩)
 obtain⟨ta,j,rfl⟩:=Z.dI;obtain⟨tb,m,rfl⟩:=hb.dI;have hlt:=h.lt;have MP:Bq w ((w.alloc<|Cv #[Iv A,Iv E,Fv ta<|Av j,Fv tb<|Av m] T).alloc<|Cv #[Fv ta<|Av j,Fv tb<|Av m] 155):=(bw _).alloc ag _;have BR:=(Bx.new (w.alloc<|Cv #[Iv A,Iv E,Fv ta<|Av j,Fv tb<|Av m] T) #[Fv ta<|Av j,Fv tb<|Av m] 155);have X:(w.alloc<|Cv #[Iv A,Iv E,Fv ta<|Av j,Fv tb<|Av m] T).heap.size=w.heap.size+1:=ag;rw[X]at BR
 have HC:=ai (IU (Q:=λb=>Q b\/b=w.heap.size+1) cn (by obtain⟨-,-,rfl⟩|⟨-,-,rfl⟩:=J;exact qj rfl;exact qi<|qj rfl) [x,y] (ia ⟨w.heap.size+1,0,ka⟩) 2 (λi=>if i=0 then Fv ta (Av j)else Fv tb (Av m)) ag (h.af MP) (λb q=>by obtain q|q:=q;exact hQ b q;omega)
  (qi ⟨w.heap.size+1,rfl,qi rfl,ag,λi hi=>by
   have d:i=0\/i=1:=LY;rw[BR.c i]
   obtain rfl|rfl:=d<;>rfl⟩)
  (λi hi=>by
   have d:i=0\/i=1:=LY;obtain rfl|rfl:=d
   .exact(Z.af MP).wide λb p=>qj p
   .exact(hb.af MP).wide λb p=>qj p)
  (λi hi=>by
   have d:i=0\/i=1:=LY;obtain rfl|rfl:=d
   .exact hx
   .exact hy) Y)
 obtain⟨rfl,rfl,rfl⟩|⟨rfl,rfl,rfl⟩:=J;all_goals
  first|rw[jO]at HC|rw[jP]at HC
  exact PX
def agW s n L f t a(O:L.length<=1001)(U:∀i(h:i<L.length),OfC L[i]):OfC (.mk 2 s n L f t a):=by
 intro w kb fb cb mb ns Q v h hp j d;have e:bm ns (.mk 2 s n L f t a)=(.aM s (aJ ns L).1,(aJ ns L).2):=by simp[bm,pP]
 rw[e]at d⊢
 cases hp with
 |up s n L f t at_ x y x' y' sa sc vs hu bK hr hx hy=>
 clear hx hy;have MP:Bq w (w.alloc<|Cv #[Iv x,Iv y,Iv x',Iv y',Sv s,Lv sa L.length sc] 230):=bw _
 have HC:=ai (IU (Q:=Q) s (qi<|qi hu) L sa sc vs O (h.af MP) j
  (bK.imp id λq=>by
   obtain⟨g,m,A,E,J⟩:=q
   exact⟨g,m,A,bQ,λi hi=>(qw (a:=⟨g,i,ka⟩)<|MP.block g E).trans<|J i hi⟩)
  (λi hi=>(hr i hi).af MP) U d)
 rw[e9 hu]at HC;clear bK hr;exact PX
def agq nd(h:ys nd):OfC nd:=by
 induction h with
 |var s n f t a=>exact LZ s n f t a|two k s n x y f t a hk hx hy bu cW=>
  obtain rfl|rfl:=hk
  .exact XK (qj ⟨rfl,rfl,rfl⟩) s n x y f t a bu cW
  .exact XK (qi ⟨rfl,rfl,rfl⟩) s n x y f t a bu cW
 |up s n L f t a hw hl hL ih=>exact agW s n L f t a hl ih
end
section
variable {w:ea}
def Du:aa qk 46 #[] w λe w'=>e=.returned (.func (.func 71) #[] #[Pv w.heap.size])/\w'=w.alloc (.cells #[Iv 0] 3):=by
 go_wp2
 go_ret;exact⟨rfl,rfl⟩
def aaX cb(j:Bx w cb #[Iv 0]):aa qk 240 #[.func (.func 71) #[] #[Pv cb]] w λe w'=>∃kb fb mb,e=.returned (nmV kb fb)/\NM w' kb fb cb mb []/\Bq w w'/\w.heap.size<=mb:=by
 have z:=j.z;have m:=ai j;go_wp2
 go_ret;have d:=(((xn w.heap.size w).alloc (br _)<|Cv #[.func (.func 71) #[] #[Pv cb]] 138).alloc ag<|.map #[] 0).alloc bQ<|Cv #[Mv<|w.heap.size+1] 389;refine⟨w.heap.size+1+1,w.heap.size,w.heap.size+1,rfl,⟨?_,?_,?_,?_,ag,ag,ae⟩,d,ae⟩
 .have:=Bx.new ((w.alloc<|Cv #[.func (.func 71) #[] #[Pv cb]] 138).alloc<|.map #[] 0) #[Mv<|w.heap.size+1] 389;simpa using this
 .exact((Bx.new w _ _).alloc _).alloc _
 .exact((m.alloc _).alloc _).alloc _
 .have:=(MS.new Sv<|w.alloc<|Cv #[.func (.func 71) #[] #[Pv cb]] 138).below<|bw<|Cv #[Mv<|w.heap.size+1] 389;simpa[XH]using this
end
structure PN(w:ea)B pb bv l last mv:Prop where
 bk:∃ad,w.heap[pb]? =ia (.cells #[ad,bv,.string last,mv] 83 (0,0))/\(ad=.pointer ka\/ad=Pv pb)
 ow:w.ownsRow B 5 1 bv l.length (v8 l)
 nl:l=[]->bv=.slice ka 0 0
 hb:B<=w.heap.size
def SP pb(bv:fa)b:=b=pb\/bv.ownBlock=ia b
def Vk(w:ea)b:=∀x,w.cell? ⟨b,0,ka⟩=ia x->∀c,x≠.int .u8 c
def PN.agX{w:ea}{l:List UInt8}(h:PN w B pb bv l last mv){q}(d:bv.ownBlock=ia q):∃c,w.cell? ⟨q,0,ka⟩=ia (.int .u8 c):=by
 cases l with
 |nil=>rw[h.nl rfl]at d;simp[xq]at d|cons x r=>
  have⟨_,A⟩:=h.ow;obtain⟨h3,_⟩|⟨g,cap,j,E,_,J,_,_,_,O⟩:=A
  .grind
  .rw[E]at d;simp[xq]at d;subst d;refine⟨x.toNat,?_⟩;simp only[qx,J];have m:(j.toList.take<|(x::r).length*1)[0]? =ia (.int .u8 x.toNat):=by rw[O];simp[v8]
   rw[jy ag]at m;simpa using m
def PN.ne{w:ea}{l:List UInt8}(h:PN w B pb bv l last mv){b:Nat}(d:Vk w b):bv.ownBlock≠ia b:=λe=>by
 have⟨c,hc⟩:=h.agX e;exact d _ hc c rfl
def PN.lt{w:ea}{l:List UInt8}(h:PN w B pb bv l last mv):pb<w.heap.size:=by
 have⟨ad,d,_⟩:=h.bk;exact(Array.getElem?_eq_some_iff.1 d).1
def PN.pbN{w:ea}{l:List UInt8}(h:PN w B pb bv l last mv):Vk w pb:=λx hx c e=>by
 have⟨ad,d,j⟩:=h.bk;simp[qx,d]at hx;subst hx;obtain rfl|rfl:=j<;>cases e
def PN.same{w:ea}{l:List UInt8}(h:PN w B pb bv l last mv)(hs:w.heap.size<=w'.heap.size)(J:∀b,b<w.heap.size->SP pb bv b->w'.heap[b]? =w.heap[b]?):PN w' B pb bv l last mv:=by
 have⟨O,U,X⟩:=h.bk;refine⟨⟨O,(J pb h.lt<|qj rfl).trans U,X⟩,?_,h.nl,qm h.hb hs⟩;have⟨Y,d⟩:=h.ow;refine⟨Y,?_⟩;obtain d|⟨g,j,m,A,Z,E,r⟩:=d
 .exact qj d
 .refine qi ⟨g,j,m,A,Z,?_,r⟩;rw[J g (Array.getElem?_eq_some_iff.1 E).1<|qi (by rw[A];rfl),E]
def PN.af{w:ea}{l:List UInt8}(h:PN w B pb bv l last mv)(d:Bq w w'):PN w' B pb bv l last mv:=h.same d.size λb z _=>d.block b z
def Vk.same{w:ea}{b:Nat}(h:Vk w b)(d:w'.heap[b]? =w.heap[b]?):Vk w' b:=λx hx=>h x (by rw[<-qw (a:=⟨b,0,ka⟩) (w:=w) d];exact hx)
section
variable {w:ea} {l:List UInt8}
def dR{w:ea}{b:Nat}{t}{fz}(h:w.heap[b]? =ia (.cells C t fz))j v:(w.setCell ⟨b,j,ka⟩ v).heap[b]? =ia (.cells (C.setIfInBounds j v) t fz):=by
 have hlt:=(Array.getElem?_eq_some_iff.1 h).1;simp[qy,Array.getElem?_modify,h]
def One.cell w b j v:One b w (w.setCell ⟨b,j,ka⟩ v):=⟨rfl,rfl,rfl,BL,λk hk=>xm _ _ _ _ hk⟩
def El{w}{c}{size}{v:fa}(h:w.ownsRow base e size v n xs)(o:One c w w')(A:v.ownBlock≠ia c):w'.ownsRow base e size v n xs:=by
 obtain⟨J,d⟩:=h;refine⟨J,?_⟩;obtain d|⟨g,j,m,E,O,U,r⟩:=d
 .exact qj d
 .refine qi ⟨g,j,m,E,O,?_,r⟩;rw[o.block g<|λe=>A (by rw[E,<-e];rfl),U]
def CA{d:ea}{pb}{o}(m:W.grownBy d row)(j:W.heap[pb]? =ia o)(A:row≠ia pb):d.heap[pb]? =ia o:=(m.block pb (Array.getElem?_eq_some_iff.1 j).1<|λe=>A e.symm).trans j
def y8{w:ea}{size}{v:fa}(h:w.ownsRow base e size v n xs):∃ao n' cap,v=.slice ao n' cap:=by
 obtain⟨d,_⟩|⟨g,cap,Wy,d,_⟩:=h.2
 .grind
 .grind
def IW:(Tryz.prog.info? 80).map (λi=>i.size)=ia 2:=qkr
def abE:liesAt qk Tryz.prog.depth 83 (4/Tryz.prog.cellsOf 83) 0 80 1=la:=qkr
def agY p w:(callFunc 156 #[p]).run qk w=.ok (.value p) w:=qkr
def IX:(Tryz.prog.info? 5).map (λi=>(i.zero,i.size,i.bytes))=ia (ia<|.int .u8 0,1,1):=qkr
def vZ:Tryz.prog.underlying 78=ia (.slice 5):=qkr
def v_ ad(E:ad=.pointer ka\/ad=Pv pb)x1 x2 x3(h:w.heap[pb]? =ia (.cells #[ad,x1,x2,x3] 83 (0,0))):
 aa qk 128 #[Pv pb] w λe w'=>e=.returned (.tuple #[])/\w'.heap[pb]? =ia (.cells #[Pv pb,x1,x2,x3] 83 (0,0))/\One pb w w':=by
 have⟨j,m,hjs⟩:=Option.map_eq_some_iff.1 IW;have c0:w.cell? ⟨pb,0,ka⟩=ia ad:=by simp[qx,h]
 have f0:w.frozen? ⟨pb,0,ka⟩=na:=by simp[q9,h]
 have d:w.shape? pb=ia (83,4):=by simp[World.shape?,h]
 obtain rfl|rfl:=E
 .have hn:=agY;have ht:=Lib.run_to_unsafe (P:=Tryz.prog) w ⟨pb,0,ka⟩ Tryz.underlying77 Tryz.underlying274 m ae d (by show 0<4;decide);have hf:=Lib.run_from_unsafe (P:=Tryz.prog) w ⟨pb,0,ka⟩ Tryz.underlying274 Tryz.underlying77 m d abE;have A:∀W:ea,(binOp .neq 77 (Pv pb)<|Pv pb).run Tryz.prog W=.ok (.bool na) W:=λW=>Lib.run_neq_ptr_same W _ Tryz.underlying77 m;go_wp2
  go_end0;exact⟨rfl,(dR h 0 _).trans ag,One.cell _ _ _ _⟩
 .have A:∀W:ea,(binOp .neq 77 (Pv pb)<|Pv pb).run Tryz.prog W=.ok (.bool na) W:=λW=>Lib.run_neq_ptr_same W _ Tryz.underlying77 m;go_wp2
  go_end0;exact⟨rfl,h,⟨rfl,rfl,rfl,rfl,λ_ _=>rfl⟩⟩
def PY{p:Prop}(h:p:=by
 rw[e1,e2];refine⟨g1,?_⟩;obtain g2|⟨g,aeN,Wy,hv,hg,hh,r⟩:=g2
 .exact qj g2
 .refine qi ⟨g,aeN,Wy,hv,hg,?_,r⟩
  rw[xm _ _ _ _ (by show g≠pb;intro e;exact hnp (by rw[hv,e];rfl)),hh]):p:=h
def PZ{p:Prop}(h:p:=by
 obtain⟨hv,_⟩|⟨g,aeN,Wy,hv,_,hh,_⟩:=P6.2
 .rw[hv]at e;simp[xq]at e
 .rw[hv]at e;simp[xq]at e;subst e;rw[uh HB2]at hh
  simp at hh):p:=h
def wa(h:PN w B pb bv l last mv)c(hl:l.length<=10000000):aa qk 68 #[Pv pb,.int .u8 (c.toNat:Int)] w λe w'=>e=.returned .nilIface/\∃bv',PN w' B pb bv' (l++[c]) last mv/\Fr (SP pb bv) w w':=by
 obtain⟨i0,e0,f0,g0,h0⟩:=info_parts IX;have Y:=h.ne h.pbN;have hlt:=h.lt;have hBw:=h.hb;obtain⟨ad,Z,j0⟩:=h.bk;have k0:=ai h.ow;go_in;go_wp2_with(first|(go_at_call 128;refine(v_ ad j0 _ _ _ Z).mono ?_;rintro e w1⟨rfl,A,o1⟩;have c0:w1.cell? ⟨pb,0,ka⟩=ia (Pv pb):=(by simp[World.cell?,A]);have c1:w1.cell? ⟨pb,1,ka⟩=ia bv:=(by simp[World.cell?,A]);have O1:=ai o1;have l0:=ai A;have j:=ai o1.size;have E:=ai<|El k0 o1 Y;clear o1 A Z)|(at_builtin;go_must(refine wpList_append_own_at _ rfl (.tmp 11) (.tmp 13) 78 rfl B 5 i0 _ 1 1 vZ e0 f0 g0 h0 rfl aD bv l.length _ rfl (E.alloc _) ⟨w1.heap.size,0,ka⟩ 1 1 [.int .u8 (c.toNat:Int)] rfl rfl (n9 _ _ _ _ ag) qAn VM ae (by have:=uh j;simp;omega) ?_;intro v2 w2 d J O U;have m:=CA J ((Below.heap_alloc _ _ _ (by have:=uh j;omega)).trans l0) Y;have d0:w2.cell? ⟨pb,0,ka⟩=ia (Pv pb):=(by simp[World.cell?,m]);have d1:w2.cell? ⟨pb,1,ka⟩=ia bv:=(by simp[World.cell?,m]);have f1:w2.frozen? ⟨pb,1,ka⟩=na:=(by simp[World.frozen?,m]);obtain⟨ao,n',a0,n0⟩:=y8 d;subst n0;have HB2:=ai m;clear m;have P6:=ai d;have b0:=ai J;clear d J O U)));go_ret;have hnp:(Value.slice ao n' a0).ownBlock≠ia pb:=λe=>by
  exact PZ
 refine⟨rfl,.slice ao n' a0,⟨⟨_,(dR HB2 1 _).trans ag,qi rfl⟩,?_,?_,?_⟩,?_⟩
 .have X:=uh P6;obtain⟨g1,g2⟩:=X;have e1:v8 (l++[c])=v8 l++[.int .u8 (c.toNat:Int)]:=by simp[v8]
  have e2:(l++[c]).length=l.length+1:=ag;exact PY
 .intro q;simp at q
 .have:=b0.size;have:=uh j;simp[qy]at*;omega
 .have X:=uh O1;have hG:=uh b0;refine⟨(hG.os).trans X.os,hG.tape.trans X.tape,hG.output.trans X.output,by simp[qy];have:=hG.size;have:=uh j;simp at*;omega,λk hk hn=>?_⟩;rw[xm _ _ _ _ (by show k≠pb;intro e;exact hn<|qj e),hG.block k (by have:=uh j;simp;omega)<|λe=>hn<|qi e.symm,Below.heap_alloc _ _ _ (by have:=uh j;omega)];exact X.block k<|λe=>hn<|qj e
def qG(h:PN w B pb bv l last mv)s(hs:s.size<=100000)(hl:l.length<=10000000):aa qk 124 #[Pv pb,.string s] w λe w'=>e=.returned (.tuple #[Nv s.size,.nilIface])/\∃bv',PN w' B pb bv' (l++s.data.toList) last mv/\Fr (SP pb bv) w w':=by
 obtain⟨i0,b0,e0,f0,g0⟩:=info_parts IX;have X:=h.ne h.pbN;have hlt:=h.lt;have hBw:=h.hb;obtain⟨ad,Y,h0⟩:=h.bk;have j0:=ai h.ow;have k0:=ai h.nl;go_in;go_wp2_with(first|(go_at_call 128;refine(v_ ad h0 _ _ _ Y).mono ?_;rintro e w1⟨rfl,A,o1⟩;have c0:w1.cell? ⟨pb,0,ka⟩=ia (Pv pb):=(by simp[World.cell?,A]);have c1:w1.cell? ⟨pb,1,ka⟩=ia bv:=(by simp[World.cell?,A]);have O1:=ai o1;have l0:=ai A;have E:=ai o1.size;have J:=ai<|El j0 o1 X;clear o1 A Y)|(at_builtin;go_must(refine Lib.wpList_append_own_string _ rfl (.tmp 12) (.tmp 13) 78 9 rfl B 5 i0 vZ Tryz.underlying9 b0 e0 f0 g0 bv l.length _ rfl J s rfl VM ae (by have:=uh E;omega) ?_;intro v2 w2 d O j;have m:=CA O l0 X;have d0:w2.cell? ⟨pb,0,ka⟩=ia (Pv pb):=(by simp[World.cell?,m]);have d1:w2.cell? ⟨pb,1,ka⟩=ia bv:=(by simp[World.cell?,m]);have f1:w2.frozen? ⟨pb,1,ka⟩=na:=(by simp[World.frozen?,m]);obtain⟨ao,n',Z,n0⟩:=y8 d;subst n0;have HB2:=ai m;clear m;have P6:=ai d;have a0:=ai O;have o0:=ai j;clear d O j)));go_ret2;have hnp:(Value.slice ao n' Z).ownBlock≠ia pb:=λe=>by
  exact PZ
 refine⟨rfl,.slice ao n' Z,⟨⟨_,(dR HB2 1 _).trans ag,qi rfl⟩,?_,?_,?_⟩,?_⟩
 .have U:=uh P6;obtain⟨g1,g2⟩:=U;have e1:v8 (l++s.data.toList)=v8 l++Lib.strCells s:=by simp[v8,Lib.strCells]
  have e2:(l++s.data.toList).length=l.length+s.size:=ag;exact PY
 .intro q;have q':l=[]/\s.data.toList=[]:=by simpa using q
  exact o0.2 ⟨k0 q'.1,by have:=congrArg qg q'.2;simpa using this⟩
 .have:=a0.size;have:=uh E;simp[qy]at*;omega
 .have U:=uh O1;have hG:=uh a0;refine⟨(hG.os).trans U.os,hG.tape.trans U.tape,hG.output.trans U.output,by simp[qy];have:=hG.size;have:=uh E;omega,λk hk hn=>?_⟩;rw[xm _ _ _ _ (by show k≠pb;intro e;exact hn<|qj e),hG.block k (by have:=uh E;omega)<|λe=>hn<|qi e.symm];exact U.block k<|λe=>hn<|qj e
def IY(h:PN w B pb bv l last mv)(Y:l≠[]):aa qk 28 #[Pv pb] w λe w'=>e=.returned (.string<|bs l)/\Fr (SP pb bv) w w':=by
 have J:l.length≠0:=by simpa using Y
 have⟨ad,O,_⟩:=h.bk;have A:=h.ow;obtain⟨g,d,m,rfl,hbg,Z,hnc,U,hcs,agZ⟩:∃g d m,bv=Lv (ia ⟨g,0,ka⟩) l.length d/\B<=g/\w.heap[g]? =ia (Cv m 5 (0,0))/\l.length<=d/\d<=maxLen/\m.size=d*1/\m.toList.take (l.length*1)=v8 l:=by
  obtain⟨_,E⟩|⟨g,d,m,X,r⟩:=A.2
  .exact absurd E J
  .exact⟨g,d,m,X,r⟩
 have c1:w.cell? ⟨pb,1,ka⟩=ia (Lv (ia ⟨g,0,ka⟩) l.length d):=by simp[qx,O]
 have hSD:∀W:ea,(Builtin.unsafeSliceData_ #[78] 131 #[Lv (ia ⟨g,0,ka⟩) l.length d]).run qk W=.ok (Pv g) W:=λW=>Lib.run_unsafeSliceData_row W _ _ _ _ _ ae;have hUS:(Builtin.unsafeString_ #[131,3] 9 #[Pv g,Nv l.length]).run qk w.drew=.ok (Sv ⟨l.toArray⟩) (w.drew.freeze ⟨g,0,ka⟩ l.length):=by
  refine Lib.run_unsafeString_row w.drew _ _ _ 5 Tryz.underlying131 qkr g m.size (by have E:w.drew.heap[g]? =ia (Cv m 5 (0,0)):=Z;simp[World.shape?,E]) l Y ae (by rw[maxLen]at U;omega) ?_;intro j x E;exact A.cells (g:=g) rfl j (.int .u8 x.toNat) (by simp[v8,E])
 have HF:Fr (SP pb<|Lv (ia ⟨g,0,ka⟩) l.length d) w (w.drew.freeze ⟨g,0,ka⟩ l.length):=(by
  have E:=Lib.below_freeze (B:=g) (xn g w.drew) (p:=⟨g,0,ka⟩) (br _) l.length;refine⟨E.os,E.tape,E.output,E.size,λk hk hn=>?_⟩;have X:k≠g:=λe=>hn (qi (by rw[e];rfl));simp[World.freeze];rw[if_neg Y];simp only[Array.getElem?_modify,if_neg<|ku X]
  rfl)
 go_wp2
 go_region
 all_goals(
  go_wp2
  go_ret
  exact⟨rfl,HF⟩)
end
def spB(last t:BA):Bool:= !(t.toList==[41])&& !(t.toList==[44])&& !(t.toList==[59])&& !(last.toList==[])&& !(last.toList==[40])
structure FN B pb(w w':ea):Prop where
 os:w'.os=w.os
 tape:w'.tape=w.tape
 output:w'.output=w.output
 size:w.heap.size<=w'.heap.size
 block:∀k,k<w.heap.size->k≠pb->(k<B\/Vk w k)->w'.heap[k]? =w.heap[k]?
def FN.refl(B pb:Nat)(w:ea):FN B pb w w:=⟨rfl,rfl,rfl,br _,λ_ _ _ _=>rfl⟩
def FN.trans{B pb}{a b c}(h:FN B pb a b)(k:FN B pb b c):FN B pb a c:=
 ⟨k.os.trans h.os,k.tape.trans h.tape,k.output.trans h.output,qm h.size k.size,λi hi hp hn=>by
  have e:=h.block i hi hp hn
  refine(k.block i (qn hi h.size) hp<|hn.imp id λq=>q.same e).trans e⟩
def FN.of{w:ea}(h:Bq w w'):FN B pb w w':=⟨h.os,h.tape,h.output,h.size,λi hi _ _=>h.block i hi⟩
def Fr.fn{l:List UInt8}{w:ea}(h:PN w B pb bv l last mv)(d:Fr (SP pb bv) w w'):FN B pb w w':=
 ⟨d.os,d.tape,d.output,d.size,λk hk hp hn=>d.block k hk (λq=>by
  obtain q|q:=q
  .exact hp q
  .obtain hn|hn:=hn
   .have:=(eP h.ow k q).1;omega
   .exact h.ne hn q)⟩
def Bx.fn{w:ea}{b:Nat}(h:Bx w b C)(j:b≠pb)(m:b<B\/Vk w b)(d:FN B pb w w'):Bx w' b C:=h.same d.size<|d.block b h.z j m
def Bx.nby{w:ea}{b:Nat}(h:Bx w b C)(d:∀x,C[0]? =ia x->∀c,x≠.int .u8 c):Vk w b:=λx q=>d x (by rw[<-h.c 0];exact q)
def oR l last t:=(l++if spB last t then[32]else[])++t.data.toList
section
variable {w:ea} {l:List UInt8}
def y9{p:Prop}(h:p:=by
 go_wp2
 go_ret
 exact⟨rfl,rfl⟩):p:=h
def IZ last t:aa qk 123 #[.string last,.string t] w λe w'=>e=.returned (.bool<|spB last t)/\w'=w:=by
 rw[spB]
 cases h1:(t.toList==[41])
 .cases h2:(t.toList==[44])
  .cases h3:(t.toList==[59])
   .cases h4:(last.toList==[])
    .go_wp2
     go_ret;exact⟨ag,rfl⟩
    .go_wp2
     go_ret;exact⟨ag,rfl⟩
   .exact y9
  .exact y9
 .exact y9
def PN.y_{w}{B pb}{bv}{l}{last}{mv}(h:PN w B pb bv l last mv)t:PN (w.setCell ⟨pb,2,ka⟩<|.string t) B pb bv l t mv:=by
 have d:=h.ne h.pbN;have⟨j,m,A⟩:=h.bk;exact⟨⟨j,(dR m 2 _).trans ag,A⟩,El h.ow (One.cell _ _ _ _) d,h.nl,by have:=h.hb;simp[qy];exact this⟩
def PN.cells{w}{B pb}{bv}{l}{last}{mv}(h:PN w B pb bv l last mv):w.cell? ⟨pb,2,ka⟩=ia (.string last)/\w.frozen? ⟨pb,2,ka⟩=na:=by
 have⟨ad,d,ha⟩:=h.bk;exact⟨by simp[qx,d],by simp[q9,d]⟩
def FN.y_ B pb w v:FN B pb w (w.setCell ⟨pb,2,ka⟩ v):=⟨rfl,rfl,rfl,BL,λk _ hp _=>xm _ _ _ _ hp⟩
end
def XL:pn rI=rI:=by simp_all[pn,rI]
inductive dq(w:ea)(P:Nat->Prop):Ty->fa->Prop where
 |var(n:Nat):dq w P (.var n) (.iface 182<|Nv n)
 |aM(c:BA)(L:List Ty)(sa:Option Addr)(sc:Nat)(vs:Nat->fa)(hc:CN c\/c=rI)(bK:L=[]\/∃g,sa=ia ⟨g,0,ka⟩/\P g/\g<w.heap.size/\∀i,i<L.length->w.cell? ⟨g,i,ka⟩=ia (vs i))(hr:∀i(h:i<L.length),dq w P L[i]<|vs i):
  dq w P (.aM c L) (.iface 194<|.agg #[.string<|pn c,.slice sa L.length sc])
theorem dq.move{w}{v}(h:dq w P t v)(hs:w.heap.size<=w'.heap.size)(hb:∀b,P b->b<w.heap.size->w'.heap[b]? =w.heap[b]?)(hq:∀b,P b->b<w.heap.size->Q b):dq w' Q t v:=by
 exact PW
def dq.af{w}{v}(h:dq w P t v)(d:Bq w w'):dq w' P t v:=h.move d.size (λb _ hz=>d.block b hz)<|λ_ p _=>p
def dq.wide{w}{v}(h:dq w P t v)(d:∀b,P b->Q b):dq w Q t v:=h.move (br _) (λ_ _ _=>rfl)<|λb p _=>d b p
def dq.fr{S}{w}{v}(h:dq w P t v)(d:Fr S w w')(j:∀b,P b->b<w.heap.size->¬S b):dq w' P t v:=h.move d.size (λb p z=>d.block b z<|j b p z)<|λ_ p _=>p
def dq.low{w}{v}(h:dq w P t v):dq w (λb=>P b/\b<w.heap.size) t v:=h.move (br _) (λ_ _ _=>rfl)<|λ_ p z=>⟨p,z⟩
def dq.iface{w}{v}(h:dq w P t v):∃a x,v=.iface a x:=by
 cases h<;>exact⟨_,_,rfl⟩
def eh.w{w}{v}(h:eh w P t v):dq w P t v:=by
 induction h with
 |var n=>exact .var n|aM c L sa sc vs hc bK hr ih=>exact .aM c L sa sc vs (qj hc) bK ih
def uB:∀{L:List Ty},jT L->∀i(h:i<L.length),Whole L[i]
 |[],_,i,h=>vB|t::l,h,0,_=>h.1|t::l,h,i+1,k=>by simpa using uB h.2 i (by simpa using k)
def dq.v{w}{v}(h:dq w P t v)(d:Whole t):eh w P t v:=by
 induction h with
 |var n=>exact .var n|aM c L sa sc vs hc bK hr ih=>exact .aM c L sa sc vs (hc.resolve_right d.1) bK λi hi=>ih i hi<|uB d.2 i hi
mutual
def occs:Ty->List Nat
 |.var n=>[n]|.aM _ l=>gx l
def gx:List Ty->List Nat
 |[]=>[]|t::l=>occs t++gx l
end
mutual
def cC:∀(t:Ty)(a:List Nat),vars a t=(occs t).foldl zg a
 |.var n,a=>rfl|.aM c l,a=>by simpa[vars,occs]using zB l a
def zB:∀(l:List Ty)(a:List Nat),aX a l=(gx l).foldl zg a
 |[],a=>rfl|t::l,a=>by simp only[aX,gx,ju];rw[cC t a];exact zB l _
end
def zC:∀(L:List Ty)(i:Nat)(h:i<L.length),gx (L.take<|i+1)=gx (L.take i)++occs L[i]
 |[],i,h=>vB|t::l,0,_=>by simp[gx]|t::l,i+1,h=>by
  have:=zC l i uY;simp only[ji,gx,jk,this,jp]
def P7 σ L i(h:i<L.length):(aU σ L)[i]'(by rw[eK];exact h)=sub σ L[i]:=by simp[iz]
def mr:∀(L:List Ty)(i:Nat)(h:i<L.length),size L[i]<=ak L:=by simp_all[size,ak,yI]
def Em:∀L:List Ty,L.length<=ak L
 |[]=>br _|t::l=>by have:=Em l;have:=size_pos t;simp only[eG,ak];omega
def P8{n:Nat}:∀(L:List Ty)(i:Nat)(h:i<L.length),aA n L[i]->bZ n L
 |[],i,h,_=>vB|t::l,0,_,k=>qj k|t::l,i+1,h,k=>qi (P8 l i uY<|by simpa using k)
def TB{P}{t}(ht:P.underlying t=ia (.slice e))(hi:P.info? e=ia i)(hz:i.zero=ia z)(hzc:z.cells=#[z])(h1:i.size=1)(j:i.bytes=by_)(d:by_<=16)n(m:n<=1000000000000)w:
 (Instr.makeSlice t (Nv n)<|Nv n).run P w=.ok (.slice (ia ⟨w.heap.size,0,ka⟩) n n) (w.alloc<|.cells (xf n z) e):=by
 have hb:(i.bytes:Int)*(n:Int)<=281474976710656:=by
  rw[j];have:by_*n<=16*1000000000000:=qt d m;exact IQ
 exact IP
@[simp] theorem aeO n w:(vd (.iface 182<|Iv n) 105 182 la).run qk w=.ok (.tuple #[Iv n,.bool la]) w:=qkr
@[simp] theorem ajf n w:(vd (.iface 182<|Iv n) 105 194 la).run qk w=.ok (.tuple #[.agg #[.string ⟨#[]⟩,.slice ka 0 0],.bool na]) w:=qkr
@[simp] theorem ag0 a b w:(vd (.iface 194<|.agg #[a,b]) 105 182 la).run qk w=.ok (.tuple #[Iv 0,.bool na]) w:=qkr
@[simp] theorem ajg a b w:(vd (.iface 194<|.agg #[a,b]) 105 194 la).run qk w=.ok (.tuple #[.agg #[a,b],.bool la]) w:=qkr
abbrev XN(B M:Nat->Prop)n b:=¬M b/\(B b\/n<=b)
abbrev I4:=List Nat->(Nat->Prop)->(Nat->Prop)->ea->Prop
structure Img g bs cs(σ:Nat->Ty)(N:List Nat->Nat->Prop)(I:I4):Prop where
 eg:∀args w,(callFunc g args).run qk w=.ok (.enter g args) w
 fB:∀acc B M w w',I acc B M w->w.heap.size<=w'.heap.size->(∀b,B b\/M b->w'.heap[b]? =w.heap[b]?)->I acc B M w'
 lt:∀acc B M w,I acc B M w->∀b,B b\/M b->b<w.heap.size
 call:∀acc B M w n,I acc B M w->N acc n->aa qk g (bs++#[Nv n]++cs) w λe w'=>
  ∃u B' M',e=.returned u/\dq w' (XN B M' w.heap.size) (σ n) u/\I (acc++[n]) B' M' w'/\(∀b,B' b->B b\/w.heap.size<=b)/\(∀b,M' b->M b\/w.heap.size<=b)/\Fr M w w'
def Fr.gR{M M'}{a b c}(h:Fr M a b)(k:Fr M' b c)(d:∀x,M' x->M x\/a.heap.size<=x):Fr M a c:=
 ⟨k.os.trans h.os,k.tape.trans h.tape,k.output.trans h.output,qm h.size k.size,λx hx hn=>(k.block x (qn hx h.size) (λq=>by obtain r|r:=d x q;exact hn r;omega)).trans (h.block x hx hn)⟩
def P_ σ(I:I4)acc B M t w(e:ga)w':=
 ∃u B' M',e=.returned u/\dq w' (XN B M' w.heap.size) (sub σ t) u/\I (acc++occs t) B' M' w'/\(∀b,B' b->B b\/w.heap.size<=b)/\(∀b,M' b->M b\/w.heap.size<=b)/\Fr M w w'
def I6(N:List Nat->Nat->Prop)acc(l:List Nat):=∀i(h:i<l.length),N (acc++l.take i) l[i]
def I6.left(h:I6 N acc (l++l')):I6 N acc l:=λi hi=>by
 have:=h i bQ
 rwa[List.take_append_of_le_length ae,jx hi]at this
def I6.right(h:I6 N acc (l++l')):I6 N (acc++l) l':=λi hi=>by
 have:=h (l.length+i) bQ;rw[List.take_length_add_append,<-jp]at this;simpa using this
def abF g bs cs σ N I t:=∀(acc:List Nat)(B M:Nat->Prop)(w:ea)(v:fa)(Q:Nat->Prop),I acc B M w->I6 N acc (occs t)->size t<=1000000000000->dq w Q t v->(∀b,Q b->b<w.heap.size->¬M b)->
 aa qk 233 #[v,.func (.func g) bs cs] w (P_ σ I acc B M t w)
def abG σ(I:I4)acc B M(L:List Ty)TC w gk v wr:=
 ∃(j:Nat)(C:Array fa)(m d:Nat->Prop),Hid (gk=L.length-j)/\j<=L.length/\v=Nv j/\I (acc++gx (L.take j)) m d wr/\Hid (∀b,m b->B b\/w.heap.size+2<=b)/\Hid (∀b,d b->M b\/w.heap.size+2<=b)/\Fr M w wr/\Bx wr w.heap.size TC/\Bx wr (w.heap.size+1) C/\Hid (C.size=L.length)/\
  Hid (∀i(h:i<L.length),i<j->∃u,C[i]? =ia u/\dq wr (λb=>XN B d (w.heap.size+2) b/\b<wr.heap.size) (sub σ L[i]) u)
def XO L j(h:j<L.length):∃r,gx L=gx (L.take j)++(occs L[j]++r):=by
 induction L generalizing j with
 |nil=>simp at h|cons t l ih=>
  cases j with
  |zero=>exact⟨gx l,by simp[gx]⟩|succ j=>
   have⟨r,e⟩:=ih j uY;exact⟨r,by simp only[ji,gx,jk];rw[e];simp[jp]⟩
section
variable {bs:Array fa} {σ:Nat->Ty} {I:I4}
def abH(H:Img g bs cs σ N I)n:abF g bs cs σ N I (.var n):=by
 intro acc B M w v Q J O hz U hQ
 cases U
 have eg:=H.eg;have Y:=H.call acc B M w n J (by simpa[occs]using O 0 (by simp[occs]));go_in;go_wp2_with(go_at_fn g;refine Y.mono ?_;rintro e Z⟨u,B',M',rfl,d,j,m,A,E⟩;obtain⟨ta,xa,rfl⟩:=d.iface;have X:=ai<|show P_ σ I acc B M (.var n) w (Rv<|Fv ta xa) Z from⟨_,B',M',rfl,d,j,m,A,E⟩;clear d j m A E);go_ret;exact X
def Ep{p:Prop}(h:p:=by
 obtain r|r:=uh hM1 _ q
 .have:=HB _<|qi r;omega
 .omega):p:=h
def abI(H:Img g bs cs σ N I)c L(IH:∀i(h:i<L.length),abF g bs cs σ N I L[i]):abF g bs cs σ N I (.aM c L):=by
 intro acc B M w v Q HN f0 HZ hv HQ
 cases hv with
 |aM c L sa sc vs hc bK hr=>
 have hL:L.length<=1000000000000:=by have:=Em L;simp only[size]at HZ;omega
 obtain⟨i0,g0,j0,k0,l0⟩:=info_parts fY;have hmk:=TB (by_:=16) eH g0 j0 rfl k0 l0 aD L.length hL;have HB:=H.lt acc B M w HN;have HK:=ai H.fB;go_wp2
 go_loopg[27] L.length (λgk v wr=>abG σ I acc B M L #[.string<|pn c,.slice sa L.length sc] w gk v wr)
 case atStart=>
  have b1:Bq w ((w.alloc<|.cells #[.string<|pn c,.slice sa L.length sc] 194).alloc<|.cells (xf L.length .nilIface) 105):=(bw _).alloc ag _;refine⟨0,xf L.length .nilIface,B,M,ai ag,qr _,rfl,?_,ai<|λb hb=>qj hb,ai<|λb hb=>qj hb,Fr.of b1,?_,?_,ai ag,ai<|λi _ hi=>absurd hi ae⟩
  .simpa[gx]using HK _ _ _ _ _ HN b1.size (λb hb=>b1.block b<|HB b hb)
  .exact(Bx.new w _ _).below (bw _)
  .have:=Bx.new (w.alloc<|.cells #[.string<|pn c,.slice sa L.length sc] 194) (xf L.length .nilIface) 105;simpa using this
 case round=>
  obtain⟨j,C,B1,X,n0,hj,rfl,Y,d,hM1,Z,T1,P1,hC,hT⟩:=hrel;have zw:=Z.size;have tz:=T1.z;have pz:=P1.z;by_cases bY:j<L.length
  .have hd:=kK bY;obtain⟨g1,rfl,hg,a0,m⟩:∃g,sa=ia ⟨g,0,ka⟩/\Q g/\g<w.heap.size/\∀i,i<L.length->w.cell? ⟨g,i,ka⟩=ia (vs i):=by
    exact yZ
   have cg:wr.cell? ⟨g1,j,ka⟩=ia (vs j):=by
    rw[qw (a:=⟨g1,j,ka⟩) (w:=w)<|Z.block g1 a0<|HQ g1 hg a0];exact m j bY
   have PJ:=(hr j bY).low.fr Z<|λb p _=>HQ b p.1 p.2;obtain⟨tv,xv,hv⟩:=PJ.iface;obtain⟨rr,o0⟩:=XO L j bY;have p0:I6 N (acc++gx (L.take j)) (occs L[j]):=by
    have:=f0;simp only[occs]at this;rw[o0]at this;exact this.right.left
   have q0:∀b,(Q b/\b<w.heap.size)->b<wr.heap.size->¬X b:=λb p _ q=>by
    obtain r|r:=uh hM1 b q
    .exact HQ b p.1 p.2 r
    .omega
   have HC:=IH j bY _ B1 X wr (vs j) _ Y p0 (by have:=mr L j bY;have:=HZ;simp only[size]at this;omega) PJ q0;rw[hv]at cg HC;obtain⟨tc,tf,_⟩:=T1;go_wp2_with fail;refine HC.mono ?_;rintro e w1⟨u,B2,M2,rfl,HU,r0,s0,b0,HF⟩;obtain⟨A,E,rfl⟩:=HU.iface;have t0:¬X (w.heap.size+1):=λq=>by
    exact Ep
   have u0:¬X w.heap.size:=λq=>by
    exact Ep
   have P2:=P1.fr HF t0;have T2:=(show Bx wr w.heap.size #[.string<|pn c,.slice (ia ⟨g1,0,ka⟩) L.length sc]from⟨tc,tf,tz⟩).fr HF u0;have J:j<C.size:=qBh;have cj:=(P2.c j).trans<|xh J;have fj:=P2.f j;have P3:=P2.aW j (.iface A E) (C.setIfInBounds j<|.iface A E) rfl J;have T3:=T2.bU (show w.heap.size≠w.heap.size+1 by omega) j (.iface A E);have v0:=Z.gR HF (λx q=>by obtain r|r:=uh hM1 x q;exact qj r;exact qi ae);have z2:=HF.size
   go_wp2
   go_roundg(L.length-(j+1))
   case measure=>rw[uh n0];omega
   case rel=>
    have O:∀b,b≠w.heap.size+1->(w1.setCell ⟨w.heap.size+1,j,ka⟩<|.iface A E).heap[b]? =w1.heap[b]? :=λb hb=>xm _ _ _ _ (by show b≠w.heap.size+1;exact hb);have hss:(w1.setCell ⟨w.heap.size+1,j,ka⟩<|.iface A E).heap.size=w1.heap.size:=BL;have c0:∀b,B2 b->B b\/w.heap.size+2<=b:=λb hb=>by
     obtain q|q:=s0 b hb
     .exact d b q
     .exact qi ae
    have d0:∀b,M2 b->M b\/w.heap.size+2<=b:=λb hb=>by
     obtain q|q:=b0 b hb
     .exact hM1 b q
     .exact qi ae
    have U:∀b,(B b\/w.heap.size+2<=b)->b≠w.heap.size+1:=λb hb e=>by
     obtain q|q:=hb
     .have:=HB b<|qj q;omega
     .omega
    have x0:∀b,(M b\/w.heap.size+2<=b)->b≠w.heap.size+1:=λb hb e=>by
     obtain q|q:=hb
     .have:=HB b<|qi q;omega
     .omega
    refine⟨j+1,C.setIfInBounds j<|.iface A E,B2,M2,ai rfl,ae,iF,?_,ai c0,ai d0,?_,T3,P3,ai (by simp;exact hC),ai<|λi hi hij=>?_⟩
    .rw[zC L j bY,<-jp];exact HK _ _ _ _ _ r0 ae (λb hb=>O b (by obtain q|q:=hb;exact U b<|c0 b q;exact x0 b<|d0 b q))
    .exact v0.set (qi ae) j _
    .by_cases e:i=j
     .subst e;refine⟨.iface A E,by simp[J],?_⟩
      have e0:∀b,XN B1 M2 wr.heap.size b->XN B M2 (w.heap.size+2) b:=λb p=>⟨p.1,by
       obtain q|q:=p.2
       .exact d b q
       .exact qi ae⟩
      exact HU.move ae (λb p z=>O b<|U b (e0 b p).2)<|λb p z=>⟨e0 b p,ae⟩
     .obtain⟨u',e0,y0⟩:=uh hT i hi ae;refine⟨u',by rw[xg ae];exact e0,?_⟩;have h3:=y0.fr HF<|λb p _=>p.1.1;refine h3.move ae (λb p z=>O b<|U b p.1.2)<|λb p z=>⟨⟨λq=>?_,p.1.2⟩,ae⟩;obtain r|r:=b0 b q
      .exact p.1.1 r
      .have:=p.2;omega
  .have hd:=nN bY;have J:j=L.length:=ae;subst J;obtain⟨tc,tf,_⟩:=T1
   go_wp2
   go_ret;refine⟨_,B1,X,rfl,?_,?_,λb hb=>?_,λb hb=>?_,Z⟩
   .have m:=eK σ L;simp only[sub];rw[<-m];refine .aM c _ _ _ (λi=>C.getD i .nilIface) hc (qi ⟨w.heap.size+1,rfl,⟨λq=>?_,qi ae⟩,P1.z,λi hi=>?_⟩)<|λi hi=>?_
    .exact Ep
    .rw[m]at hi;obtain⟨u,hu,_⟩:=uh hT i hi hi;rw[P1.c i,hu];simp[xj,hu]
    .have A:i<L.length:=by rw[m]at hi;exact hi
     obtain⟨u,hu,E⟩:=uh hT i A A;have:C.getD i .nilIface=u:=qBm;rw[this,P7 σ L i A];exact E.wide λb p=>⟨p.1.1,by obtain q|q:=p.1.2;exact qj q;exact qi ae⟩
   .simp only[occs];rw[<-jc (l:=L)];exact Y
   .obtain q|q:=uh d b hb
    .exact qj q
    .exact qi ae
   .obtain q|q:=uh hM1 b hb
    .exact qj q
    .exact qi ae
def zE(H:Img g bs cs σ N I):∀t,abF g bs cs σ N I t
 |.var n=>abH H n|.aM c L=>abI H c L λi h=>zE H L[i]
 termination_by t=>size t
 decreasing_by have:=mr L i h;simp only[size];omega
end
section
variable {w:ea}
def rN:aa qk 72 #[] w λe w'=>e=.returned (.iface 194<|.agg #[.string t_,.slice ka 0 0])/\w'=w:=by
 go_wp2
 go_ret;exact⟨rfl,rfl⟩
def nY:aa qk 73 #[] w λe w'=>e=.returned (.iface 194<|.agg #[.string lV,.slice ka 0 0])/\w'=w:=by
 go_wp2
 go_ret;exact⟨rfl,rfl⟩
def yF:aa qk 237 #[] w λe w'=>e=.returned (.iface 194<|.agg #[.string kQ,.slice ka 0 0])/\w'=w:=by
 go_wp2
 go_ret;exact⟨rfl,rfl⟩
def mH:p_ t_:=⟨73,[110,116],toList_mk _,aD⟩
def kO:p_ lV:=⟨66,[111,111,108],toList_mk _,aD⟩
def r_:p_ kQ:=⟨85,[110,105,116],toList_mk _,aD⟩
def H8 w P(h:p_ c):dq w P (.aM c []) (.iface 194<|.agg #[.string c,.slice ka 0 0]):=by
 have:=dq.aM (w:=w) (P:=P) c [] ka 0 (λ_=>Zv) (qj<|qi<|qi h) (qj rfl) (λi hi=>by simp at hi);rw[e9 h]at this;exact this
def nc c a b(w:ea)(e:ga)w':=
 e=.returned (.iface 194<|.agg #[.string<|pn c,.slice (ia ⟨w.heap.size,0,ka⟩) 2 2])/\w'=w.alloc (.cells #[a,b] 105)
def vV ta tb xa xb:aa qk 261 #[.iface ta xa,.iface tb xb] w (nc rG (.iface ta xa) (.iface tb xb) w):=by
 go_wp2
 go_ret;rw[nc];rw[jO];exact⟨rfl,rfl⟩
def Om ta tb xa xb:aa qk 262 #[.iface ta xa,.iface tb xb] w (nc pq (.iface ta xa) (.iface tb xb) w):=by
 go_wp2
 go_ret;rw[nc];rw[jP];exact⟨rfl,rfl⟩
def nc.ty(hc:CN c){a b}{va vb}(m:dq w Q a va)(A:dq w Q b vb)(E:Q w.heap.size):
 dq (w.alloc<|.cells #[va,vb] 105) Q (.aM c [a,b]) (.iface 194<|.agg #[.string<|pn c,.slice (ia ⟨w.heap.size,0,ka⟩) 2 2]):=by
 have⟨d,j⟩:=rF w #[va,vb] 105;refine dq.aM c [a,b] (ia ⟨w.heap.size,0,ka⟩) 2 (λi=>if i=0 then va else vb) (qj hc) (qi ⟨w.heap.size,rfl,E,j.z,λi hi=>?_⟩) (λi hi=>?_)
 .have:=j.c i;obtain _|_|i:=i
  .exact this
  .exact this
  .simp at hi;omega
 .obtain _|_|i:=i
  .exact m.af d
  .exact A.af d
  .simp at hi;omega
end
def XP(h:CN c):pn c≠rI:=by
 have e:rI.toList=[116,111,111,32,108,97,114,103,101]:=toList_mk _;obtain rfl|rfl|h:=h
 .rw[jO];intro q;have:=congrArg kg q;rw[e,toList_mk]at this;simp at this
 .rw[jP];intro q;have:=congrArg kg q;rw[e,toList_mk]at this;simp at this
 .rw[e9 h];intro q;subst q;exact dQ h 116 _ aD e
def ag1(L:List Ty)TC w gk(v s:fa)wr:=
 ∃(j:Nat),Hid (gk=L.length-j)/\j<=L.length/\v=Nv j/\s=.int .i64 ((1+qU (L.take j):Nat):Int)/\Bq w wr/\Bx wr w.heap.size TC
def zG:∀(L:List Ty)(i:Nat)(h:i<L.length),qU (L.take<|i+1)=qU (L.take i)+sz L[i]
 |[],i,h=>vB|t::l,0,_=>by simp[qU]|t::l,i+1,h=>by
  have:=zG l i uY;simp only[ji,qU,jk,this,Nat.add_assoc]
def wi:∀(L:List Ty)(i:Nat),qU (L.take i)<=qU L
 |[],i=>ag|t::l,0=>by simp[qU]|t::l,i+1=>by have:=wi l i;simp only[ji,qU];omega
section
variable {w:ea}
def SzC t:=∀(w:ea)(v:fa)(Q:Nat->Prop),dq w Q t v->size t<=1000000000000->aa qk 222 #[v] w λe w'=>e=.returned (Nv<|sz t)/\Bq w w'
def aeP n:SzC (.var n):=by
 intro w v Q d hz
 cases d
 go_wp2
 go_ret;exact⟨by simp[sz],bw _⟩
def aeQ c L(IH:∀i(h:i<L.length),SzC L[i]):SzC (.aM c L):=by
 intro w v Q J HZ
 cases J with
 |aM c L sa sc vs hc bK hr=>
 by_cases O:c=rI
 .subst O;rw[XL];rw[rI];go_wp2
  go_ret;exact⟨by simp[sz,rI],bw _⟩
 .have U:pn c≠rI:=by
   obtain h|h:=hc
   .exact XP h
   .exact absurd h O
  have hd0:((pn c).toList==[116,111,111,32,108,97,114,103,101])=na:=by
   rw[<-Bool.not_eq_true,beq_iff_eq];intro q;exact U<|toList_inj<|q.trans (toList_mk [116,111,111,32,108,97,114,103,101]).symm
  go_wp2
  go_loopg[5,21] L.length (λgk s v wr=>ag1 L #[Sv<|pn c,Lv sa L.length sc] w gk v s wr)
  case atStart=>exact⟨0,ai ag,qr _,rfl,by simp[qU],bw _,Bx.new w _ _⟩
  case round=>
   obtain⟨j,X,hj,rfl,rfl,d,Y⟩:=hrel;have hZ:=HZ;by_cases bY:j<L.length
   .have hd:=kK bY;obtain⟨Z,rfl,hg,a0,m⟩:∃g,sa=ia ⟨g,0,ka⟩/\Q g/\g<w.heap.size/\∀i,i<L.length->w.cell? ⟨g,i,ka⟩=ia (vs i):=by
     exact yZ
    have cg:wr.cell? ⟨Z,j,ka⟩=ia (vs j):=by
     rw[qw (a:=⟨Z,j,ka⟩) (w:=w)<|d.block Z a0];exact m j bY
    have PJ:=(hr j bY).af d;have⟨tv,xv,J⟩:=PJ.iface;have hzj:=mr L j bY;simp only[size]at hZ;have hlen:=Em L;have HC:=IH j bY wr (vs j) Q PJ ae;rw[J]at cg HC;have b0:=wi L<|j+1;rw[zG L j bY]at b0;have ajh:=Md L;have hs0:((1+qU (L.take j):Nat):Int)=1+(qU (L.take j):Int):=ae;generalize hA:qU (L.take j)=A at*;generalize hB:sz L[j]=B at*;go_wp2_with fail;refine HC.mono ?_;rintro e w1⟨rfl,E⟩
    go_wp2
    go_roundg(L.length-(j+1))
    case measure=>rw[uh X];omega
    case rel=>
     have z1:=d.size;refine⟨j+1,ai rfl,ae,iF,?_,d.trans<|E.mono z1,Y.below E⟩;rw[zG L j bY,hA,hB];go_num
   .have hd:=nN bY;have m:j=L.length:=ae;subst m
    go_wp2
    go_ret;refine⟨?_,d⟩;rw[jc];simp only[sz];rw[if_neg O];rfl
def pw:∀t,SzC t
 |.var n=>aeP n|.aM c L=>aeQ c L λi h=>pw L[i]
 termination_by t=>size t
 decreasing_by have:=mr L i h;simp only[size];omega
end
abbrev gF(w:ea)e base v xs:=w.ownsRow base e 1 v xs.length xs
def gF.new(w:ea)e C base(d:base<=w.heap.size)(hl:C.length<=1000000000000)n(j:n=C.length):gF (w.alloc<|.cells C.toArray e) e base (.slice (ia ⟨w.heap.size,0,ka⟩) n n) C:=by
 subst j;exact⟨ag,.inr ⟨w.heap.size,C.length,C.toArray,rfl,d,heap_alloc_new w _,br _,VM,ag,ag⟩⟩
def I7{w:ea}{b'}{size}{v:fa}(h:w.ownsRow b' e size v n xs)(U:base<=b'):w.ownsRow base e size v n xs:=by
 obtain⟨A,d⟩:=h;obtain d|⟨g,j,m,E,J,O⟩:=d
 .exact⟨A,.inl d⟩
 .exact⟨A,.inr ⟨g,j,m,E,qm U J,O⟩⟩
def wW{P}w base t ty e i z size bytes(ht:P.underlying t=ia (.slice e))(hi:P.info? e=ia i)(hz:i.zero=ia z)(E:i.size=size)(b0:i.bytes=bytes)(e0:z.cells.size=size)(f0:0<size)v n xs(J:w.ownsRow base e size v n xs)a m c news(hl:news.length=m*size)(d:∀j u,news[j]? =ia u->w.cell? (a.add j)=ia u)(h1:∀u∈news,u.oneCell'=la)(c0:n+m<=maxLen)(A:(n+m)*bytes<=140737488355328)(Y:base<=w.heap.size):
 ∃v' w',(Builtin.append_ #[t,t] ty #[v,.slice (ia a) m c]).run P w=.ok v' w'/\w'.ownsRow base e size v' (n+m) (xs++news)/\w.grownBy w' v.ownBlock/\∀k,v'.ownBlock=ia k->v.ownBlock=ia k\/w.heap.size<=k:=by
 have O:=J;obtain⟨rfl,rfl⟩|⟨g,Z,d0,rfl,hbg,hg,hnc,hcm,g0,agZ⟩:=J.2
 .have X:=jj (by simpa using J.1);subst X;have⟨v',w',U,q2,q3,_⟩:=run_append_own w w.heap.size t ty e i z size bytes ht hi hz E b0 e0 f0 (Lv ka 0 0) 0 [] (qz w _ e size) a m c news hl d h1 c0 A<|br _;exact⟨v',w',U,I7 q2 Y,q3,λk hk=>qi (World.ownsRow.lt q2 k hk).1⟩
 .have⟨v',w',U,q2,q3,_⟩:=run_append_own w base t ty e i z size bytes ht hi hz E b0 e0 f0 _ n xs O a m c news hl d h1 c0 A Y;refine⟨v',w',U,q2,q3,?_⟩;subst E;by_cases X:n+m<=Z
  .have a0:n*i.size+news.length<=d0.size:=by rw[hl,g0,<-Nat.add_mul];exact qu _ X
   have hr:=run_append_room (P:=P) w t ty e i ht hi g n Z d0 hg a m c news hl d h1 X a0;rw[hr]at U;injection U with U _;subst U;exact λk hk=>qj hk
  .have a0:=O.cells (g:=g) rfl;have hr:=run_append_grow (P:=P) w t ty e i z ht hi hz ⟨g,0,ka⟩ n Z xs J.1 a0 a m c news hl d ae (by rw[maxLen]at c0;omega) (growslice_fits ae (by rw[b0];exact A));rw[hr]at U;injection U with U _;subst U;intro k hk;simp[xq]at hk;exact qi ae
def adw{T}(hT:Tryz.prog.underlying T=ia (.slice e))(hI:(Tryz.prog.info? e).map (λi=>(i.zero,i.size,i.bytes))=ia (ia z,1,by_))(Y:z.cells.size=1)(Z:by_<=16){w:ea}{a}{Q}(A:o.guard=ka)s x(ho:o.op=.call {callee:=.builtin .append,args:=#[s,x],argTypes:=#[T,T]}){b0}{v:fa}{news}(hs:a.eval s=v)(d:gF w e base v xs)(hx:a.eval x=u)(hn:gF w e b0 u news)(h1:∀u∈news,u.oneCell'=la)(hz:xs.length+news.length<=1000000000000)(m:base<=w.heap.size)(h:∀v' w',gF w' e base v' (xs++news)->w.grownBy w' v.ownBlock->(∀k,v'.ownBlock=ia k->v.ownBlock=ia k\/w.heap.size<=k)->wpList qk ops Q rest (a.put o.dst v') w'):wpList qk ops Q (o::rest) a w:=by
 have⟨i0,hi,E,J,O⟩:=info_parts hI;have U:=hn;obtain⟨hl,hc⟩:=hn;obtain⟨rfl,h0⟩|⟨g,X,Wy,rfl,hg,hh,r⟩:=hc
 .have e1:=jj h0;subst e1;refine wpList_append_own_none A s x T ho base e i0 1 hT hi v xs.length xs hs d hx ?_;exact h v w (by simpa using d) ⟨rfl,rfl,rfl,br _,λ_ _ _=>rfl⟩ (λk hk=>qj hk)
 .refine wpList_plain A λK hK=>?_;have⟨v',w',hr,h2,h3,h4⟩:=wW (P:=qk) w base T o.type e i0 _ 1 by_ hT hi E J O Y aD v xs.length xs d ⟨g,0,ka⟩ news.length X news ae (λj z e=>U.cells rfl j z e) h1 VM (by have:(xs.length+news.length)*by_<=1000000000000*16:=qt hz Z;omega) m;rw[Oper.wp,execOp];simp only[ho,resolve,invoke,builtin,kx,Sem.run_pure,Result.andThen_ok,List.map_toArray,jd,jz,hs,hx,hr];exact hK _ _ (h v' w' (by rw[gF];rw[g_];exact h2) h3 h4)
def iC{w:ea}{v:fa}(h:gF w e base v xs)(hn:0<xs.length):∃g cp m,v=.slice (ia ⟨g,0,ka⟩) m cp/\base<=g/\g<w.heap.size/\Hid (m=xs.length):=by
 have d:=h;obtain⟨h1,j⟩:=h;obtain⟨rfl,q⟩|⟨g,cp,Wy,rfl,A,hh,r⟩:=j
 .omega
 .exact⟨g,cp,xs.length,rfl,A,(World.ownsRow.lt d g rfl).2,ai rfl⟩
def abJ:(Tryz.prog.info? 182).map (λi=>(i.zero,i.size,i.bytes))=ia (ia<|Iv 0,1,8):=qkr
def CB:Tryz.prog.underlying 355=ia (.slice 182):=qkr
def mg{w:ea}{c}(h:gF w e base (.slice (ia ⟨g,0,ka⟩) n c) xs)j(A:j<xs.length):w.cell? ⟨g,j,ka⟩=ia xs[j]:=by
 have d:=World.ownsRow.cells h (g:=g) rfl j xs[j] (ja A);have m:(⟨g,0,ka⟩:Addr).add j=⟨g,j,ka⟩:=by
  rw[Addr.add];split
  .grind
  .simp
 rwa[m]at d
def iN{w:ea}{v:fa}(h:gF w e base v xs):∀k,v.ownBlock=ia k->base<=k/\k<w.heap.size:=λk hk=>World.ownsRow.lt h k hk
def k9{w:ea}{v:fa}(h:gF w e base v xs)(d:∀k,v.ownBlock=ia k->w'.heap[k]? =w.heap[k]?):gF w' e base v xs:=rQ h d
def oL(l:List Nat):List fa:=l.map λ(n:Nat)=>Nv n
def VI mb mm lb base(acc:List Nat)B M w:=
 ∃(L:List (Int×fa))(v:fa),(B=λb=>b=mb)/\(M=λb=>b=mm\/b=lb\/v.ownBlock=ia b)/\Bx w mb #[Mv mm]/\MS (λn:Int=>Iv n) w mm L/\(∀n:Nat,ba (n:Int) L=if n∈acc then ia (Nv<|acc.count n)else ka)/\Bx w lb #[v]/\gF w 182 base v (oL<|acc.foldl zg [])/\base<=w.heap.size
def MQ acc(n m:Nat):(acc++[n]).count m=acc.count m+if n=m then 1 else 0:=BS
def zH w:(zeroValue 3).run qk w=.ok (Iv 0) w:=qkr
section
variable {w:ea} {mm lb:Nat}
def I8{w}{b}(h:Bx w b C)(d:w.grownBy w' row)(j:row≠ia b):Bx w' b C:=h.same d.size<|d.block b h.z<|λe=>j e.symm
def ag2 mb mm lb base acc(B M:Nat->Prop)n w(e:ga)w':=
 e=.returned (.iface 182<|Nv n)/\∃B' M',VI mb mm lb base (acc++[n]) B' M' w'/\(∀b,B' b->B b\/w.heap.size<=b)/\(∀b,M' b->M b\/w.heap.size<=b)/\Fr M w w'
def dt:∀(acc l:List Nat),(acc.foldl zg l).length<=l.length+acc.length
 |[],l=>ag|a::acc,l=>by
  have:=dt acc<|zg l a;have h2:(zg l a).length<=l.length+1:=by rw[zg];split<;>simp
  simp only[qe,eG];omega
def gy(n:Nat):∀(acc l:List Nat),n∈acc.foldl zg l↔n∈l\/n∈acc
 |[],l=>ag|a::acc,l=>by
  simp only[qe,gy n acc,sf,jq];constructor
  .rintro((h|h)|h)
   .exact qj h
   .exact qi (qj h)
   .exact qi (qi h)
  .rintro(h|h|h)
   .exact qj (qj h)
   .exact qj (qi h)
   .exact qi h
def TD acc B M(n:Nat)(aji:acc.length<1000000000000)(h:VI mb mm lb base acc B M w)(hd:mb≠mm/\mb≠lb/\mm≠lb)(hb:mb<base/\mm<base/\lb<base):
 aa qk 239 #[.int .i64 (n:Int),.pointer<|some ⟨mb,0,ka⟩,.pointer<|some ⟨lb,0,ka⟩] w (ag2 mb mm lb base acc B M n w):=by
 obtain⟨L,v,rfl,rfl,Y,Z,j,HL,HO,b4⟩:=h;obtain⟨d1,d2,d3⟩:=hd;obtain⟨b1,b2,b3⟩:=hb;have a0:acc.count n<=acc.length:=List.count_le_length;have A:=Z.look (KL.num Tryz.underlying182) Tryz.underlying184 (zH w) (n:Int) trivial (λ_ _=>trivial) na;rw[j n]at A;have e0:(vf 184 (.map<|some mm) (.int .i64 (n:Int)) na).run qk w=.ok (.int .i64 (acc.count n:Int)) w:=by
  by_cases E:n∈acc
  .rw[if_pos E]at A;simpa using A
  .rw[if_neg E]at A;rw[List.count_eq_zero_of_not_mem E];simpa using A
 have HG:∀m:Nat,ba (m:Int) (bF (n:Int) (.int .i64<|(acc.count n:Int)+1) L)=if m∈acc++[n]then ia (.int .i64 ((acc++[n]).count m:Int))else ka:=by
  intro m;rw[aO,MQ];by_cases e:n=m
  .subst e;simp
  .have d:¬(n:Int)=(m:Int):=ae;rw[if_neg d,j m];simp[e,ku e]
 have U:∀w',MS (λn:Int=>xw .i64 n) w' mm (bF (n:Int) (.int .i64<|(acc.count n:Int)+1) L)->(vf 184 (.map<|some mm) (.int .i64 (n:Int)) na).run qk w'=.ok (.int .i64<|(acc.count n:Int)+1) w':=by
  intro w' d;have A:=d.look (KL.num Tryz.underlying182) Tryz.underlying184 (zH w') (n:Int) trivial (λ_ _=>trivial) na;rw[aO,if_pos rfl]at A;simpa using A
 have HV:=iN HO;have HM:=ai Z;have HB:=ai Y;have HH:=ai U;obtain⟨c,f,z⟩:=Y;by_cases E:n∈acc
 .have ajj:=List.count_pos_iff.2 E;have ajk:((acc.count n:Int)+1==1)=na:=bQ;go_in;go_wp2_with(refine aV _ rfl _ _ _ _ (Or.inr rfl) (KL.num Tryz.underlying182) Tryz.underlying184 _ _ rfl HM (n:Int) (.int .i64<|(acc.count n:Int)+1) rfl rfl trivial (λ_ _=>trivial) ?_;intro w' J d;have U:=uh HH w' J;obtain⟨c1,f1,z1⟩:=HB.one d d1;have X:=ai J;have O2:=ai d;clear J d);go_ret;have O:=uh O2;refine⟨rfl,_,_,⟨_,v,rfl,rfl,⟨c1,f1,z1⟩,X,HG,HL.one O d3.symm,?_,by rw[O.size];exact b4⟩,λb q=>Or.inl q,λb q=>Or.inl q,⟨O.os,O.tape,O.output,by rw[O.size];exact br _,λk _ hn=>O.block k<|λe=>hn<|Or.inl e⟩⟩;have es:(acc++[n]).foldl Un.seen []=acc.foldl Un.seen []:=by
   rw[ju];exact GZ<|(gy n acc []).2<|qi E
  rw[es];exact k9 HO λk hk=>O.block k (λe=>by have:=HV k hk;omega)
 .have h0:=List.count_eq_zero_of_not_mem E;rw[h0]at e0 HG HH a0;have ES:(acc++[n]).foldl zg []=acc.foldl zg []++[n]:=by
   rw[ju];show zg _ n=_;rw[zg,if_neg<|λq=>E<|by simpa using(gy n acc []).1 q]
  have f0:(oL<|acc.foldl zg []).length+[xw .i64 (n:Int)].length<=1000000000000:=by
   have b0:=dt acc [];simp[oL]at b0⊢;omega
  have b0:∀u∈[Value.int .i64 (n:Int)],u.oneCell'=la:=qAn;have HA:∀w',gF w' 182 base v (oL<|acc.foldl Un.seen [])->Hid (gF (w'.alloc<|.cells #[.int .i64 (n:Int)] 182) 182 base v<|oL<|acc.foldl Un.seen []):=λw' ho=>ai<|k9 ho λk hk=>(MapKept.heap_alloc _ _).2 k (iN ho k hk).2;go_in
  go_wp2_with(first
   |(refine aV _ rfl _ _ _ _ (qi rfl) (KL.num Tryz.underlying182) Tryz.underlying184 _ _ rfl HM (n:Int) (.int .i64 1) rfl rfl trivial (λ_ _=>trivial) ?_;intro w' J d;have U:=uh HH w' J;obtain⟨c1,f1,z1⟩:=HB.one d d1;obtain⟨cl,fl,zl⟩:=HL.one d d3.symm;have OW:=ai (k9 HO<|λk hk=>d.block k (λe=>by have:=HV k hk;omega));have X:=ai J;have O2:=ai d;have c0:w.heap.size<=w'.heap.size:=Nat.le_of_eq d.size.symm;clear J d)
   |(at_builtin;go_loud(refine adw CB abJ rfl aD rfl (.tmp 13) (.tmp 15) rfl rfl (uh<|HA w' OW) rfl (gF.new w' 182 [.int .i64 (n:Int)] 0 (qr _) ag 1 rfl) b0 f0 (qm b4<|qm c0 ag) ?_);intro v2 w2 J g2 k2;obtain⟨g3,d,m3,rfl,_,_,M3⟩:=iC J ag;obtain⟨c2,f2,z2⟩:=I8 (Bx.below (show Bx w' lb #[v]from⟨cl,fl,zl⟩)<|bw<|.cells #[.int .i64 (n:Int)] 182) g2 (λe=>by have:=HV lb e;omega);have OV:=ai J;have GV:=ai g2;have KV:=ai k2;clear J g2 k2))
  go_ret;have O:=uh O2;have g:=uh GV;have o:=uh OV;have bl:Below w'.heap.size w' (w'.alloc<|.cells #[.int .i64 (n:Int)] 182):=bw _;have hzz:=g.size;have hz1:=bl.size;have hv:=HV;have J:∀k,k<w.heap.size->k≠mm->k≠lb->v.ownBlock≠ia k->(w2.setCell ⟨lb,0,ka⟩<|.slice (ia ⟨g3,0,ka⟩) m3 d).heap[k]? =w.heap[k]? :=λk h1 h2 h3 h4=>by
   rw[xm _ _ _ _ (by show k≠lb;exact h3),g.block k ae<|λe=>h4 e.symm,bl.block k ae,O.block k h2]
  have hss:(w2.setCell ⟨lb,0,ka⟩<|.slice (ia ⟨g3,0,ka⟩) m3 d).heap.size=w2.heap.size:=BL;have c0:∀k,k<w.heap.size->k≠lb->v.ownBlock≠ia k->(w2.setCell ⟨lb,0,ka⟩<|.slice (ia ⟨g3,0,ka⟩) m3 d).heap[k]? =w'.heap[k]? :=λk h1 h3 h4=>by
   rw[xm _ _ _ _ (by show k≠lb;exact h3),g.block k ae<|λe=>h4 e.symm,bl.block k ae]
  have nb:∀k,k<base->v.ownBlock≠ia k:=λk h e=>by have:=hv k e;omega
  have d0:=iN o;refine⟨rfl,_,_,⟨_,.slice (ia ⟨g3,0,ka⟩) m3 d,rfl,rfl,?_,?_,HG,?_,?_,ae⟩,λb q=>qj q,λb q=>?_,⟨?_,?_,?_,ae,λk hk hn=>J k hk (λe=>hn<|qj e) (λe=>hn<|qi<|qj e)<|λe=>hn<|qi<|qi e⟩⟩
  .exact HB.same ae (J mb z d1 d2<|nb mb b1)
  .exact X.same (c0 mm ae d3<|nb mm b2)
  .exact Bx.aW (C:=#[v]) ⟨c2,f2,z2⟩ 0 _ _ rfl ag
  .rw[ES];have e:oL (acc.foldl zg []++[n])=oL (acc.foldl zg [])++[.int .i64 (n:Int)]:=by simp[oL]
   rw[e];exact k9 o λk hk=>xm _ _ _ _ (by show k≠lb;intro e;have:=(d0 k hk).1;omega)
  .obtain q|q|q:=q
   .exact qj (qj q)
   .exact qj (qi<|qj q)
   .have:=(d0 b q).1;by_cases hbw:b<w.heap.size
    .obtain r|r:=uh KV b q
     .exact qj (qi<|qi r)
     .exact absurd r bQ
    .exact qi ae
  .exact g.os.trans O.os
  .exact g.tape.trans O.tape
  .exact g.output.trans O.output
def abK acc B M w w'(h:VI mb mm lb base acc B M w)(O:w.heap.size<=w'.heap.size)(m:∀b,B b\/M b->w'.heap[b]? =w.heap[b]?):VI mb mm lb base acc B M w':=by
 obtain⟨L,v,rfl,rfl,A,E,d,J,j,U⟩:=h;exact⟨L,v,rfl,rfl,A.same O<|m mb<|qj rfl,E.same<|m mm<|qi<|qj rfl,d,J.same O<|m lb<|qi<|qi<|qj rfl,k9 j λk hk=>m k<|qi<|qi<|qi hk,qm U O⟩
def ag3 acc B M w(h:VI mb mm lb base acc B M w):∀b,B b\/M b->b<w.heap.size:=by
 obtain⟨L,v,rfl,rfl,j,m,aiC,A,d,b4⟩:=h;rintro b(rfl|rfl|rfl|q)
 .exact j.z
 .exact m.lt
 .exact A.z
 .exact(iN d b q).2
def XQ(d:mb≠mm/\mb≠lb/\mm≠lb)(j:mb<base/\mm<base/\lb<base):Img 239 #[] #[Pv mb,Pv lb] Ty.var (λacc _=>acc.length<1000000000000) (VI mb mm lb base) where
 eg:=enters_of Tryz.func239 qkr rfl
 fB:=abK
 lt:=ag3
 call acc B M w n h hN:=(TD acc B M n hN h d j).mono λe w'⟨h1,B',M',h2,h3,h4,h5⟩=>⟨_,B',M',h1,.var n,h2,h3,h4,h5⟩
end
mutual
def du:∀t:Ty,(occs t).length<=size t
 |.var n=>by simp[occs,size]|.aM c l=>by have:=CC l;simp only[occs,size];omega
def CC:∀l:List Ty,(gx l).length<=ak l
 |[]=>by simp[gx,ak]|t::l=>by have:=du t;have:=CC l;simp only[gx,ak,g_];omega
end
def TE t w(e:ga)w':=∃v,e=.returned v/\gF w' 182 w.heap.size v (oL<|vars [] t)/\Bq w w'
def fI{w:ea}{v:fa}(h:dq w Q t v)(X:size t<=1000000000000):aa qk 227 #[v] w (TE t w):=by
 obtain⟨ta,xa,rfl⟩:=h.iface;have m:Bq w (((w.alloc<|Cv #[Lv ka 0 0] 355).alloc<|.map #[] 0).alloc<|Cv #[Mv<|w.heap.size+1] 184):=((bw _).alloc ag _).alloc bQ _;have A:VI (w.heap.size+2) (w.heap.size+1) w.heap.size (w.heap.size+3) [] (λb=>b=w.heap.size+2) (λb=>b=w.heap.size+1\/b=w.heap.size\/(Lv ka 0 0).ownBlock=ia b) (((w.alloc<|Cv #[Lv ka 0 0] 355).alloc<|.map #[] 0).alloc<|Cv #[Mv<|w.heap.size+1] 184):=by
  refine⟨[],Lv ka 0 0,rfl,rfl,?_,?_,λn=>by simp[ba],?_,qz _ _ _ _,ag⟩
  .have:=Bx.new ((w.alloc<|Cv #[Lv ka 0 0] 355).alloc<|.map #[] 0) #[Mv<|w.heap.size+1] 184;simpa using this
  .have:=(MS.new (λn:Int=>Iv n)<|w.alloc<|Cv #[Lv ka 0 0] 355).below<|bw<|Cv #[Mv<|w.heap.size+1] 184;simpa using this
  .exact((Bx.new w #[Lv ka 0 0] 355).below<|bw _).below (bw _)
 have E:=zE (XQ (mb:=w.heap.size+2) (mm:=w.heap.size+1) (lb:=w.heap.size) (base:=w.heap.size+3) ae ae) t [] _ _ _ _ (λb=>Q b/\b<w.heap.size) A (λi hi=>by have:=du t;simp;omega) X (h.low.af m) (λb q _ r=>by obtain r|r|r:=r;omega;omega;cases r);have J:=ai m;have d:= @run_makeMap Tryz.prog;go_in;go_wp;refine E.mono ?_;rintro e w1⟨u,B',M',rfl,hU,⟨L,v,rfl,rfl,hmb,d,aiC,j,O,b4⟩,hB,hM,F⟩;have z1:=F.size;have U:=ai F;obtain⟨c2,f2,z2⟩:=j
 go_wp2
 go_ret;refine⟨v,rfl,?_,?_⟩
 .have e:List.foldl zg [] ([]++occs t)=vars [] t:=by rw[cC];rfl
  rw[<-e];exact I7 O ae
 .have F:=uh U;have b:=uh J;exact⟨F.os.trans b.os,F.tape.trans b.tape,F.output.trans b.output,qm b.size F.size,λi hi=>(F.block i (qn hi b.size) (λq=>by obtain q|q|q:=q;omega;omega;cases q)).trans (b.block i hi)⟩
def TF:(Tryz.prog.info? 105).map (λi=>(i.zero,i.size,i.bytes))=ia (ia .nilIface,1,16):=qkr
def Er(l:List Nat):List fa:=l.map λ(n:Nat)=>xt 182<|Nv n
def aeR l w1 V gk v wr:=
 ∃(j:Nat)(u:fa),Hid (gk=l.length-j)/\j<=l.length/\v=Nv j/\Bq w1 wr/\w1.heap.size+1<=wr.heap.size/\Bx wr w1.heap.size #[.string ⟨#[116,111,111,32,108,97,114,103,101]⟩,u]/\gF wr 182 (w1.heap.size+1) V (oL l)/\gF wr 105 (w1.heap.size+1) u (Er<|l.take j)/\Hid (∀k,u.ownBlock=ia k->V.ownBlock≠ia k)
def dZ{w:ea}{v:fa}(h:gF w e base v xs)(j:xs.length=n):∃va vc,v=.slice va n vc:=by
 subst j;obtain⟨h1,d⟩:=h;obtain⟨rfl,q⟩|⟨g,cp,Wy,rfl,_⟩:=d
 .exact⟨ka,0,by rw[q]⟩
 .exact⟨_,_,rfl⟩
def XR(l:List Nat)j(h:j<l.length):Er (l.take<|j+1)=Er (l.take j)++[xt 182<|Nv<|l[j]]:=by
 rw[Er];rw[jf h,j8];rfl
section
variable {w:ea}
def aeS{b}{wr}(h:gF wr 105 b u (Er l))(U:l≠[])(X:∀k,b<=k->P k):∃sa sc,u=.slice sa l.length sc/\dq wr P (.aM rI<|l.map Ty.var) (.iface 194<|.agg #[.string rI,u]):=by
 have A:0<(Er l).length:=by simp[Er];exact qv<|λe=>U<|jj e
 obtain⟨g,J,m,rfl,O,E,j⟩:=iC h A;have j:=uh j;simp only[Er,j9]at j;subst j;refine⟨_,_,rfl,?_⟩;have:=dq.aM (w:=wr) (P:=P) rI (l.map Ty.var) (ia ⟨g,0,ka⟩) J (λi=>(Er l).getD i Zv) (qi rfl) (qi ⟨g,rfl,X g O,E,λi hi=>?_⟩)<|λi hi=>?_
 .rw[XL,j9]at this;exact this
 .have d:i<(Er l).length:=by simpa[Er]using hi
  rw[mg h i d,jv,ja d];rfl
 .have d:i<(Er l).length:=by simpa[Er]using hi
  rw[jv,ja d];simp only[Er,List.getElem_map,Option.getD_some];exact .var _
def Qa t(Q:Nat->Prop)w(e:ga)w':=∃u,e=.returned u/\dq w' (λb=>Q b\/w.heap.size<=b) (bJ t) u/\Bq w w'
def I9{p:Prop}(h:p:=by
 rw[cC];have:=dt (occs t) [];have:=du t;simp at*
 omega):p:=h
def XS{v:fa}(h:dq w Q t v)(hz:size t<=1000000000000):aa qk 232 #[v] w (Qa t Q w):=by
 obtain⟨ta,xa,rfl⟩:=h.iface;have HS:=pw t w _ Q h ae;have hsl:=adm t;have HT:=ai h;clear h;by_cases hs:sz t<=48
 .have hd:(sz t:Int)<=48:=ae;go_in;go_wp;refine HS.mono ?_;rintro e d⟨rfl,Z⟩;clear HS
  go_wp2
  go_ret;unfold Qa bJ;rw[if_pos hs];exact⟨_,rfl,((uh HT).af Z).wide λb q=>qj q,Z⟩
 .have hd:¬(sz t:Int)<=48:=ae;have HV:=λ(W:ea)(hb:Below w.heap.size w W)=>fI ((uh HT).af hb) hz;go_in;go_wp;refine HS.mono ?_;rintro e d⟨rfl,b1⟩;have Z:=ai b1;have z1:=b1.size;clear b1 HS;have HC:=HV (d.alloc<|.cells #[.string ⟨#[116,111,111,32,108,97,114,103,101]⟩,.slice ka 0 0] 194)<|Z.alloc ae _;clear HV;go_wp2_with fail;refine HC.mono ?_;rintro e w2⟨V,rfl,HO,b2⟩;have Vx:(vars [] t).length<=1000000000000:=by
   exact I9
  generalize hl0:vars [] t=l at*;clear HC;obtain⟨va,vc,rfl⟩:=dZ HO (n:=l.length) (by simp[oL]);have e0:=ai b2;clear b2
  go_wp2
  go_loopg[14] l.length (λgk v wr=>aeR l d (.slice va l.length vc) gk v wr)
  case atStart=>
   have b2:=uh e0;have b1:Below d.heap.size d (d.alloc<|.cells #[.string ⟨#[116,111,111,32,108,97,114,103,101]⟩,.slice ka 0 0] 194):=bw _;have m:=b2.size;have A:(d.alloc<|.cells #[.string ⟨#[116,111,111,32,108,97,114,103,101]⟩,.slice ka 0 0] 194).heap.size=d.heap.size+1:=ag;rw[A]at m;exact⟨0,.slice ka 0 0,ai ag,qr _,rfl,b1.trans<|b2.mono b1.size,m,(Bx.new d _ _).below b2,by simpa using HO,qz _ _ _ _,ai<|λk hk=>by cases hk⟩
  case round=>
   obtain⟨j,u,f0,hj,rfl,F1,zz,T1,O1,O,a0⟩:=hrel;by_cases A:j<l.length
   .have hd:=kK A;have g0:j<(oL l).length:=by simpa[oL]using A
    obtain⟨gv,cpv,mv,hv,hgv,hgz,_⟩:=iC O1 ae;injection hv with h0 i0 j0;subst h0;have cg:=mg O1 j g0;rw[show(oL l)[j]=xw .i64 (l[j]:Int) by simp[oL]]at cg;obtain⟨sa,sc,rfl⟩:=dZ O (n:=j) (by simp[Er];omega);generalize hx:l[j]=x at*;have U:=ai F1;have k0:=ai O1;have m:=ai O;have l0:=ai T1;have b0:∀u∈[xt 182<|.int .i64 (x:Int)],u.oneCell'=la:=qAn;have c0:(Er<|l.take j).length+[xt 182<|.int .i64 (x:Int)].length<=1000000000000:=by simp[Er];omega
    have HA:Hid (gF (wr.alloc<|.cells #[.iface 182<|.int .i64 (x:Int)] 105) 105 (d.heap.size+1) (.slice sa j sc)<|Er<|l.take j):=ai<|k9 O λk hk=>(vo _ _).2 k (iN O k hk).2;obtain⟨tc,tf,tz⟩:=T1;clear F1 O1 O i0 j0;go_wp2_with(at_builtin;go_loud(refine adw eH TF rfl aD rfl (.tmp 19) (.tmp 22) rfl rfl HA rfl (gF.new wr 105 [.iface 182<|.int .i64 (x:Int)] 0 (qr _) ag 1 rfl) b0 c0 (qm zz ag) ?_);intro v2 w3 X g2 k2;obtain⟨g3,Y,m3,rfl,_,_,M3⟩:=iC X ag;obtain⟨c2,f2,z2⟩:=I8 (Bx.below l0<|bw<|.cells #[.iface 182<|.int .i64 (x:Int)] 105) g2 (λe=>by have:=(iN m _ e).1;omega);have OV:=ai X;have GV:=ai g2;have KV:=ai k2;clear X g2 k2);go_roundg(l.length-(j+1))
    case measure=>rw[uh f0];omega
    case rel=>
     have g:=uh GV;have o:=uh OV;have E:=uh U;have o1:=uh k0;have n0:=iN o;have bl:Below wr.heap.size wr (wr.alloc<|.cells #[.iface 182<|.int .i64 (x:Int)] 105):=bw _;have hz1:=bl.size;have hzz:=g.size;have hss:(w3.setCell ⟨d.heap.size,1,ka⟩<|.slice (ia ⟨g3,0,ka⟩) m3 Y).heap.size=w3.heap.size:=BL;have d0:∀k,(zd sa j sc).ownBlock=ia k->d.heap.size+1<=k:=λk hk=>(iN (uh m) k hk).1;have J:∀k,k<wr.heap.size->k≠d.heap.size->(zd sa j sc).ownBlock≠ia k->(w3.setCell ⟨d.heap.size,1,ka⟩<|.slice (ia ⟨g3,0,ka⟩) m3 Y).heap[k]? =wr.heap[k]? :=λk h1 h3 h4=>by
      rw[xm _ _ _ _ (by show k≠d.heap.size;exact h3),g.block k ae<|λe=>h4 e.symm,bl.block k ae]
     refine⟨j+1,.slice (ia ⟨g3,0,ka⟩) m3 Y,ai rfl,ae,iF,⟨?_,?_,?_,?_,λk hk=>?_⟩,ae,?_,?_,?_,ai<|λk hk hk2=>?_⟩
     .exact g.os.trans E.os
     .exact g.tape.trans E.tape
     .exact g.output.trans E.output
     .have:=E.size;omega
     .have:=E.size;exact(J k ae ae (λe=>by have:=d0 k e;omega)).trans (E.block k hk)
     .exact Bx.aW (C:=#[.string ⟨#[116,111,111,32,108,97,114,103,101]⟩,.slice sa j sc]) ⟨c2,f2,z2⟩ 1 _ _ rfl ag
     .exact k9 o1 λk hk=>J k (iN o1 k hk).2 (λe=>by have:=(iN o1 k hk).1;omega)<|λe=>uh a0 k e hk
     .rw[XR l j A,hx];exact k9 o λk hk=>xm _ _ _ _ (by show k≠d.heap.size;intro e;have:=(n0 k hk).1;omega)
     .obtain r|r:=uh KV k hk
      .exact uh a0 k r hk2
      .have:=(iN o1 k hk2).2;omega
   .have hd:=nN A;have Y:j=l.length:=ae;subst Y;obtain⟨tc,tf,tz⟩:=T1;have m:=ai O;have U:=ai F1;clear O1 O F1
    go_wp2
    go_ret;have E:=uh U;have X:=uh m;rw[jc]at X;refine⟨_,rfl,?_,Z.trans<|E.mono z1⟩;have hc:bJ t=.aM rI (l.map Ty.var):=by unfold bJ;rw[if_neg hs,hl0]
    rw[hc];by_cases J:l=[]
    .subst J;obtain⟨q1,q2⟩:=X;obtain⟨sa,sc,rfl⟩:=dZ (uh m) (n:=0) (by simp[Er]);have:=dq.aM (w:=wr) (P:=λb=>Q b\/w.heap.size<=b) rI [] sa sc (λ_=>.nilIface) (qi rfl) (qj rfl) (λi hi=>by simp at hi);rw[XL]at this;exact this
    .obtain⟨_,_,_,h⟩:=aeS X J (P:=λb=>Q b\/w.heap.size<=b)<|λk hk=>qi ae;exact h
end
end
section
open Go.MapKept
section
variable {enc:κ->fa}
def MG(enc:κ->fa)(w:ea)(b:Nat)(L:List (κ×fa)):=∃es clock,w.heap[b]? =ia (.map es clock)/\es.toList.map (λe=>(e.key,e.val))=L.map (λp=>(enc p.1,p.2))/\(es.toList.map (·.born)).Nodup/\(∀e∈es.toList,e.born<clock)/\(L.map (·.1)).Nodup
variable {w:ea} {b:Nat} {L:List (κ×fa)} {P:Program} {t:TypeId}
def MG.ms(h:MG enc w b L):MS enc w b L:=by grind[MG,MS]
def MG.same(h:MG enc w b L)(hb:w'.heap[b]? =w.heap[b]?):MG enc w' b L:=by grind[MG]
def MG.new(enc:κ->fa)(w:ea):MG enc (w.alloc<|.map #[] 0) w.heap.size []:=⟨#[],0,(vo w _).1,rfl,ag,ag,ag⟩
def MG.nodup(h:MG enc w b L):(L.map (·.1)).Nodup:=by grind[MG]
def ag4{es:List MapEntry}(h:es.map (λe=>(e.key,e.val))=L.map (λp=>(enc p.1,p.2))):es.map (·.key)=(L.map (·.1)).map enc:=by
 have:=congrArg (List.map Prod.fst) h;simpa[List.map_map,Function.comp_def]using this
def IG(enc:κ->fa)(w:ea)(r gb:Nat)(L:List (κ×fa))(m:List κ)cnt:=∃(es:Array MapEntry)(j d:Nat)(seen:Array Nat)(A:Nat),w.heap[gb]? =ia (.map es j)/\es.toList.map (λe=>(e.key,e.val))=L.map (λp=>(enc p.1,p.2))/\(es.toList.map (·.born)).Nodup/\(∀e∈es.toList,e.born<d)/\d<=A/\d<=j/\w.heap[r]? =ia (.mapIter (ia gb) d seen A)/\(L.map (·.1)).Nodup/\(leftOf es seen).size=cnt/\∀e∈es.toList,∀x,e.key=enc x->(seen.contains e.born=la↔x∈m)
def IG.same{cnt}{done}(h:IG enc w r gb L done cnt)(h1:w'.heap[gb]? =w.heap[gb]?)(h2:w'.heap[r]? =w.heap[r]?):IG enc w' r gb L done cnt:=by
 obtain⟨es,d,j,seen,m,A,E,J,O,U,X,Y,Z⟩:=h;exact⟨es,d,j,seen,m,h1.trans A,E,J,O,U,X,h2.trans Y,Z⟩
def IG.lt{cnt}{done}(h:IG enc w r gb L done cnt):gb<w.heap.size/\r<w.heap.size/\gb≠r:=by grind[cnt,IG]
def MG.range(h:MG enc w b L)(U:P.underlying t=ia (.map k e)):∃o cnt,(Instr.range t<|Mv b).run P w=.ok (Pv w.heap.size) (w.alloc o)/\IG enc (w.alloc o) w.heap.size b L [] cnt:=by
 obtain⟨es,d,j,A,E,J,O⟩:=h;have m:=(Array.getElem?_eq_some_iff.1 j).1;refine⟨_,_,run_range_map w t _ _ b es d U j,es,d,d,#[],d,((vo w _).2 _ m).trans j,A,E,J,br _,br _,heap_alloc_new w _,O,rfl,λe he x hx=>ag⟩
def MG.one{c}(h:MG enc w b L)(o:One c w w')(d:b≠c):MG enc w' b L:=h.same<|o.block b d
end
section
variable [DecidableEq κ] {enc:κ->fa}
variable {w:ea} {b:Nat} {L:List (κ×fa)} {P:Program} {t:TypeId}
def MG.lt(h:MG enc w b L):b<w.heap.size:=h.ms.lt
def MG.af(h:MG enc w b L)(d:Bq w w'):MG enc w' b L:=h.same<|d.block b h.lt
def MG.fr{S}(h:MG enc w b L)(d:Fr S w w')(j:¬S b):MG enc w' b L:=h.same<|d.block b h.lt j
def sJ(l:List MapEntry)j f(hf:∀e,(f e).born=e.born):(l.modify j f).map (·.born)=l.map (·.born):=by
 induction l generalizing j with
 |nil=>cases j<;>simp|cons e r ih=>grind
def I_{x y:κ}{v:fa}:∀{L:List (κ×fa)},y∈(bF x v L).map (·.1)->y=x\/y∈L.map (·.1)
 |[],h=>by simpa[bF]using h|p::l,h=>by
  rw[bF]at h;split at h
  .rename_i e;simp only[jd,jq]at h⊢;obtain h|h:=h
   .exact qj h
   .exact qi (qi h)
  .simp only[jd,jq]at h⊢;obtain h|h:=h
   .exact qi (qj h)
   .obtain q|q:=I_ h
    .exact qj q
    .exact qi (qi q)
def rl{x:κ}{v:fa}:∀{L:List (κ×fa)},(L.map (·.1)).Nodup->((bF x v L).map (·.1)).Nodup
 |[],_=>by simp[bF]|p::l,h=>by
  simp only[jd,jl]at h;rw[bF];split
  .rename_i e;simp only[jd,jl];rw[<-e];exact h
  .rename_i e;simp only[jd,jl];refine⟨λq=>?_,rl h.2⟩;obtain r|r:=I_ q
   .exact e r
   .exact h.1 r
def MG.put(K:KL P k enc (λ_ _=>True))(h:MG enc w b L)(ht:P.underlying t=ia (.map k e))x v:∃o,(vg t (Mv b) (enc x) v).run P w=.ok () (setBlock w b o)/\MG enc (setBlock w b o) b (bF x v L):=by
 obtain⟨es,d,A,m,X,Y,Z⟩:=h;have E:=K.fin x L es.toList w trivial (λ_ _=>trivial) m;rw[vg];simp only[kx,run_underlying ht,v9,v7 A,K.chk,E]
 cases xL:xK x L 0 with
 |none=>
  refine⟨.map (es.push {key:=enc x,val:=v,born:=d})<|d+1,by rw[xL]at E;simp[E,v9];exact vw _ A,_,_,(heap_setBlock_same A _),?_,?_,?_,rl Z⟩
  .rw[ot x v L<|ox x L 0 xL];simp[m]
  .simp only[Array.toList_push,j8,jd,jz];rw[j7];refine⟨X,ag,?_⟩;intro a O c hc;obtain⟨e,J,rfl⟩:=List.mem_map.1 O;simp only[j5]at hc;have:=Y e J;omega
  .grind
 |some p=>
  obtain⟨j,u⟩:=p;have⟨_,e0,O,h3,h4⟩:=DW (enc:=enc) x v L es.toList 0 j u m xL;have U:es[j]? =ia e0:=by simpa using O
  refine⟨.map (es.modify j λe=>{e with key:=enc x,val:=v}) d,?_,_,_,(heap_setBlock_same A _),by simpa using h4,?_,?_,rl Z⟩
  .rw[xL]at E;simp[E,v9,U,h3,Instr.keyThatStays,K.bit];exact vw _ A
  .rw[xk,sJ es.toList j (λe=>{e with key:=enc x,val:=v}) (λ_=>rfl)];exact X
  .intro e J;have:e.born∈(es.modify j λe=>{e with key:=enc x,val:=v}).toList.map (·.born):=jm J;rw[xk,sJ es.toList j (λe=>{e with key:=enc x,val:=v}) (λ_=>rfl)]at this;have⟨e',h1,O⟩:=List.mem_map.1 this;rw[<-O];exact Y e' h1
def cz(K:KL P k enc (λ_ _=>True))(J:P.underlying t=ia (.map k e)){a}{Q}(O:o.guard=ka)m x v(d:o.op=kw t m x v\/o.op=kv t m x v)(U:a.eval m=Mv b)(X:MG enc w b L)key val(Y:a.eval x=enc key)(Z:a.eval v=val)(hK:∀w',MG enc w' b (bF key val L)->One b w w'->wpList P ops Q rest (a.put o.dst undef) w'):
 wpList P ops Q (o::rest) a w:=by
 refine wpList_plain O λK' hK'=>?_;have⟨A,j,E⟩:=X.put K J key val;rw[Oper.wp];obtain d|d:=d<;>
 .simp[execOp,d,U,Y,Z,j,v9];exact hK' _ _<|hK _ E<|One.set w b A
def rX{x:κ}:∀{L:List (κ×fa)},(ba x L).isSome=la↔x∈L.map (·.1)
 |[]=>by simp[ba]|p::l=>by
  rw[ba];split
  .rename_i e;simp[e]
  .rename_i e;rw[rX (L:=l)];simp only[jd,jq];exact⟨qi,λq=>q.elim (λq=>absurd q.symm e) id⟩
def Qb{x:κ}{v:fa}:∀{L:List (κ×fa)},(L.map (·.1)).Nodup->(x,v)∈L->ba x L=ia v
 |[],_,h=>vB|p::l,hn,h=>by
  simp only[jd,jl]at hn;rw[ba];obtain rfl|h:=List.mem_cons.1 h
  .simp
  .have:p.1≠x:=λe=>hn.1 (by rw[e];exact jm (f:=(·.1)) h);rw[if_neg this];exact Qb hn.2 h
def pu{x:κ}{v:fa}:∀{L:List (κ×fa)},ba x L=ia v->(x,v)∈L
 |[],h=>qBg|p::l,h=>by
  rw[ba]at h;split at h
  .rename_i e;simp only[Option.some.injEq]at h;subst e h;simp
  .exact jh _ (pu h)
def ag5 enc P w r gb L(d:List κ)(cnt:Nat):=((∀x v,ba x L=ia v->x∈d)/\(vh (Pv r) na 0).run P w=.ok (.tuple #[.bool na]) w)\/
    ∃x v w1 aR,x∉d/\ba x L=ia v/\(vh (Pv r) na 0).run P w=.ok (.tuple #[.bool la,enc x,v]) w1/\IG enc w1 r gb L (x::d) aR/\aR<cnt/\Fr (λb=>b=r) w w1/\w1.heap.size=w.heap.size/\(Instr.entry<|Pv r).run P w1=.ok (.tuple #[enc x,v]) w1
def IG.next(d0:∀x y,enc x=enc y->x=y){cnt}{done}(h:IG enc w r gb L done cnt):ag5 enc P w r gb L done cnt:=by
 have⟨hg1,e0,X⟩:=h.lt;obtain⟨es,d,j,seen,c0,a1,a2,a3,a4,a5,a6,a7,a8,f0,Y⟩:=h;have ai0:=ag4 a2;rcases run_next_at (P:=P) w 0 r gb j c0 seen es d a7 a1 a4 a5 with⟨h0,m⟩|⟨e,Z,O,J,m⟩
 .left;refine⟨λx v hx=>?_,m⟩;have hin:=rX.1 (by rw[hx];rfl);have:enc x∈es.toList.map (·.key):=BS;have⟨e,Z,U⟩:=List.mem_map.1 this;exact(Y e Z x U).1 (all_seen es seen h0 e Z)
 .right;have⟨A,g0⟩:=mem_left Z;obtain⟨x,hx,i0⟩:∃x,e.key=enc x/\(x,e.val)∈L:=by
   have:(e.key,e.val)∈es.toList.map (λe=>(e.key,e.val)):=jm (f:=λe:MapEntry=>(e.key,e.val)) A;rw[a2]at this;have⟨p,E,q⟩:=List.mem_map.1 this;obtain⟨px,pv⟩:=p;simp only[Prod.mk.injEq]at q;exact⟨px,q.1.symm,by rw[<-q.2];exact E⟩
  have j0:x∉done:=λq=>by
   have:=(Y e A x hx).2 q;rw[g0]at this;cases this
  have E:O.heap=w.heap:=by obtain rfl|rfl:=J<;>rfl
  have b1:∀k,k≠r->(setBlock O r<|.mapIter (ia gb) j (seen.push e.born) d).heap[k]? =w.heap[k]? :=λk U=>by
   have:(setBlock O r<|.mapIter (ia gb) j (seen.push e.born) d).heap[k]? =O.heap[k]? :=by simp[setBlock,xi,ku U]
   rw[this,E]
  have b2:(setBlock O r<|.mapIter (ia gb) j (seen.push e.born) d).heap[r]? =ia (.mapIter (ia gb) j (seen.push e.born) d):=by
   have a0:r<O.heap.size:=by rw[E];exact e0
   simp[setBlock,xi,a0]
  have a0:(setBlock O r<|.mapIter (ia gb) j (seen.push e.born) d).heap.size=w.heap.size:=by simp[setBlock,E]
  have b0:(es.toList.map (·.key)).Nodup:=BS;refine⟨x,e.val,_,_,j0,Qb a8 i0,by rw[m,hx],⟨es,d,j,seen.push e.born,d,(b1 gb X).trans a1,a2,a3,a4,a6,a6,b2,a8,rfl,λe' he' y hy=>?_⟩,by rw[<-f0];exact left_shrinks es seen e Z,⟨by obtain rfl|rfl:=J<;>rfl,by obtain rfl|rfl:=J<;>rfl,by obtain rfl|rfl:=J<;>rfl,by rw[a0];exact br _,λk _ U=>b1 k U⟩,a0,?_⟩
  .rw[contains_push];simp only[Bool.or_eq_true,beq_iff_eq,jq];constructor
   .rintro(q|q)
    .grind
    .have:e'=e:=born_inj a3 he' A q;rw[this,hx]at hy;exact qj (d0 _ _ hy).symm
   .rintro(q|q)
    .right;have:e'=e:=by
      have U:e'.key=e.key:=by rw[hy,hx,q]
      exact entry_eq_of_key (by rw[qh,j6]at b0;exact b0) he' A U
     rw[this]
    .grind
  .have:=run_entry_at (P:=P) (setBlock O r<|.mapIter (ia gb) j (seen.push e.born) d) r gb j seen es d e b2 ((b1 gb X).trans a1) A a3;rw[hx]at this;exact this
end
end
section
open Go.MapKept Un
abbrev pT:Int->fa:=λn=>Iv n
def I':∀x y,pT x=pT y->x=y:=λx y h=>by injection h
abbrev KLV:KL qk 182 pT (λ_ _=>True):=KL.num Tryz.underlying182
def fA w P b(D:Nat->Option Ty):=
 ∃L,MG pT w b L/\(∀n:Nat,ba (n:Int) L=ka->D n=ka)/\(∀(n:Nat)u,ba (n:Int) L=ia u->∃t,D n=ia t/\dq w P t u)/\∀x u,ba x L=ia u->∃n:Nat,x=(n:Int)
def Dr(D:Nat->Option Ty)n:=(D n).getD<|.var n
section
variable {w:ea} {b:Nat}
theorem fA.move(h:fA w P b D)(J:w.heap.size<=w'.heap.size)(O:w'.heap[b]? =w.heap[b]?)(U:∀x,P x->x<w.heap.size->w'.heap[x]? =w.heap[x]?)(X:∀x,P x->x<w.heap.size->Q x):fA w' Q b D:=by
 obtain⟨L,d,j,m,A⟩:=h;exact⟨L,d.same O,j,λn u hu=>by have⟨t,e,E⟩:=m n u hu;exact⟨t,e,E.move J U X⟩,A⟩
def fA.lt(h:fA w P b D):b<w.heap.size:=qAr
def fA.af(h:fA w P b D)(d:Bq w w'):fA w' P b D:=h.move d.size (d.block b h.lt) (λx _ hx=>d.block x hx)<|λ_ p _=>p
def fA.fr{S:Nat->Prop}(h:fA w P b D)(d:Fr S w w')(j:¬S b)(m:∀x,P x->x<w.heap.size->¬S x):fA w' P b D:=h.move d.size (d.block b h.lt j) (λx p z=>d.block x z<|m x p z)<|λ_ p _=>p
def fA.wide(h:fA w P b D)(d:∀x,P x->Q x):fA w Q b D:=h.move (br _) rfl (λ_ _ _=>rfl) (λx p _=>d x p)
def fA.low(h:fA w P b D):fA w (λx=>P x/\x<w.heap.size) b D:=h.move (br _) rfl (λ_ _ _=>rfl) (λx p z=>⟨p,z⟩)
def fA.new(w:ea)P:fA (w.alloc<|.map #[] 0) P w.heap.size (λ_=>ka):=⟨[],MG.new pT w,λ_ _=>rfl,λn u h=>qBg,λx u h=>qBg⟩
def abL w:(zeroValue 105).run qk w=.ok .nilIface w:=qkr
def fA.look(h:fA w P b D){tm}(j:Tryz.prog.underlying tm=ia (.map 182 105))n:(∃t u,D n=ia t/\dq w P t u/\(vf tm (Mv b) (Nv n) la).run qk w=.ok (.tuple #[u,.bool la]) w)\/
 (D n=ka/\(vf tm (Mv b) (Nv n) la).run qk w=.ok (.tuple #[.nilIface,.bool na]) w):=by
 obtain⟨L,d,h2,h3,h4⟩:=h;have hl:=d.ms.look KLV j (abL w) (n:Int) trivial (λ_ _=>trivial) la
 cases hg:ba (n:Int) L with
 |none=>grind|some u=>grind
def iB:Tryz.prog.underlying 347=ia (.map 182 105):=qkr
def oS:Tryz.prog.underlying 396=ia (.map 182 105):=qkr
def eN:Tryz.prog.underlying 144=ia (.map 9 358):=qkr
def abM(h:fA w P b D)n:aa qk 234 #[Mv b,Nv n] w λe w'=>∃u,e=.returned u/\dq w P (Dr D n) u/\w'=w:=by
 obtain⟨t,u,d,m,A⟩|⟨d,A⟩:=h.look iB n
 .obtain⟨ta,xa,rfl⟩:=m.iface;have j:=ai d;go_wp2
  go_ret;exact⟨_,rfl,by rw[Dr];rw[uh j];exact m,rfl⟩
 .have j:=ai d;go_wp2
  go_ret;exact⟨_,rfl,by rw[Dr];rw[uh j];exact .var n,rfl⟩
def ImI(P:Nat->Prop)n0 b D(_:List Nat)(B M:Nat->Prop)w:=(B=λx=>P x/\x<n0)/\(M=λ_=>False)/\fA w (λx=>P x/\x<n0) b D/\n0<=w.heap.size
def TG(E:P b){m:Nat}(J:b<m):Img 234 #[Mv b] #[] (Dr D) (λ_ _=>True) (ImI P m b D) where
 eg:=enters_of Tryz.func234 qkr rfl
 fB acc B M w w' h hz hk:=by
  obtain⟨rfl,rfl,d,j⟩:=h;exact⟨rfl,rfl,d.move hz (hk b<|qj ⟨E,J⟩) (λx p _=>hk x<|qj p)<|λ_ p _=>p,qm j hz⟩
 lt acc B M w h:=by
  obtain⟨rfl,rfl,d,j⟩:=h;rintro x(p|p)
  .omega
  .exact p.elim
 call acc B M w n h _:=by
  obtain⟨rfl,rfl,d,j⟩:=h;refine(abM d n).mono ?_;rintro e w'⟨u,rfl,A,rfl⟩;exact⟨u,_,_,rfl,A.wide λx p=>⟨λq=>q,qj p⟩,⟨rfl,rfl,d,j⟩,λx p=>qj p,λx p=>qj p,Fr.refl _ _⟩
def Qc t(P:Nat->Prop)w(e:ga)w':=∃u,e=.returned u/\dq w' (λx=>P x\/w.heap.size<=x) t u/\Bq w w'
def Fr.none{S:Nat->Prop}(h:Fr S w w')(d:∀b,¬S b):Bq w w':=⟨h.os,h.tape,h.output,h.size,λk hk=>h.block k hk<|d k⟩
def Gd(h:fA w P b D)(X:P b){v}(E:dq w Q t v)(Y:size t<=1000000000000)(j:size (sub (Dr D) t)<=1000000000000):aa qk 221 #[Mv b,v] w (Qc (bJ<|sub (Dr D) t) P w):=by
 have J:=zE (TG (D:=D) X h.lt) t [] _ _ w v Q ⟨rfl,rfl,h.low,br _⟩ (λi hi=>trivial) Y E<|λx _ _=>id;obtain⟨ta,xa,rfl⟩:=E.iface;go_in;go_wp;refine J.mono ?_;rintro e w1⟨u,B',M',rfl,m,_,_,_,F⟩;obtain⟨tu,xu,rfl⟩:=m.iface;have b1:=F.none<|λ_ q=>q;have O:=ai b1;have U:=XS m j;go_wp2_with fail;refine U.mono ?_;rintro e w2⟨u2,rfl,A,d⟩;obtain⟨tu2,xu2,rfl⟩:=A.iface
 go_wp2
 go_ret;have b1:=uh O;refine⟨_,rfl,A.wide λx p=>?_,b1.trans<|d.mono b1.size⟩;obtain p|p:=p
 .obtain q|q:=p.2
  .exact qj q.1
  .exact qi q
 .exact qi (qm b1.size p)
end
section
variable {w:ea} {b:Nat}
def Es{κ:Type}enc(L:List (κ×fa))(w:ea)(e:ga)(w':ea):=e=.returned (Mv w.heap.size)/\MG enc w' w.heap.size L/\Bq w w'/\w'.heap.size=w.heap.size+1
def TH{enc}{L:List (κ×fa)}{es:Array MapEntry}{d:Nat}(h:es.toList.map (λe=>(e.key,e.val))=L.map (λp=>(enc p.1,p.2))/\(es.toList.map (·.born)).Nodup/\(∀e∈es.toList,e.born<d)/\(L.map (·.1)).Nodup):Es enc L w (.returned<|Mv w.heap.size) (w.alloc<|.map es d):=
 ⟨rfl,⟨es,d,(vo w _).1,h⟩,bw _,ag⟩
def cT:Tryz.prog.underlying 148=ia (.map 9 416):=qkr
def Et{p:Prop}(h:p:=by
 simp only[v9];rw[Oper.upon_value]
 go_wp2
 go_ret
 exact TH HR):p:=h
def XU(h:MG pT w b L):aa qk 267 #[Mv b] w (Es pT L w):=by
 obtain⟨es,clock,d,HR⟩:=h;have hq:=λw=>run_eql_map_nil_sl (P:=Tryz.prog) w 347 _ _ (ia b) iB;go_in;go_wp;rw[run_callFunc_extern Tryz.func268 qkr qkr qkr (e:=Extern.MapsClone.clone) qkr,run_maps_clone_sl w 347 d];simp only[Result.andThen];rw[Oper.upon_value];go_wp2_with fail;rw[run_typeAssert_map_sl _ 347 _ _ _ _ iB];exact Et
def XV{L}(h:MG xo w b L):aa qk 256 #[Mv b] w (Es xo L w):=by
 obtain⟨es,clock,d,HR⟩:=h;have hq:=λw=>run_eql_map_nil_sl (P:=Tryz.prog) w 144 _ _ (ia b) eN;go_in;go_wp;rw[run_callFunc_extern Tryz.func268 qkr qkr qkr (e:=Extern.MapsClone.clone) qkr,run_maps_clone_sl w 144 d];simp only[Result.andThen];rw[Oper.upon_value];go_wp2_with fail;rw[run_typeAssert_map_sl _ 144 _ _ _ _ eN];exact Et
def Wl{L}(h:MG xo w b L):aa qk 314 #[Mv b] w (Es xo L w):=by
 obtain⟨es,clock,d,HR⟩:=h;have hq:=λw=>run_eql_map_nil_sl (P:=Tryz.prog) w 148 _ _ (ia b) cT;go_in;go_wp;rw[run_callFunc_extern Tryz.func268 qkr qkr qkr (e:=Extern.MapsClone.clone) qkr,run_maps_clone_sl w 148 d];simp only[Result.andThen];rw[Oper.upon_value];go_wp2_with fail;rw[run_typeAssert_map_sl _ 148 _ _ _ _ cT];exact Et
theorem fA.bF(J:∀m:Nat,ba (m:Int) L=ka->D m=ka)(O:∀(m:Nat)v,ba (m:Int) L=ia v->∃t,D m=ia t/\dq w P t v)(h4:∀x v,ba x L=ia v->∃m:Nat,x=(m:Int))(U:dq w P t u)(X:¬P b)(o:One b w w')(Y:MG pT w' b (Go.Proofs.YtonaidfgokhmoaaGreatDoor.bF (n:Int) u L)):fA w' P b (eE D n<|some t):=by
 have mv:∀{t v},dq w P t v->dq w' P t v:=λh=>h.move Vg (λx p _=>o.block x<|λe=>X<|e▸p)<|λ_ p _=>p;refine⟨_,Y,λm hm=>?_,λm v hm=>?_,λx v hx=>?_⟩
 .rw[aO]at hm;by_cases e:(n:Int)=(m:Int)
  .grind
  .rw[if_neg e]at hm;have d:¬m=n:=λq=>e (by rw[q]);simp only[eE,d,if_false];exact J m hm
 .rw[aO]at hm;by_cases e:(n:Int)=(m:Int)
  .rw[if_pos e]at hm;injection hm with hm;have d:m=n:=ae;subst hm;simp only[eE,d,if_true];exact⟨t,rfl,mv U⟩
  .rw[if_neg e]at hm;have d:¬m=n:=λq=>e (by rw[q]);simp only[eE,d,if_false];have⟨j,A,E⟩:=O m v hm;exact⟨j,A,mv E⟩
 .rw[aO]at hx;by_cases e:(n:Int)=x
  .exact⟨n,e.symm⟩
  .grind
def kU{tm}(d:Tryz.prog.underlying tm=ia (.map 182 105)){a}{Q}(U:o.guard=ka)m x v(j:o.op=kw tm m x v\/o.op=kv tm m x v)(X:a.eval m=Mv b)(h:fA w P b D)(Y:¬P b)(Z:dq w P t u)n(hx:a.eval x=Nv n)(hv:a.eval v=u)(hK:∀w',fA w' P b (eE D n<|some t)->One b w w'->wpList qk ops Q rest (a.put o.dst undef) w'):
 wpList qk ops Q (o::rest) a w:=by
 obtain⟨L,A,E,J,O⟩:=h;exact cz KLV d U m x v j X A (n:Int) u hx hv λw' hM o=>hK w' (fA.bF E J O Z Y o hM) o
def thD(D1 D2:Nat->Option Ty)(d:List Int)(n:Nat):Option Ty:=if(n:Int)∈d then(match D1 n with|some t=>ia (bJ<|sub (Dr D2) t)|none=>D2 n)else D2 n
def zI(D1 D2:Nat->Option Ty)n:=match D1 n with|some t=>ia (bJ<|sub (Dr D2) t)|none=>D2 n
def ThR(P:Nat->Prop)b1 D1 D2 L w gk wr:=
 ∃done,IG pT wr (w.heap.size+1) b1 L done gk/\fA wr (λx=>(P x/\x<w.heap.size)\/w.heap.size+2<=x) w.heap.size (thD D1 D2 done)/\Bq w wr
def XW(P:Nat->Prop)D1 D2 w(e:ga)w':=
 ∃b3,e=.returned (Mv b3)/\w.heap.size<=b3/\fA w' (λx=>P x\/w.heap.size<=x) b3 (zI D1 D2)/\Bq w w'
def abN{D2}(h1:fA w P b1 D1)(h2:fA w P b2 D2)(n0:P b2)(hz:∀n t,D1 n=ia t->size t<=1000000000000/\size (sub (Dr D2) t)<=1000000000000):
 aa qk 255 #[Mv b1,Mv b2] w (XW P D1 D2 w):=by
 have H2:=ai h2;have l1:=h1.lt;have l2:=h2.lt;obtain⟨L1,M1,Z,a0,b0⟩:=h1;obtain⟨L2,m2,c0,d0,e0⟩:=h2;have HC:=XU m2;have Q1:=And.intro Z<|And.intro a0 b0;have Q2:=And.intro c0<|And.intro d0 e0;go_in;go_wp;refine HC.mono ?_;rintro e w1⟨rfl,m3,k1,zz⟩;have⟨o,cnt,f0,lJ⟩:=(M1.af k1).range iB;rw[zz]at f0 lJ;have k2:Bq w (w1.alloc o):=k1.alloc (by rw[zz];omega) _;have X:=ai lJ;have HK:=ai k2;have S0:Hid (fA (w1.alloc o) (λx=>(P x/\x<w.heap.size)\/w.heap.size+2<=x) w.heap.size D2):=by
  obtain⟨r1,r2,r3⟩:=Q2;refine ai ⟨L2,m3.af<|bw _,r1,λn u hu=>?_,r3⟩;have⟨t,e,Y⟩:=r2 n u hu;exact⟨t,e,Y.move k2.size (λx _ hx=>k2.block x hx)<|λx p z=>qj ⟨p,z⟩⟩
 go_wp2
 go_loopg[] cnt (λgk wr=>ThR P b1 D1 D2 L1 w gk wr)
 case atStart=>
  refine⟨[],X,?_,HK⟩;have e:thD D1 D2 []=D2:=by funext n;simp[thD]
  rw[e];exact S0
 case round=>
  obtain⟨d,X,HS,A⟩:=hrel;have hiz:=X.lt;have zr:=A.size;rcases X.next (P:=qk) I' with⟨ha,g0⟩|⟨x,u,w2,E,hxd,J,g0,h0,i0,j0,Bu,hen⟩
  .go_wp2
   go_ret;refine⟨w.heap.size,rfl,br _,?_,A⟩;have e:thD D1 D2 d=zI D1 D2:=by
    funext n;unfold thD zI;by_cases q:(n:Int)∈d
    .rw[if_pos q]
    .rw[if_neg q];have:D1 n=ka:=by
      cases hg:ba (n:Int) L1 with
      |none=>exact Q1.1 n hg|some v=>exact absurd (ha _ v hg) q
     rw[this]
   rw[<-e];exact HS.wide λx p=>by obtain p|p:=p;exact qj p.1;exact qi ae
  .obtain⟨r1,r2,r3⟩:=Q1;obtain⟨n,rfl⟩:=r3 x u J;have⟨t,E1,Y⟩:=r2 n u J;have⟨k0,l0⟩:=hz n t E1;obtain⟨ta,xa,rfl⟩:=Y.iface;have O:=j0;have kb:∀i,i<w.heap.size->w2.heap[i]? =w.heap[i]? :=λi hi=>(O.block i ae ae).trans<|A.block i hi;have j:Bq w w2:=⟨O.os.trans A.os,O.tape.trans A.tape,O.output.trans A.output,ae,kb⟩;have HC:=Gd (H2.low.move j.size (kb b2 l2) (λx p _=>kb x p.2)<|λx p _=>p) (⟨n0,l2⟩:P b2/\b2<w.heap.size) (Y.af j) k0 l0;have S2:=HS.fr O ae (λx p _=>by obtain p|p:=p<;>omega);go_wp2_with fail;refine HC.mono ?_;rintro e w3⟨u3,rfl,hU,U⟩;obtain⟨tu,xu,rfl⟩:=hU.iface;have z3:=U.size;have S3:=S2.af U;have U3:=hU.wide (Q:=λx=>(P x/\x<w.heap.size)\/w.heap.size+2<=x) λx p=>by obtain p|p:=p;exact qj p;exact qi ae
   have I3:=h0.same (U.block b1 ae)<|U.block _ ae;have K3:=j.trans<|U.mono ae;go_wp2_with(refine kU iB rfl _ _ _ (qi rfl) rfl S3 ae U3 n rfl rfl ?_;intro w4 H' O';have S4:=ai H';have O4:=ai O';clear H' O');go_roundg E
   case measure=>exact i0
   case rel=>
    have o:=uh O4;refine⟨(n:Int)::d,I3.same (o.block b1 ae)<|o.block _ ae,?_,?_⟩
    .have e:thD D1 D2 ((n:Int)::d)=eE (thD D1 D2 d) n (ia<|bJ<|sub (Dr D2) t):=by
      funext m;unfold eE;by_cases q:m=n
      .subst q;unfold thD;rw[if_pos ag,if_pos rfl,E1]
      .have:¬(m:Int)=(n:Int):=ae;unfold thD;simp[q,this]
     rw[e];exact S4
    .have k:=K3;exact⟨o.os.trans k.os,o.tape.trans k.tape,o.output.trans k.output,by rw[o.size];exact k.size,λi hi=>(o.block i ae).trans<|k.block i hi⟩
end
def wX(rk:Nat->Nat):Ty->Nat
 |.var n=>rk n+1|.aM _ _=>0
structure ag6(K:Nat->Option Ty)R t t1:Prop where
 eq:sub R t1=sub R t
 op:∀n,t1=.var n->K n=ka
def ag7(J:Ty->Prop)(K:Nat->Option Ty)R rk P t w gk v wr:=
 ∃t1,Hid (gk=wX rk t1)/\wr=w/\dq w P t1 v/\Hid (J t1)/\Hid (sub R t1=sub R t)
section
variable {w:ea} {b:Nat}
def XX(J:Ty->Prop)(hJ:∀n t,K n=ia t->J t)(h:fA w P b K)(X:tJ K R rk){v}(Y:dq w P t v)(h0:J t):aa qk 272 #[Mv b,v] w λe w'=>∃u t1,e=.returned u/\dq w P t1 u/\ag6 K R t t1/\J t1/\w'=w:=by
 obtain⟨ta,xa,rfl⟩:=Y.iface;go_wp2
 go_loopg[1] (wX rk t) (λgk v wr=>ag7 J K R rk P t w gk v wr)
 case atStart=>exact⟨t,ai rfl,rfl,Y,ai h0,ai rfl⟩
 case round=>
  obtain⟨t1,E,rfl,Z,d,O⟩:=hrel
  cases Z with
  |var n=>
   obtain⟨j,u,e1,U,hl⟩|⟨e1,hl⟩:=h.look oS n
   .obtain⟨tu,xu,rfl⟩:=U.iface;have A:=ai e1
    go_wp2
    go_roundg(wX rk j)
    case measure=>
     rw[uh E]
     cases j with
     |var m=>have:=X.WI n m A;simp only[wX];omega|aM c l=>simp only[wX];omega
    case rel=>exact⟨j,ai rfl,rfl,U,ai<|hJ n j A,ai (by rw[<-uh O];exact(X.shut n j A).symm)⟩
   .have A:=ai e1
    go_wp2
    go_ret;exact⟨_,.var n,rfl,.var n,⟨O,λm hm=>by cases hm;exact A⟩,d,rfl⟩
  |aM c L sa sc vs hc bK hr=>
   go_wp2
   go_ret;exact⟨_,.aM c L,rfl,.aM c L sa sc vs hc bK hr,⟨O,λm hm=>by cases hm⟩,uh d,rfl⟩
end
def MU g cs(l:List Nat)(p:Nat->Bool)w:=∀(W:ea)(n:Nat),n∈l->Bq w W->aa qk g (#[Nv n]++cs) W λe w'=>e=.returned (.bool<|p n)/\Bq W w'
def IxV(l:List Nat)(p:Nat->Bool)k:=(k= -1/\∀n∈l,p n=na)\/∃i,∃h:i<l.length,k=(i:Int)/\p l[i]=la/\∀j(hj:j<l.length),j<i->p l[j]=na
def ag8(l:List Nat)(p:Nat->Bool)w gk v wr:=
 ∃j:Nat,Hid (gk=l.length-j)/\j<=l.length/\v=Nv j/\Bq w wr/\Hid (∀i(hi:i<l.length),i<j->p l[i]=na)
section
variable {w:ea} {v:fa}
def fv l:(oL l).length=l.length:=by simp[oL]
def oT(eg:∀args w,(callFunc g args).run qk w=.ok (.enter g args) w)(ho:gF w 182 base v (oL l))(hl:l.length<=1000000000000)(hp:MU g cs l p w):
 aa qk 281 #[v,.func (.func g) #[] cs] w λe w'=>∃k,e=.returned (Iv k)/\IxV l p k/\Bq w w':=by
 obtain⟨va,vc,rfl⟩:=dZ ho (n:=l.length)<|fv l;go_wp2
 go_loopg[8] l.length (λgk v wr=>ag8 l p w gk v wr)
 case atStart=>exact⟨0,ai ag,qr _,rfl,xn _ _,ai<|λi _ hi=>absurd hi ae⟩
 case round=>
  obtain⟨j,X,hj,rfl,J,m⟩:=hrel;by_cases d:j<l.length
  .have hd:=kK d;have Y:j<(oL l).length:=by rw[fv];exact d
   have⟨gv,cpv,mv,hv,hgv,Z,_⟩:=iC ho ae;injection hv with a0 b0 c0;subst a0;have A:=mg ho j Y;rw[show(oL l)[j]=Nv (l[j]) by simp[oL]]at A;have cg:=(qw (a:=⟨gv,j,ka⟩)<|J.block gv Z).trans A;have U:=hp wr l[j] (jt d) J;clear A b0 c0
   cases hpj:p l[j]with
   |true=>
    rw[hpj]at U;generalize hx:l[j]=x at*;go_wp2_with(go_at_fn g;refine U.mono ?_;rintro e w1⟨rfl,O⟩;have E:=ai O;clear O);go_ret;have k:=J;exact⟨j,rfl,qi ⟨j,d,rfl,by rw[hx];exact hpj,m⟩,k.trans<|E.mono k.size⟩
   |false=>
    rw[hpj]at U;generalize hx:l[j]=x at*;go_wp2_with(go_at_fn g;refine U.mono ?_;rintro e w1⟨rfl,O⟩;have E:=ai O;clear O);go_roundg(l.length-(j+1))
    case measure=>rw[uh X];omega
    case rel=>
     have k:=J;refine⟨j+1,ai rfl,ae,iF,k.trans<|E.mono k.size,ai<|λi hi hij=>?_⟩;by_cases e:i=j
     .subst e;rw[hx];exact hpj
     .exact m i hi ae
  .have hd:=nN d;have A:j=l.length:=ae;subst A
   go_wp2
   go_ret;refine⟨-1,rfl,qj ⟨rfl,λn hn=>?_⟩,J⟩;obtain⟨i,hi,rfl⟩:=jo hn;exact m i hi hi
def IxV.any{k}(h:IxV l p k):decide (0<=k)=l.any p:=by grind[IxV]
def zJ(eg:∀args w,(callFunc g args).run qk w=.ok (.enter g args) w)(d:gF w 182 base v (oL l))(J:l.length<=1000000000000)(O:MU g cs l p w):
 aa qk 282 #[v,.func (.func g) #[] cs] w λe w'=>e=.returned (.bool<|l.any p)/\Bq w w':=by
 have j:=oT eg d J O;obtain⟨va,vc,rfl⟩:=dZ d (n:=l.length)<|fv l;go_in;go_wp;refine j.mono ?_;rintro e w1⟨k,rfl,m,A⟩;have E:=m.any
 go_wp2
 go_ret;refine⟨?_,A⟩;rw[<-E];rfl
end
section
variable {b:Nat}
open Classical in
noncomputable def zK (R:Nat->Ty) (v:Nat) (n:Nat):Bool:=decide (aA v<|R n)
open Classical in
def Ja R v t:(vars [] t).any (zK R v)=decide (aA v<|sub R t):=by
 have h:∀n,n∈vars [] t↔aA n t:=λn=>by simpa using bC t [] n
 by_cases q:aA v (sub R t)
 .rw[decide_eq_true q,List.any_eq_true];have⟨m,d,j⟩:=(Go.Proofs.YtonaidfgokhmoaaGreatDoor.Un.lO t).1 q;exact⟨m,(h m).2 d,by simp[zK,j]⟩
 .rw[decide_eq_false q,List.any_eq_false];intro m d;simp only[zK,decide_eq_true_eq];exact λr=>q<|(Go.Proofs.YtonaidfgokhmoaaGreatDoor.Un.lO t).2 ⟨m,(h m).1 d,r⟩
def Qd P b K R v t:=∀(w:ea)(x:fa),fA w P b K->dq w P t x->size t<=1000000000000->
 aa qk 278 #[Mv b,x,Nv v] w λe w'=>e=.returned (.bool<|(vars [] t).any<|zK R v)/\Bq w w'
def Qe{p:Prop}(h:p:=by
 rw[hb]at HC;go_in;go_wp;refine HC.mono ?_;rintro e w1⟨rfl,HK⟩
 go_wp2
 go_ret
 exact⟨rfl,HK⟩):p:=h
def MW(A:tJ K R rk)(O:∀n t,K n=ia t->size t<=1000000000000){v:Nat}(U:K v=ka)n(X:∀t,K n=ia t->Qd P b K R v t){sb vb}(h:fA W P b K)(Y:Bx W sb #[Mv b])(Z:Bx W vb #[Nv v]):
 aa qk 283 #[Nv n,Pv sb,Pv vb] W λe w'=>e=.returned (.bool<|zK R v n)/\Bq W w':=by
 obtain⟨c1,f1,z1⟩:=Y;obtain⟨c2,f2,z2⟩:=Z;obtain⟨t,u,e1,m,E⟩|⟨e1,E⟩:=h.look oS n
 .obtain⟨tu,xu,rfl⟩:=m.iface;have hne:n≠v:=λq=>by rw[q,U]at e1;cases e1
  have J:((n:Int)==(v:Int))=na:=bQ;have HC:=X t e1 W _ h m<|O n t e1;have j:(vars [] t).any (zK R v)=zK R v n:=by
   rw[Ja,zK,A.shut n t e1]
  rw[j]at HC
  cases hb:zK R v n with
  |true=>
   exact Qe
  |false=>
   exact Qe
 .have j:zK R v n=decide (n=v):=by
   exact decide_eq_decide.2 (by rw[A.open_ n e1];simp[aA])
  rw[j];by_cases d:n=v
  .subst d;go_wp2
   go_ret;exact⟨ag,xn _ _⟩
  .have J:((n:Int)==(v:Int))=na:=bQ;go_wp2
   go_ret;exact⟨by simp[d],xn _ _⟩
def TK(hK:tJ K R rk)(hs:∀n t,K n=ia t->size t<=1000000000000){v:Nat}(hv:K v=ka)t(IH:∀n,aA n t->∀t',K n=ia t'->Qd P b K R v t'):Qd P b K R v t:=by
 intro w x J A O;have kb:Bq w ((w.alloc<|Cv #[Mv b] 396).alloc<|Cv #[Nv v] 182):=(bw _).alloc ag _;have b1:Bx ((w.alloc<|Cv #[Mv b] 396).alloc<|Cv #[Nv v] 182) w.heap.size #[Mv b]:=(Bx.new w _ _).below<|bw _;have U:Bx ((w.alloc<|Cv #[Mv b] 396).alloc<|Cv #[Nv v] 182) (w.heap.size+1) #[Nv v]:=by
  have:=Bx.new (w.alloc<|Cv #[Mv b] 396) #[Nv v] 182;simpa using this
 have X:=fI (A.af kb) O;obtain⟨ta,xa,rfl⟩:=A.iface;have j:(vars [] t).length<=1000000000000:=by
  exact I9
 have KB:=ai kb;have Y:=ai b1;go_in;go_wp;refine X.mono ?_;rintro e Z⟨V,rfl,E,d⟩;have⟨va,vc,m⟩:=dZ E (n:=(vars [] t).length)<|fv _;have hT:MU 283 #[Pv w.heap.size,Pv<|w.heap.size+1] (vars [] t) (zK R v) Z:=λW n hn hb=>
  have kW:=(KB.trans<|d.mono KB.size).trans<|hb.mono<|qm KB.size d.size
  MW hK hs hv n (λt' ht'=>IH n (by simpa using(bC t [] n).1 hn) t' ht') (J.af kW) ((Y.below d).below hb) ((U.below d).below hb)
 have HC:=zJ (enters_of Tryz.func283 qkr rfl) E j hT;have K1:=ai d;subst m;go_wp2_with fail;refine HC.mono ?_;rintro e w2⟨rfl,K2⟩
 go_wp2
 go_ret;have kb:=uh KB;have d:=uh K1;exact⟨rfl,(kb.trans<|d.mono kb.size).trans<|K2.mono<|qm kb.size d.size⟩
def XY(j:tJ K R rk)(E:∀n t,K n=ia t->size t<=1000000000000){v:Nat}(J:K v=ka):∀(s f:Nat)(t:Ty),size (sub R t)<=s->wX rk t<=f->Qd P b K R v t:=by
 intro s
 induction s using qp with
 |ind s ihs=>
  intro f
  induction f using qp with
  |ind f ihf=>
   intro t d A;refine TK j E J t λn hn t' ht'=>?_;have e:=j.shut n t' ht'
   cases t with
   |var m=>
    simp only[aA]at hn;subst hn;simp only[sub]at d;rw[e]at d;simp only[wX]at A;refine ihf (wX rk t') ?_ t' d<|br _
    cases t' with
    |var u=>have:=j.WI m u ht';simp only[wX];omega|aM c l=>simp only[wX];omega
   |aM c l=>
    have h3:=lX R n l qBx;simp only[sub,size]at d;exact ihs (size<|sub R t') (by rw[<-e];omega) (wX rk t') t' (br _)<|br _
end
structure TyI(V:List Nat)t:Prop where
 v:∀m,aA m t->m∈V
 z:size t<=48
 w:Whole t
def Bf V(K:Nat->Option Ty):=∀n t,K n=ia t->n∈V/\TyI V t
def opL(V:List Nat)(K:Nat->Option Ty):Nat:=(V.filter λn=>(K n).isNone).length
def aeT(h:n∈V)(e:K n=ka):opL V (eE K n<|some t)<opL V K:=by
 refine filter_lt (m:=n) (λi hi=>?_) h Vh (by simp[eE]);by_cases q:i=n
 .simp[eE,q]at hi
 .simpa[eE,q]using hi
def Jb V K K'(R R':Nat->Ty):=(K'=K/\R'=R)\/opL V K'<opL V K
def cP P b V K R x y w(e:ga)w':=
 ∃ok:Bool,e=.returned (.bool ok)/\Fr (λi=>i=b) w w'/\
  (ok=la->∃K' R' rk',fA w' P b K'/\tJ K' R' rk'/\Bf V K'/\Made R R' x y/\Jb V K K' R R')/\
  (ok=na->∀σ,sub σ (sub R x)≠sub σ (sub R y))
section
variable {w:ea} {b:Nat}
def Bf.p9(h:Bf V K):∀n t,K n=ia t->size t<=1000000000000:=λn t e=>by have:=(h n t e).2.z;omega
def Qf{p:Prop}(h:p:=by
 go_in;go_wp;refine HC.mono ?_;rintro e w1⟨rfl,K1⟩;have S1:=HS.af K1;have T1:=ht.af K1;go_wp2_with(refine kU oS rfl _ _ _ (Or.inr rfl) rfl S1 hP T1 n rfl rfl ?_;intro w4 H' O';have S4:=ai H';have O4:=ai O';clear H' O');go_ret;have o:=uh O4
 exact⟨la,rfl,(Fr.of K1).trans ⟨o.os,o.tape,o.output,Vg,λk _ hk=>o.block k hk⟩,λ_=>HY HO _ S4,λh=>by(cases h)⟩):p:=h
def Qg{p:Prop}(h:p:=by
 go_in;go_wp;refine HC.mono ?_;rintro e w1⟨rfl,K1⟩
 go_wp2
 go_ret
 exact⟨na,rfl,Fr.of K1,λh=>by(cases h),λ_ σ=>HN σ HO⟩):p:=h
def Jc(h:fA w P b K)(hP:¬P b)(j:tJ K R rk)(X:Bf V K)(E:K n=ka)(J:n∈V){x}(ht:dq w P t x)(O:TyI V t)(Z:∀u,t=.var u->K u=ka):
 aa qk 273 #[Mv b,Nv n,x] w (cP P b V K R (.var n) t w):=by
 have HS:=ai h;by_cases d:t=.var n
 .subst d
  cases ht
  have U:=aeO;go_wp2
  go_ret;exact⟨la,rfl,Fr.refl _ _,λ_=>⟨K,R,rk,HS,j,X,Made.refl rfl,qj ⟨rfl,rfl⟩⟩,λh=>Pj⟩
 .have HC:=XY (P:=P) (b:=b) j X.p9 E (size<|sub R t) (wX rk t) t (br _) (br _) w x h ht (by have:=O.z;omega);rw[Ja]at HC;have HN:∀σ,aA n (sub R t)->sub σ (sub R<|.var n)≠sub σ (sub R t):=λσ ho=>by
   cases t with
   |var u=>
    have:=j.open_ u<|Z u rfl;simp[sub,this,aA]at ho;exact absurd (by rw[ho]) d
   |aM c l=>exact abh j E ho σ
  have HY:¬aA n (sub R t)->∀w',fA w' P b (eE K n<|some t)->∃K' R' rk',fA w' P b K'/\tJ K' R' rk'/\Bf V K'/\Made R R' (.var n) t/\Jb V K K' R R':=λho w' hw=>by
   have⟨rk',A⟩:=j.bind E ho Z;refine⟨_,_,rk',hw,A,λm s e=>?_,Made.bind j E ho,qi<|aeT J E⟩;by_cases q:m=n
   .simp only[eE,q,if_true,Option.some.injEq]at e;subst e q;exact⟨J,O⟩
   .simp only[eE,q,if_false]at e;exact X m s e
  obtain⟨ta,Y,rfl⟩:=ht.iface;have A:(∃m,ta=182/\Y=Iv m/\(m==(n:Int))=na)\/∃p q,ta=194/\Y=Av #[p,q]:=by
   cases ht with
   |var m=>exact qj ⟨m,rfl,rfl,by simp;intro e;exact d<|by rw[show m=n by omega]⟩|aM c L sa sc vs hc bK hr=>exact qi ⟨_,_,rfl,rfl⟩
  cases ho:(@decide (aA n<|sub R t)<|kq _)with
  |true=>
   rw[ho]at HC;have HO:= @of_decide_eq_true _ (kq _) ho;obtain⟨m,rfl,rfl,hm⟩|⟨p,q,rfl,rfl⟩:=A
   .have U:=aeO;exact Qg
   .have U:=ag0;exact Qg
  |false=>
   rw[ho]at HC;have HO:= @of_decide_eq_false _ (kq _) ho;obtain⟨m,rfl,rfl,hm⟩|⟨p,q,rfl,rfl⟩:=A
   .have U:=aeO;exact Qf
   .have U:=ag0;exact Qf
end
@[simp] theorem ai1 a b w:(vd (.iface 194<|.agg #[a,b]) 105 194 na).run qk w=.ok (.agg #[a,b]) w:=qkr
def aY(w:ea)o:(w.alloc o).heap.size=w.heap.size+1:=ag
def pZ w C1 C2 v1 v2 wc:=∃p q,v1=Pv p/\v2=Pv q/\w.heap.size<=p/\w.heap.size<=q/\Bx wc p C1/\Bx wc q C2/\Bq w wc
theorem pZ.a w C1 C2 t1 t2:pZ w C1 C2 (Pv w.heap.size) (Pv<|w.heap.size+1) ((w.alloc<|.cells C1 t1).alloc<|.cells C2 t2).drew:=by
 refine⟨_,_,rfl,rfl,br _,Nat.le_succ _,((Bx.new w C1 t1).below<|bw _).lS,?_,((bw _).alloc ag _).drew⟩;have:=Bx.new (w.alloc<|Cv C1 t1) C2 t2;simp only[aY]at this;exact this.lS
def pZ.b w C1 C2 t1 t2:pZ w C1 C2 (Pv<|w.heap.size+1) (Pv w.heap.size) ((w.alloc<|.cells C2 t2).alloc<|.cells C1 t1).drew:=by grind[pZ,pZ.a]
def aeU P b V K R(L E:List Ty)p q C0 C1 w gk c wr:=
 ∃(j:Nat)(d:Nat->Option Ty)(m:Nat->Ty)(A:Nat->Nat),Hid (gk=L.length-j)/\j<=L.length/\c=Nv j/\Fr (λi=>i=b) w wr/\fA wr P b d/\tJ d m A/\Bf V d/\oq R m (L.take j) (E.take j)/\Hid (Jb V K d R m)/\Bx wr p C0/\Bx wr q C1
def Jd{p:Prop}(h:p:=by
 rw[jO,jP]at h;have:=congrArg kg h;rw[e1,e2]at this;simp at this):p:=h
def abO{d}(hc:CN c)(j:CN d)(h:pn c=pn d):c=d:=by
 have e1:(⟨#[45,62]⟩:BA).toList=[45,62]:=toList_mk _;have e2:(⟨#[44]⟩:BA).toList=[44]:=toList_mk _;obtain rfl|rfl|hc:=hc<;>obtain rfl|rfl|j:=j
 .rfl
 .exact Jd
 .rw[jO,e9 j]at h;exact absurd (by rw[<-h,e1])<|dQ j 45 [62] aD
 .exact Jd
 .rfl
 .rw[jP,e9 j]at h;exact absurd (by rw[<-h,e2])<|dQ j 44 [] aD
 .rw[jO,e9 hc]at h;exact absurd (by rw[h,e1])<|dQ hc 45 [62] aD
 .rw[jP,e9 hc]at h;exact absurd (by rw[h,e2])<|dQ hc 44 [] aD
 .rw[e9 hc,e9 j]at h;exact h
def TyI.at{V}{c}{L}(h:TyI V (.aM c L))i(d:i<L.length):TyI V L[i]:=
 ⟨λm hm=>h.v m<|P8 L i d hm,by have:=mr L i d;have:=h.z;simp only[size]at this;omega,uB h.w.2 i d⟩
section
variable {b:Nat}
def ag9 P b V K R rk x y:=∀(w:ea)(v u:fa),fA w P b K->tJ K R rk->Bf V K->TyI V x->TyI V y->dq w P x v->dq w P y u->
 aa qk 265 #[Mv b,v,u] w (cP P b V K R x y w)
def cP.fr{w:ea}{e:ga}(h:cP P b V K R x y w e w'):Fr (λi=>i=b) w w':=by grind[cP]
def cP.up{w:ea}{e:ga}(h:cP P b V K R x y w0 e w')(J:Bq w w0):cP P b V K R x y w e w':=by
 obtain⟨d,j,m,A,E⟩:=h;exact⟨d,j,(Fr.of J).trans m,A,E⟩
def Jb.trans{K1 K2}{R1 R2}(h:Jb V K K1 R R1)(k:Jb V K1 K2 R1 R2):Jb V K K2 R R2:=by grind[Jb]
def cP.of{x' y'}{w:ea}{e:ga}(h:cP P b V K R x' y' w e w')(j:sub R x'=sub R x)(m:sub R y'=sub R y):cP P b V K R x y w e w':=by
 obtain⟨A,E,J,O,U⟩:=h;refine⟨A,E,J,λe=>?_,λe σ=>by rw[<-j,<-m];exact U e σ⟩;have⟨X,Y,d,Z,q2,q3,q4,q5⟩:=O e;exact⟨X,Y,d,Z,q2,q3,q4.abg j m,q5⟩
def cP.swap{K}{R}{x y}{w}{e}{w'}(h:cP P b V K R x y w e w'):cP P b V K R y x w e w':=by
 obtain⟨j,m,A,E,J⟩:=h;refine⟨j,m,A,λe=>?_,λe σ q=>J e σ q.symm⟩;have⟨O,U,d,X,Y,Z,q4,q5⟩:=E e;exact⟨O,U,d,X,Y,Z,q4.swap,q5⟩
def XZ(hP:¬P b):∀(f s:Nat)(K:Nat->Option Ty)(R:Nat->Ty)(rk:Nat->Nat)(x y:Ty),opL V K<=f->size (sub R x)<=s->ag9 P b V K R rk x y:=by
 intro f
 induction f using qp with
 |_ f ihf=>
 intro s
 induction s using qp with
 |_ s ihs=>
  intro K R rk x y Hf Hs w v u h hK hI hx hy hv hu;have HS:=ai h;have k0:=XX (TyI V) (λn t e=>(hI n t e).2) h hK hv hx;have l0:=XX (TyI V) (λn t e=>(hI n t e).2) h hK hu hy;obtain⟨ta,xa,rfl⟩:=hv.iface;obtain⟨tb,xb,rfl⟩:=hu.iface;go_in;go_wp;refine k0.mono ?_;rintro e w1⟨v1,x1,rfl,a0,O,b0,rfl⟩;obtain⟨t0,u0,rfl⟩:=a0.iface;clear k0;go_wp2_with fail;refine l0.mono ?_;rintro e w2⟨u1,y1,rfl,c0,U,d0,rfl⟩;obtain⟨tb1,xb1,rfl⟩:=c0.iface;clear l0 h hv hu
  cases x1 with
  |var n=>
   have HC:=Jc HS hP hK hI (O.op n rfl) (b0.v n rfl) c0 d0 U.op
   cases a0
   have E:=ki O.eq U.eq;clear O U c0;go_wp2_with fail;refine HC.mono ?_;intro e w3 m;have HQ:=m.of E.1 E.2;obtain⟨ok,rfl,-⟩:=m;clear HC
   go_wp2
   go_ret;exact HQ
  |aM c L=>
  cases y1 with
  |var n=>
   have HC:=Jc HS hP hK hI (U.op n rfl) (d0.v n rfl) a0 b0 O.op;have A:∃p q,t0=194/\u0=Av #[p,q]:=by cases a0;exact⟨_,_,rfl,rfl⟩
   obtain⟨p,q,rfl,rfl⟩:=A
   cases c0
   have E:=ki O.eq U.eq;clear O U a0;go_wp2_with fail;refine HC.mono ?_;intro e w3 m;have HQ:=m.swap.of E.1 E.2;obtain⟨ok,rfl,-⟩:=m;clear HC
   go_wp2
   go_ret;exact HQ
  |aM d L2=>
   cases a0 with
   |aM _ _ sa sc vs hc bK hr=>
   cases c0 with
   |aM _ _ sa2 sc2 vs2 hc2 X4 hr2=>
   have hc:=hc.resolve_right b0.w.1;have hc2:=hc2.resolve_right d0.w.1;have E:=ki O.eq U.eq;clear O U;go_wp2_with fail;go_cut[11,12]from 40 (λv1 v2 wc=>pZ w2 #[Sv<|pn c,Lv sa L.length sc] #[Sv<|pn d,Lv sa2 L2.length sc2] v1 v2 wc)
   case first=>
    clear ihf ihs hr hr2 bK X4;go_region
    all_goals(
     go_wp2_with fail
     go_meet
     case rel=>first|exact pZ.a w2 _ _ _ _|exact pZ.b w2 _ _ _ _)
   case rest=>
    obtain⟨p,q,rfl,rfl,zp,zq,X1,X2,KC⟩:=hcut;obtain⟨c1,f1,z1⟩:=X1;obtain⟨c2,f2,z2⟩:=X2;by_cases h0:c=d
    .subst h0;by_cases A:L.length=L2.length
     .have n0:((L.length:Int) !=(L2.length:Int))=na:=bQ;have ajl:L.length<=48:=by have:=Em L;have:=b0.z;simp only[size]at this;omega
      have HE:=ai A;have T1:=show Bx wc p #[Sv<|pn c,Lv sa L.length sc]from⟨c1,f1,z1⟩;have T2:=show Bx wc q #[Sv<|pn c,Lv sa2 L2.length sc2]from⟨c2,f2,z2⟩;clear A
      go_wp2
      go_loopg[61] L.length (λgk c1 wr=>aeU P b V K R L L2 p q #[Sv<|pn c,Lv sa L.length sc] #[Sv<|pn c,Lv sa2 L2.length sc2] w2 gk c1 wr)
      case atStart=>exact⟨0,K,R,rk,ai ag,qr _,rfl,Fr.of KC,HS.af KC,hK,hI,by simpa using oq.nil R,ai<|qj ⟨rfl,rfl⟩,T1,T2⟩
      case round=>
       clear T1 T2 c1 c2 f1 f2 z1 z2;obtain⟨j,K1,R1,e0,o0,hj,rfl,X,p0,i0,j0,f0,g0,T1,T2⟩:=hrel;have A:=uh HE;by_cases bY:j<L.length
       .have hd:=kK bY;have hd':(j:Int)<(L2.length:Int):=ae;have J:j<L2.length:=ae;obtain⟨g1,rfl,v0,q0,Y⟩:=bK.resolve_left<|λe=>qBs;obtain⟨g2,rfl,x0,r0,Z⟩:=X4.resolve_left (λe=>by subst e;simp at J);have nb:∀i,P i->i<w2.heap.size->¬i=b:=λi hi _ e=>hP<|e▸hi;have a1:=(qw (a:=⟨g1,j,ka⟩)<|X.block g1 q0<|nb g1 v0 q0).trans<|Y j bY;have a2:=(qw (a:=⟨g2,j,ka⟩)<|X.block g2 r0<|nb g2 x0 r0).trans<|Z j J;have t1:=(hr j bY).fr X nb;have t2:=(hr2 j J).fr X nb;have ih:ag9 P b V K1 R1 e0 L[j] L2[j]:=by
         have hs1:size (sub R L[j])<=ak (aU R L):=by
          have:=mr (aU R L) j (by rw[eK];exact bY)
          rwa[P7 R L j bY]at this
         have s0:=Hs;rw[<-E.1]at s0;simp only[sub,size]at s0;obtain⟨rfl,rfl⟩|hlt:=uh g0
         .exact ihs (size<|sub R1 L[j]) ae K1 R1 e0 L[j] L2[j] Hf (br _)
         .exact ihf (opL V K1) (by have:=Hf;omega) (size<|sub R1 L[j]) K1 R1 e0 L[j] L2[j] (br _) (br _)
        have HC:=λ(W:ea)(hb:Bq wr W)=>ih W (vs j) (vs2 j) (p0.af hb) i0 j0 (b0.at j bY) (d0.at j J) (t1.af hb)<|t2.af hb;have⟨tu1,xu1,e1⟩:=t1.iface;have⟨tu2,xu2,e2⟩:=t2.iface;rw[e1]at a1 HC;rw[e2]at a2 HC;have s0:=ai T1;have y0:=ai T2;obtain⟨c1,f1,z1⟩:=T1;obtain⟨c2,f2,z2⟩:=T2;clear ih t1 t2 i0 j0 Y Z A;go_wp2_with fail;go_cut[61,76]from 61 to 77 (λc3 v3 wd=>c3=Nv j/\∃ok,v3=.bool (!ok)/\cP P b V K1 R1 L[j] L2[j] wr (Rv<|.bool ok) wd)
        case first=>
         clear ihf ihs hr hr2 bK X4 f0 g0 o0 HS hK hI hx hy Hf Hs E KC;go_region_with(go_at_call 265;refine(HC _ (xn _ _).drew).mono ?_;intro e w3 m;have HQ:=ai m;obtain⟨ok,rfl,-⟩:=m)
         all_goals(
          go_wp2_with fail
          go_meet
          case rel=>exact⟨rfl,ok,rfl,HQ.up (xn _ _).drew⟩)
        case rest=>
         obtain⟨rfl,ok,rfl,HQ⟩:=hcut;have F2:=HQ.fr;have ze:=HQ.fr.size;have zr:=X.size;have U1:=ai (s0.fr F2 (λe=>by have:=HS.lt;omega));have U2:=ai (y0.fr F2 (λe=>by have:=HS.lt;omega));have HF:=X.trans F2;clear F2 c1 f1 z1 c2 f2 z2 a1 a2 HC
         cases ok with
         |false=>
          go_wp2
          go_ret;refine cP.of ⟨na,rfl,HF,λh=>by(cases h),λ_ σ=>?_⟩ E.1 E.2;obtain⟨ok,m,_,_,q4⟩:=HQ;have q4:=q4 (by injection m with m;injection m with m;exact m.symm);rw[Je L j bY,Je L2 j J];exact f0.no bQ q4 c c σ
         |true=>
          go_wp2
          go_roundg(L.length-(j+1))
          case measure=>rw[uh o0];omega
          case rel=>
           obtain⟨ok,m,_,q3,_⟩:=HQ;have⟨K2,R2,z0,r1,r2,r3,r4,r5⟩:=q3 (by injection m with m;injection m with m;exact m.symm);refine⟨j+1,K2,R2,z0,ai rfl,ae,iF,HF,r1,r2,r3,?_,ai ?_,U1,U2⟩
           .rw[jf bY,jf J];exact f0.snoc bQ r4
           .exact g0.trans r5
       .have hd:=nN bY;have J:j=L.length:=ae;subst J;clear A
        go_wp2
        go_ret;refine cP.of ⟨la,rfl,X,λ_=>⟨K1,R1,e0,p0,i0,j0,?_,g0⟩,λh=>by(cases h)⟩ E.1 E.2;have m:=f0;rw[jc,uh HE,jc]at m;exact m.aM c
     .have n0:((L.length:Int) !=(L2.length:Int))=la:=bQ
      go_wp2
      go_ret;refine cP.of ⟨na,rfl,Fr.of KC,λh=>by(cases h),λ_ σ=>Te A⟩ E.1 E.2
    .have m:pn c≠pn d:=λe=>h0<|abO hc hc2 e;have n0:¬(pn c).toList=(pn d).toList:=λe=>m<|toList_inj e;clear m
     go_wp2
     go_ret;refine cP.of ⟨na,rfl,Fr.of KC,λh=>by(cases h),λ_ σ=>Mc h0⟩ E.1 E.2
end
namespace Un
def dr.xQ{t'}(h:dr t' t)(hw:Whole t):bJ t'=bJ t:=by grind[dr,Whole,bJ,sz,oA]
def dr.CD t(d:Whole t):dr (bJ t) t:=(dr.refl t).cut d
def Jf n:bJ (.var n)=.var n:=by simp[bJ,sz]
def yU(h:size t<=48)(hw:Whole t):bJ t=t:=by grind[size,Whole,bJ,oA]
def fy(hw:Whole t){C}(h:(vars [] t).length<=C)(d:48<=C):size (bJ t)<=1+C:=Tg h d λq=>Me q
end Un
section
def Jg t n(h:n∈occs t):aA n t:=by
 have:n∈vars [] t:=by rw[cC];exact(gy n _ _).2 (qi h)
 simpa using(bC t [] n).1 this
def X6(K:Nat->Option Ty)(R:Nat->Ty)(D:Nat->Option Ty):=∀n t,D n=ia t->t=bJ (R n)/\K n≠ka
structure zL(K:Nat->Option Ty)(R:Nat->Ty):Prop where
 whole:∀n,Whole<|R n
 len:∀n,(vars []<|R n).length<=1000
 small:∀n t,K n=ia t->size t<=48
theorem zL.size(h:zL K R)n:size (bJ<|R n)<=1001:=by have:=fy (h.whole n) (h.len n) aD;omega
def TL(j:tJ K R rk)(d:zL K R)(e:K n=ia t):bJ (sub (λm=>bJ<|R m) t)=bJ (R n):=by
 have h:dr (sub (λm=>bJ<|R m) t) (R n):=by
  rw[j.shut n t e];exact(dr.refl t).sub λm _=>dr.CD _<|d.whole m
 exact h.xQ<|d.whole n
abbrev TN(B:Nat->Prop)n wb x:=(B x\/n<=x)/\x≠wb
def Qh(b wb:Nat)K R B(D:Nat->Option Ty)n w(e:ga)w':=
 ∃u D',e=.returned u/\dq w' (TN B w.heap.size wb) (bJ<|R n) u/\fA w' (TN B w.heap.size wb) wb D'/\X6 K R D'/\(∀m,D m≠ka->D' m≠ka)/\(K n≠ka->D' n≠ka)/\Fr (λi=>i=wb) w w'
structure Eu b wb K R(B:Nat->Prop)D(w:ea):Prop where
 lt:∀x,B x->x<w.heap.size
 nw:¬B wb
 wl:wb<w.heap.size
 bb:B b
 s:fA w B b K
 d:fA w B wb D
 g:X6 K R D
def X7 b wb K R n:=∀(w:ea)(B:Nat->Prop)(D:Nat->Option Ty),Eu b wb K R B D w->
 aa qk 274 #[Mv b,Mv wb,Nv n] w (Qh b wb K R B D n w)
def ag_ b wb sx wx K R(B:Nat->Prop)(D:Nat->Option Ty)(_:List Nat)B1 M1 W:=
 (M1=λi=>i=wb)/\(∀x,B x->B1 x)/\B1 sx/\B1 wx/\Bx W sx #[Mv b]/\Bx W wx #[Mv wb]/\∃D1,Eu b wb K R B1 D1 W/\∀m,D m≠ka->D1 m≠ka
variable {b wb sx wx:Nat} {B:Nat->Prop}
def X8(E:X7 b wb K R n){B1}(J:Bx W sx #[Mv b])(O:Bx W wx #[Mv wb])(h:Eu b wb K R B1 D1 W):
 aa qk 279 #[Nv n,Pv sx,Pv wx] W (Qh b wb K R B1 D1 n W):=by
 obtain⟨c1,f1,z1⟩:=J;obtain⟨c2,f2,z2⟩:=O;have j:=E W B1 D1 h;go_in;go_wp;refine j.mono ?_;intro e w1 d;have m:=ai d;obtain⟨u,D',rfl,A,-⟩:=d;obtain⟨ta,xa,rfl⟩:=A.iface
 go_wp2
 go_ret;exact m
def abP(IH:∀n,aA n t->X7 b wb K R n)(U:sx≠wb/\wx≠wb):Img 279 #[] #[Pv sx,Pv wx] (λm=>bJ<|R m) (λ_ n=>aA n t) (ag_ b wb sx wx K R B D) where
 eg:=enters_of Tryz.func279 qkr rfl
 fB acc B1 M1 w w' h hz hk:=by
  obtain⟨rfl,X,A,E,J,O,D1,j,Y⟩:=h;refine⟨rfl,X,A,E,J.same hz<|hk _<|qj A,O.same hz<|hk _<|qj E,D1,⟨λx p=>qn (j.lt x p) hz,j.nw,qn j.wl hz,j.bb,?_,?_,j.g⟩,Y⟩
  .exact j.s.move hz (hk b<|qj j.bb) (λx p _=>hk x<|qj p) (λ_ p _=>p)
  .exact j.d.move hz (hk wb<|qi rfl) (λx p _=>hk x<|qj p) (λ_ p _=>p)
 lt acc B1 M1 w h:=by
  obtain⟨rfl,X,A,E,J,O,D1,j,Y⟩:=h;rintro x(p|rfl)
  .exact j.lt x p
  .exact j.wl
 call acc B1 M1 w n h hN:=by
  obtain⟨rfl,X,A,E,J,O,D1,j,Y⟩:=h;refine(X8 (IH n hN) J O j).mono ?_;rintro e w'⟨u,Z,rfl,hu,hd,hg,hm,_,F⟩;have wl:=j.wl;have hz:=F.size;refine⟨u,λx=>B1 x\/(w.heap.size<=x/\x<w'.heap.size),_,rfl,hu.wide λx p=>⟨p.2,p.1⟩,⟨rfl,λx p=>qj<|X x p,qj A,qj E,J.fr F U.1,O.fr F U.2,Z,⟨?_,?_,ae,qj j.bb,?_,?_,hg⟩,λm q=>hm m<|Y m q⟩,?_,λx q=>qj q,F⟩
  .rintro x(p|p)
   .have:=j.lt x p;omega
   .exact p.2
  .rintro(p|p)
   .exact j.nw p
   .omega
  .exact(j.s.fr F (λe=>j.nw<|e▸j.bb)<|λx p _ e=>j.nw<|e▸p).wide λx p=>qj p
  .refine hd.low.wide λx p=>?_;obtain q|q:=p.1.1
   .exact qj q
   .omega
  .grind
def abQ(hK:tJ K R rk)(hF:zL K R)n(IH:∀t,K n=ia t->∀m,aA m t->X7 b wb K R m):X7 b wb K R n:=by
 intro w B D h;have kb:Bq w ((w.alloc<|Cv #[Mv b] 396).alloc<|Cv #[Mv wb] 347):=(bw _).alloc ag _;have x1:Bx ((w.alloc<|Cv #[Mv b] 396).alloc<|Cv #[Mv wb] 347) w.heap.size #[Mv b]:=(Bx.new w _ _).below<|bw _;have x2:Bx ((w.alloc<|Cv #[Mv b] 396).alloc<|Cv #[Mv wb] 347) (w.heap.size+1) #[Mv wb]:=by
  have:=Bx.new (w.alloc<|Cv #[Mv b] 396) #[Mv wb] 347;simpa using this
 have bl:=h.lt b h.bb;have wl:=h.wl;obtain⟨c1,f1,z1⟩:=x1;obtain⟨c2,f2,z2⟩:=x2;have KB:=ai kb;have HH:=ai h;obtain⟨t,u,E1,E,hl⟩|⟨E1,hl⟩:=(h.d.af kb).look iB n
 .obtain⟨ta,xa,rfl⟩:=E.iface;have j:=ai E;go_wp2
  go_ret;have h:=uh HH;have Z:∀x,B x->TN B w.heap.size wb x:=λx p=>⟨qj p,λe=>h.nw<|e▸p⟩;obtain⟨rfl,_⟩:=h.g n t E1;exact⟨_,D,rfl,j.wide Z,(h.d.af KB).wide Z,h.g,λm q=>q,λ_=>by rw[E1];simp,Fr.of KB⟩
 .obtain⟨t,u,e2,E,a0⟩|⟨e2,a0⟩:=(h.s.af kb).look oS n
  .have E2:=ai e2;have hI:ag_ b wb w.heap.size (w.heap.size+1) K R B D [] (λx=>B x\/x=w.heap.size\/x=w.heap.size+1) (λi=>i=wb) ((w.alloc<|Cv #[Mv b] 396).alloc<|Cv #[Mv wb] 347):=by
    refine⟨rfl,λx p=>qj p,qi<|qj rfl,qi<|qi rfl,⟨c1,f1,z1⟩,⟨c2,f2,z2⟩,D,⟨?_,?_,ae,qj h.bb,(h.s.af kb).wide λx p=>qj p,(h.d.af kb).wide λx p=>qj p,h.g⟩,λm q=>q⟩
    .rintro x(p|rfl|rfl)
     .have:=h.lt x p;omega
     .omega
     .omega
    .rintro(p|p|p)
     .exact h.nw p
     .omega
     .omega
   have J:=hF.small n t e2;have HC:=zE (abP (IH t e2) ae) t [] _ _ _ u B hI (λi hi=>?_) ae E<|λx p _ q=>h.nw<|q▸p
   case refine_1=>exact Jg t _<|jt hi
   have b0:size (sub (λm=>bJ<|R m) t)<=1000000000000:=by
    have:=iA (λm=>bJ<|R m) 1001 t (λm _=>hF.size m) aD;have:1001*size t<=1001*48:=qs _ J;omega
   have c0:=TL hK hF e2;obtain⟨ta,xa,rfl⟩:=E.iface;go_in;go_wp;refine HC.mono ?_;rintro e w1⟨u1,B1,M1,rfl,O,⟨rfl,q1,q2,q3,q4,q5,D1,U,q7⟩,j,hM1,X⟩;obtain⟨tu,xu,rfl⟩:=O.iface;have d0:=XS O b0;have Q:=And.intro U<|And.intro q7 j;have zf:=X.size;obtain⟨c3,f3,z3⟩:=q4;obtain⟨c4,f4,z4⟩:=q5;go_wp2_with fail;refine d0.mono ?_;rintro e w2⟨u2,rfl,A,K2⟩;rw[c0]at A;obtain⟨tu2,xu2,rfl⟩:=A.iface;obtain⟨U,HM,j⟩:=Q;have z2':=K2.size;have c5:=(Bx.below (show Bx w1 (w.heap.size+1) #[Mv wb]from⟨c4,f4,z4⟩) K2).c
   have e0:∀x,B1 x->TN B w.heap.size wb x:=λx p=>⟨by
    obtain  (r|r|r)|r:=j x p
    .exact qj r
    .exact qi ae
    .exact qi ae
    .simp only[aY]at r;exact qi ae,λe=>U.nw<|e▸p⟩
   have S2:=(U.d.af K2).wide e0
   have U2:=ai (A.wide (Q:=TN B w.heap.size wb) λx p=>by
    obtain⟨p1,(Y|Y|Y)|Y⟩|p:=p
    .exact⟨qj Y,p1⟩
    .exact⟨qi ae,p1⟩
    .exact⟨qi ae,p1⟩
    .simp only[aY]at Y;exact⟨qi ae,p1⟩
    .exact⟨qi (by simp only[aY]at zf;omega),by simp only[aY]at zf;omega⟩)
   have HG:=ai U.g;go_wp2_with(refine kU iB rfl _ _ _ (qi rfl) rfl S2 (λq=>q.2 rfl) U2 n rfl rfl ?_;intro w4 Y O';have S4:=ai Y;have O4:=ai O';clear Y O');go_ret;have o:=uh O4;refine⟨_,eE D1 n<|some<|bJ<|R n,rfl,U2.move Vg (λx p _=>o.block x p.2)<|λ_ p _=>p,S4,λm s hs=>?_,λm hm=>?_,λ_=>by simp[eE],?_⟩
   .by_cases q:m=n
    .simp only[eE,q,if_true,Option.some.injEq]at hs;subst q;exact⟨hs.symm,by rw[uh E2];simp⟩
    .simp only[eE,q,if_false]at hs;exact HG m s hs
   .by_cases q:m=n
    .simp[eE,q]
    .simp only[eE,q,if_false];exact HM m hm
   .exact(((Fr.of KB).trans X).low<|K2|>.mono (by have:=KB.size;omega)).trans ⟨o.os,o.tape,o.output,Vg,λk _ hk=>o.block k hk⟩
  .have E2:=ai e2;go_wp2
   go_ret;have h:=uh HH;have Z:∀x,B x->TN B w.heap.size wb x:=λx p=>⟨qj p,λe=>h.nw<|e▸p⟩;refine⟨_,D,rfl,?_,(h.d.af KB).wide Z,h.g,λm q=>q,λq=>absurd E2 q,Fr.of KB⟩;rw[hK.open_ n<|uh E2,Jf];exact .var n
def Qi{p:Prop}(h:p:=by
 have h3:=lX R m l (by simpa[aA]using hm);have h4:=congrArg size q;simp only[sub,size]at h4
 exact ihs (size<|R m) ae (rk m) m (br _)<|br _):p:=h
def Jh(d:tJ K R rk)(A:zL K R):∀(s r n:Nat),size (R n)<=s->rk n<=r->X7 b wb K R n:=by
 intro s
 induction s using qp with
 |ind s ihs=>
  intro r
  induction r using qp with
  |ind r ihr=>
   intro n j h2;refine abQ d A n λt e m hm=>?_;have q:=d.shut n t e
   cases t with
   |var u=>
    simp only[aA]at hm;subst hm;have:=d.WI n u e;refine ihr (rk u) ae u ?_<|br _;rw[q]at j;simpa[sub]using j
   |aM c l=>
    exact Qi
end
namespace Un
def tJ.ind{K}{R}{rk}(j:tJ K R rk){J:Nat->Prop}(A:∀n,K n=ka->J n)(E:∀n t,K n=ia t->(∀m,aA m t->J m)->J n):∀(s r n:Nat),size (R n)<=s->rk n<=r->J n:=by
 intro s
 induction s using qp with
 |ind s ihs=>
  intro r
  induction r using qp with
  |ind r ihr=>
   intro n d hr
   cases e:K n with
   |none=>exact A n e|some t=>
    refine E n t e λm hm=>?_;have q:=j.shut n t e
    cases t with
    |var u=>
     simp only[aA]at hm;subst hm;have:=j.WI n u e;refine ihr (rk u) ae u ?_<|br _;rw[q]at d;simpa[sub]using d
    |aM c l=>
     exact Qi
def tJ.all(d:tJ K R rk){J:Nat->Prop}(j:∀n,K n=ka->J n)(A:∀n t,K n=ia t->(∀m,aA m t->J m)->J n)n:J n:=d.ind j A _ _ n (br _)<|br _
end Un
section
def X9(d:tJ K R rk)(E:Bf V K)n m:n∈V->aA m (R n)->m∈V:=by
 refine d.all (J:=λn=>n∈V->aA m (R n)->m∈V) (λn e hn ho=>?_) (λn t e ih hn ho=>?_) n
 .rw[d.open_ n e]at ho;simp only[aA]at ho;subst ho;exact hn
 .rw[d.shut n t e]at ho;have⟨x,j,A⟩:=(lO t).1 ho;exact ih x j ((E n t e).2.v x j) A
def CF(d:tJ K R rk)(j:Bf V K)n:Whole (R n):=by
 refine d.all (J:=λn=>Whole<|R n) (λn e=>?_) (λn t e ih=>?_) n
 .rw[d.open_ n e];trivial
 .rw[d.shut n t e];exact cu t (j n t e).2.w ih
def Ji{p:Prop}(h:p:=by
 rw[List.length_erase_of_mem ha]at this;have:0<V.length:=j3 ha;simp only[eG]
 omega):p:=h
def D8{V:List Nat}(h:l.Nodup)(j:∀x,x∈l->x∈V):l.length<=V.length:=by
 induction l generalizing V with
 |nil=>simp|cons a l ih=>
  have ha:=j a ag;have d:=List.nodup_cons.1 h;have:=ih (V:=V.erase a) d.2 λx hx=>(List.mem_erase_of_ne<|λe=>d.1 (by rw[<-e];exact hx)).2 (j x<|by simp[hx]);exact Ji
def Jj(j:tJ K R rk)(d:Bf V K)(A:V.length<=1000):zL K R where
 whole:=CF j d
 small n t e:=(d n t e).2.z
 len n:=by
  cases e:K n with
  |none=>rw[j.open_ n e];simp[vars,zg]|some t=>
   have m:=(d n t e).1;exact qm (D8 (dO (R n) qf) λx hx=>X9 j d n x m<|by simpa using(bC (R n) [] x).1 hx) A
def ClR(P:Nat->Prop)b K R L w gk wr:=
 ∃done D,IG pT wr (w.heap.size+1) b L done gk/\fA wr (λx=>(P x/\x<w.heap.size)\/w.heap.size+2<=x) w.heap.size D/\X6 K R D/\(∀n:Nat,(n:Int)∈done->D n≠ka)/\Bq w wr
def KW w P b(κ:Nat->Ty):=∃D,fA w P b D/\∀n,(D n=ka->κ n=.var n)/\(D n≠ka->D n=ia (bJ<|κ n))
def MX(P:Nat->Prop)R w(e:ga)w':=∃wb,e=.returned (Mv wb)/\w.heap.size<=wb/\KW w' (λx=>P x\/w.heap.size<=x) wb R/\Bq w w'
variable {w:ea} {b:Nat}
def TO(h:fA w P b K)(hb:P b)(hK:tJ K R rk)(hF:zL K R):aa qk 266 #[Mv b] w (MX P R w):=by
 have HH:=ai h;have bl:=h.lt;obtain⟨L,m1,q1,q2,q3⟩:=h;have k1:Bq w (w.alloc<|.map #[] 0):=bw _;have⟨o,cnt,a0,lJ⟩:=(m1.af k1).range oS;rw[aY]at a0 lJ;have k2:Bq w ((w.alloc<|.map #[] 0).alloc o):=k1.alloc ag _;have Z:=ai lJ;have K2:=ai k2;have S0:Hid (fA ((w.alloc<|.map #[] 0).alloc o) (λx=>(P x/\x<w.heap.size)\/w.heap.size+2<=x) w.heap.size<|λ_=>ka):=ai<|(fA.new w _).af<|bw _;have Q:=And.intro q1<|And.intro q2 q3;go_wp2
 go_loopg[] cnt (λgk wr=>ClR P b K R L w gk wr)
 case atStart=>exact⟨[],λ_=>ka,Z,uh S0,(λn t e=>by cases e),(λn hn=>by simp at hn),uh K2⟩
 case round=>
  obtain⟨E,D,Z,HS,HG,HD,A⟩:=hrel;have hiz:=Z.lt;have zr:=A.size;rcases Z.next (P:=qk) I' with⟨ha,b0⟩|⟨x,u,J,O,hxd,U,b0,c0,d0,e0,Bu,hen⟩
  .go_wp2
   go_ret;refine⟨w.heap.size,rfl,br _,⟨D,HS.wide λx p=>by obtain p|p:=p;exact qj p.1;exact qi ae,λn=>⟨λe=>?_,λe=>?_⟩⟩,A⟩
   .apply hK.open_ n
    cases hg:ba (n:Int) L with
    |none=>exact Q.1 n hg|some v=>exact absurd e<|HD n<|ha _ v hg
   .cases hd:D n with
    |none=>exact absurd hd e|some t=>rw[(HG n t hd).1]
  .obtain⟨n,rfl⟩:=Q.2.2 x u U;have X:=e0;have kb:∀i,i<w.heap.size->J.heap[i]? =w.heap[i]? :=λi hi=>(X.block i ae ae).trans<|A.block i hi;have d:Bq w J:=⟨X.os.trans A.os,X.tape.trans A.tape,X.output.trans A.output,ae,kb⟩;have Y:Eu b w.heap.size K R (λx=>(P x/\x<w.heap.size)\/(w.heap.size+2<=x/\x<J.heap.size)) D J:=by
    refine⟨?_,?_,ae,qj ⟨hb,bl⟩,?_,?_,HG⟩
    .rintro x(p|p)<;>omega
    .rintro(p|p)<;>omega
    .exact HH.move d.size (kb b bl) (λx _ hx=>kb x hx) (λx p hx=>qj ⟨p,hx⟩)
    .exact(HS.fr X ae (λx p _=>by obtain p|p:=p<;>omega)).low.wide λx p=>by
      obtain q|q:=p.1
      .exact qj q
      .exact qi ⟨q,p.2⟩
   have HC:=Jh (b:=b) (wb:=w.heap.size) hK hF (size<|R n) (rk n) n (br _) (br _) J _ D Y;have f0:Hid (K n≠ka):=by
    have⟨t,e,_⟩:=Q.2.1 n u U;rw[e];exact ai ag
   go_wp2_with fail;refine HC.mono ?_;rintro e w3⟨u3,D',rfl,g0,h0,G3,M3,i0,j⟩;obtain⟨tu,xu,rfl⟩:=g0.iface;have z3:=j.size;have N3:=i0 f0
   have S3:=ai (h0.wide (Q:=λx=>(P x/\x<w.heap.size)\/w.heap.size+2<=x) λx p=>by
    obtain  (q|q)|q:=p.1
    .exact qj q
    .exact qi q.1
    .exact qi ae)
   have I3:=c0.same (j.block b ae ae)<|j.block _ ae ae;have K3:=show Bq w w3 from⟨j.os.trans d.os,j.tape.trans d.tape,j.output.trans d.output,by have:=d.size;omega,λi hi=>(j.block i ae ae).trans<|d.block i hi⟩
   go_wp2
   go_roundg O
   case measure=>exact d0
   case rel=>
    refine⟨(n:Int)::E,D',I3,S3,G3,λm hm=>?_,K3⟩;obtain q|q:=List.mem_cons.1 hm
    .have:m=n:=ae;subst this;exact N3
    .exact M3 m (HD m q)
def X_(P:Nat->Prop)x y w(e:ga)w':=Bq w w'/\
 ((∃wb θ,e=.returned (.tuple #[Mv wb,.bool la])/\w.heap.size<=wb/\In.wY θ x y/\(∀n,Whole<|θ n)/\(∀n,(vars []<|θ n).length<=1000)/\KW w' (λi=>P i\/w.heap.size<=i) wb θ)\/(e=.returned (.tuple #[.map ka,.bool na])/\∀σ,sub σ x≠sub σ y))
def X'{v}(hx:dq w P x v)(hy:dq w P y u)(b0:size x<=48)(c0:size y<=48)(d0:Whole x)(e0:Whole y):aa qk 253 #[v,u] w (X_ P x y w):=by
 have k1:Bq w (w.alloc<|.map #[] 0):=bw _;have J:∀m,aA m x->m∈vars (vars [] x) y:=λm hm=>(bC y _ m).2<|qj<|(bC x [] m).2<|qi hm;have O:∀m,aA m y->m∈vars (vars [] x) y:=λm hm=>(bC y _ m).2<|qi hm;have U:∀m,m∈vars (vars [] x) y->aA m x\/aA m y:=λm hm=>by
  obtain q|q:=(bC y _ m).1 hm
  .obtain r|r:=(bC x [] m).1 q
   .simp at r
   .exact qj r
  .exact qi q
 have X:(vars (vars [] x) y).length<=1000:=by
  have d:=dt (occs x) [];have A:=dt (occs y)<|vars [] x;have h3:=du x;have h4:=du y;rw[<-cC]at d A;simp at d;omega
 have HC:=XZ (P:=λi=>P i/\i<w.heap.size) (b:=w.heap.size) (V:=vars (vars [] x) y) ae _ _ (λ_=>ka) Ty.var (λ_=>0) x y (br _) (br _) _ v u (fA.new w _) tJ.start (λn t e=>by cases e) ⟨J,b0,d0⟩ ⟨O,c0,e0⟩ (hx.low.af k1) (hy.low.af k1);obtain⟨ta,xa,rfl⟩:=hx.iface;obtain⟨tb,xb,rfl⟩:=hy.iface;have K1:=ai k1;go_in;go_wp;refine HC.mono ?_;rintro e w1⟨ok,rfl,Y,d,A⟩;have kb:Bq w w1:=by
  have k:=uh K1;exact⟨Y.os.trans k.os,Y.tape.trans k.tape,Y.output.trans k.output,qm k.size Y.size,λi hi=>(Y.block i (by have:=k.size;omega) ae).trans<|k.block i hi⟩
 cases ok with
 |false=>
  have j:=A rfl;have KB:=ai kb
  go_wp2
  go_ret2;refine⟨KB,qi ⟨rfl,λσ=>?_⟩⟩;have:=j σ
  rwa[cM,cM]at this
 |true=>
  have⟨K',R',rk',s1,j,E,Z,s5⟩:=d rfl;have HC:=TO (P:=λi=>P i\/w.heap.size<=i) (s1.wide λi p=>qj p.1) (qi<|br _) j<|Jj j E X;have KB:=ai kb;have H3:=ki j<|ki E Z;go_wp2_with fail;refine HC.mono ?_;rintro e w2⟨wb,rfl,a0,HK,K2⟩
  go_wp2
  go_ret2;obtain⟨j,E,Z⟩:=H3;have kb:=uh KB;refine⟨kb.trans<|K2.mono kb.size,qj ⟨wb,R',rfl,qm kb.size a0,⟨Z.same,λσ e n=>?_,λn d A=>?_,λn m d A=>?_⟩,CF j E,(Jj j E X).len,?_⟩⟩
  .have:=Z.least σ (by rw[cM,cM];exact e) n;simpa[sub]using this
  .cases e:K' n with
   |none=>exact j.open_ n e|some t=>obtain q|q:=U n (E n t e).1;exact absurd q d;exact absurd q A
  .exact U m (X9 j E n m (by obtain q|q:=d;exact J n q;exact O n q) A)
  .obtain⟨D,d1,d2⟩:=HK;exact⟨D,d1.wide λi p=>by obtain  (p|p)|p:=p;exact qj p;exact qi p;exact qi<|qm kb.size p,d2⟩
end
section
variable {w:ea} {b:Nat} {κ:Nat->Ty}
theorem KW.move(h:KW w P b κ)(m:w.heap.size<=w'.heap.size)(A:w'.heap[b]? =w.heap[b]?)(E:∀x,P x->x<w.heap.size->w'.heap[x]? =w.heap[x]?)(J:∀x,P x->x<w.heap.size->Q x):KW w' Q b κ:=by
 obtain⟨D,d,j⟩:=h;exact⟨D,d.move m A E J,j⟩
def KW.af(h:KW w P b κ)(m:Bq w w'):KW w' P b κ:=by obtain⟨D,d,j⟩:=h;exact⟨D,d.af m,j⟩
def KW.wide(h:KW w P b κ)(m:∀x,P x->Q x):KW w Q b κ:=by obtain⟨D,d,j⟩:=h;exact⟨D,d.wide m,j⟩
def KW.fr{S}(h:KW w P b κ)(m:Fr S w w')(A:¬S b)(E:∀x,P x->x<w.heap.size->¬S x):KW w' P b κ:=by obtain⟨D,d,j⟩:=h;exact⟨D,d.fr m A E,j⟩
def KW.lt(h:KW w P b κ):b<w.heap.size:=by obtain⟨D,d,h2⟩:=h;exact d.lt
def xR(h:∀n,(D n=ka->κ n=.var n)/\(D n≠ka->D n=ia (bJ<|κ n)))n:Dr D n=bJ (κ n):=by
 rw[Dr]
 cases e:D n with
 |none=>rw[(h n).1 e,Jf];rfl|some t=>grind
structure vS(κ:Nat->Ty):Prop where
 wh:∀n,Whole<|κ n
 len:∀n,(vars []<|κ n).length<=1000000
theorem vS.sz(h:vS κ)n:size (bJ<|κ n)<=1000001:=by have:=fy (h.wh n) (h.len n) aD;omega
structure TW w P S x v:Prop where
 ex:∃x',dq w P x' v/\dr x' x/\size x'<=S
 wh:Whole x
theorem TW.move{S}{x}{v}(h:TW w P S x v)(J:w.heap.size<=w'.heap.size)(O:∀b,P b->b<w.heap.size->w'.heap[b]? =w.heap[b]?)(U:∀b,P b->b<w.heap.size->Q b):TW w' Q S x v:=by
 obtain⟨⟨d,j,m,A⟩,E⟩:=h;exact⟨⟨d,j.move J O U,m,A⟩,E⟩
def TW.af{v:fa}(h:TW w P S x v)(d:Bq w w'):TW w' P S x v:=h.move d.size (λb _ hz=>d.block b hz)<|λ_ p _=>p
def TW.wide{v:fa}(h:TW w P S x v)(d:∀x,P x->Q x):TW w Q S x v:=h.move (br _) (λ_ _ _=>rfl)<|λb p _=>d b p
def TW.fr{v:fa}(h:TW w P S x v)(d:Fr F w w')(j:∀b,P b->b<w.heap.size->¬F b):TW w' P S x v:=h.move d.size (λb p z=>d.block b z<|j b p z)<|λ_ p _=>p
def TW.iface{S}{x}{v}(h:TW w P S x v):∃a y,v=.iface a y:=by obtain⟨⟨x',d,_⟩,_⟩:=h;exact d.iface
def TW.le{S'}{v:fa}(h:TW w P S x v)(J:S<=S'):TW w P S' x v:=by obtain⟨⟨d,j,m,A⟩,E⟩:=h;exact⟨⟨d,j,m,qm A J⟩,E⟩
def TW.of{v:fa}(h:dq w P x v)(d:Whole x)(j:size x<=S):TW w P S x v:=⟨⟨x,h,dr.refl x,j⟩,d⟩
def tP(h:KW w P b κ)(U:P b)(j:vS κ)(hS:S<=900000){v:fa}(X:TW w Q S x v):aa qk 221 #[Mv b,v] w (Qc (bJ<|sub κ x) P w):=by
 obtain⟨D,A,m⟩:=h;obtain⟨⟨d,E,J,t3⟩,O⟩:=X;have e:bJ (sub (Dr D) d)=bJ (sub κ x):=by
  refine dr.xQ (J.sub λn _=>?_)<|cu x O λn _=>j.wh n;rw[xR m n];exact dr.CD _<|j.wh n
 rw[<-e];refine Gd A U E ae ?_;have q:=iA (Dr D) 1000001 d (λn _=>by rw[xR m n];exact j.sz n) aD;have:1000001*size d<=1000001*900000:=qs _ ae;omega
def TW.Wg{v:fa}(X:TW w P S x v)(j:vS κ)(hS:S<=900000):size (bJ<|sub κ x)<=1000000000000:=by
 obtain⟨⟨d,t1,E,t3⟩,J⟩:=X;have m:=cu x J λn _=>j.wh n;have e:=dr.xQ (E.sub λn _=>dr.CD _<|j.wh n) m;have q:=iA (λn=>bJ<|κ n) 1000001 d (λn _=>j.sz n) aD;have q2:1000001*size d<=1000001*900000:=qs _ ae;have O:(vars []<|sub κ x).length<=1000001*900000:=by
  have A:=gU<|sub κ x;rw[<-e,gU]at A;rw[<-A,cC];have U:=dt (occs<|sub (λn=>bJ<|κ n) d) [];have h3:=du<|sub (λn=>bJ<|κ n) d;simp only[nM]at U;omega
 have:=fy m O aD;omega
end
abbrev guW(f:Fl)(vl vr:fa):fa:=.iface 344<|.agg #[Nv f.kind,Nv f.ah,Nv f.to,vl,vr]
structure qM w P(x:In.Ft)(vl vr:fa):Prop where
 p9:x.f.kind=7->vl=.nilIface/\vr=.nilIface
 apart:x.f.kind=6->eh w P x.l vl/\eh w P x.r vr
 k:x.f.kind=6\/x.f.kind=7
def abR(P:Nat->Prop)κ u x y f t w(e:ga)w':=Bq w w'/\∃o,In.tG x y f t ⟨κ,u⟩ o/\match o with
 |.ok (_,s)=>∃b,e=.returned (Mv b)/\w.heap.size<=b/\KW w' (λi=>P i\/w.heap.size<=i) b s.k/\∀n,Whole (s.k n)|.error z=>∃vl vr,e=.panicked [{v:=guW z.f vl vr,recovered:=na}]/\qM w' (λi=>P i\/w.heap.size<=i) z vl vr
section
variable {w:ea}
def mO f t:aa qk 223 #[.agg #[Iv f,Iv t]] w λe w'=>e=.returned (.agg #[Iv 7,Iv f,Iv t,.nilIface,.nilIface])/\Bq w w':=by
 go_wp2
 exact bodyPost_ret (v:=Av #[Iv 7,Iv f,Iv t,Zv,Zv]) (by simp[results,Tryz.results223,go_sem]) rfl ⟨rfl,(bw _).alloc ag _⟩
def Ev f t ta tb xa xb:aa qk 254 #[.agg #[Iv f,Iv t],.iface ta xa,.iface tb xb] w λe w'=>e=.returned (.agg #[Iv 6,Iv f,Iv t,.iface ta xa,.iface tb xb])/\Bq w w':=by
 go_wp2
 exact bodyPost_ret (v:=Av #[Iv 6,Iv f,Iv t,Fv ta xa,Fv tb xb]) (by simp[results,Tryz.results254,go_sem]) rfl ⟨rfl,(bw _).alloc ag _⟩
variable {b:Nat} {κ:Nat->Ty}
def DK t(d:Whole t):(48<sz (bJ t)↔48<size t)/\(size t<=48->bJ t=t):=by
 refine⟨(dr.CD t d).adn d,λh=>yU h d⟩
def Hw(h:KW w P b κ)(hb:P b)(hf:vS κ)(hS:S<=900000){v:fa}(hx:TW w P S x v)(hy:TW w P S y u)f t us:
 aa qk 231 #[Mv b,v,u,.agg #[Nv f,Nv t]] w (abR P κ us x y f t w):=by
 have⟨k0,B0⟩:=rF w #[Nv f,Nv t] 90;have a0:=cu x hx.wh λn _=>hf.wh n;have b0:=cu y hy.wh λn _=>hf.wh n;have H1:=tP (h.af k0) hb hf hS<|hx.af k0;have HH:=ai h;have K0:=ai k0;obtain⟨ta,xa,rfl⟩:=hx.iface;obtain⟨tb,xb,rfl⟩:=hy.iface;clear h k0;go_in;go_wp;refine H1.mono ?_;rintro e w1⟨u1,rfl,c0,k1⟩;have j:=K0.trans<|k1.mono K0.size;have H2:=tP (HH.af j) hb hf hS<|hy.af j;have U1:=c0.wide (Q:=λi=>P i\/w.heap.size<=i) λi p=>by obtain p|p:=p;exact Or.inl p;exact Or.inr<|Nat.le_trans K0.size p
 have B1:=B0.below k1;obtain⟨h0,i0,rfl⟩:=c0.iface;clear c0 k1 H1 B0;go_wp2_with fail;refine H2.mono ?_;rintro e w2⟨u2,rfl,d0,k2⟩;have e0:=j.trans<|k2.mono j.size;have f0:=U1.af k2;have g0:=d0.wide (Q:=λi=>P i\/w.heap.size<=i) λi p=>by obtain p|p:=p;exact qj p;exact qi<|qm j.size p
 have B2:=B1.below k2;obtain⟨j0,l0,rfl⟩:=d0.iface;have S1:=pw _ w2 _ _ f0<|hx.Wg hf hS;have S2:=λ(W:ea)(hk:Bq w2 W)=>pw _ W _ _ (g0.af hk)<|hy.Wg hf hS;obtain⟨n1,N1⟩:∃n,n=sz (bJ<|sub κ x):=⟨_,rfl⟩;obtain⟨n2,N2⟩:∃n,n=sz (bJ<|sub κ y):=⟨_,rfl⟩;rw[<-N1]at S1;rw[<-N2]at S2;clear d0 k2 H2 B1 U1 j;go_wp2_with fail;refine S1.mono ?_;rintro e w3⟨rfl,K3⟩;have S2:=S2 w3 K3;have B3:=B2.below K3;clear S1 B2;go_wp2_with fail;refine S2.mono ?_;rintro e w4⟨rfl,k4⟩;have B4:=ai<|B3.below k4;have X:=K3.trans<|k4.mono K3.size;have E:=e0.trans<|X.mono e0.size;have U3:=f0.af X;have U4:=g0.af X;clear k4 S2 B3 X K3 f0 g0 e0;have⟨c4,f4,z4⟩:=uh B4;have e1:=DK (sub κ x) a0;have J:=DK (sub κ y) b0;rw[<-N1]at e1;rw[<-N2]at J;have E1:=ai e1;have E2:=ai J;clear e1 J;have KX:=hf.wh;by_cases hlt:n1<n2
 all_goals(
  by_cases n0:48<n1\/48<n2
  .first|(have d:(48:Int)<(n1:Int):=by omega)|(have d:(48:Int)<(n2:Int):=by omega)
   have HT:=mO (w:=w4) (f:Int) (t:Int);go_wp2_with fail;refine HT.mono ?_;rintro e w5⟨rfl,Z⟩;have K5:=ai Z;clear Z HT;go_wp2_with fail;have O:=E.trans<|K5.mono E.size;refine⟨rfl,O,.error<|In.p9 f t,qj ⟨?_,rfl⟩,Zv,Zv,rfl,⟨λ_=>⟨rfl,rfl⟩,(λh=>Pj),qi rfl⟩⟩;obtain q|q:=n0
   .exact qj (E1.1.1 q)
   .exact qi (E2.1.1 q)
  .have hm1:¬(48:Int)<(n1:Int):=ae;have hm2:¬(48:Int)<(n2:Int):=ae;have s1:size (sub κ x)<=48:=by have:=E1.1;omega
   have s2:size (sub κ y)<=48:=by have:=E2.1;omega
   have V1:=U3;have V2:=U4;rw[(uh E1).2 s1]at V1;rw[(uh E2).2 s2]at V2;have HU:=X' V1 V2 s1 s2 a0 b0;go_wp2_with fail;refine HU.mono ?_;rintro e w5⟨Z,hp⟩;have B5:=ai<|B4.below Z;have⟨c5,f5,z5⟩:=uh B5;have K5:=ai Z;have U:=ai<|E.trans<|Z.mono E.size;have d:=ki s1 s2;have z45:=Z.size;have z04:=E.size;clear c4 f4 z4 HU s1 s2 Z;obtain⟨wb,θ,rfl,hwb,hM,A,o0,p0⟩|⟨rfl,HN⟩:=hp
   .have s0:KW w5 (λi=>P i\/w.heap.size<=i) b κ:=(HH.af U).wide λi p=>qj p;have t0:=p0.wide λi p=>by
     obtain p|p:=p
     .exact p
     .exact qi ae
    obtain⟨D1,d1,d2⟩:=s0;obtain⟨D2,e1,J⟩:=t0;have q0:∀n t,D1 n=ia t->size t<=1000000000000/\size (sub (Dr D2) t)<=1000000000000:=λn t ht=>by
     have Y:=(d2 n).2 (by rw[ht];simp);rw[ht]at Y;injection Y with Y;subst Y;have h2:=hf.sz n;have h3:=iA (Dr D2) 1001 (bJ<|κ n) (λm _=>by rw[xR J m];have:=fy (A m) (o0 m) aD;omega) aD;have h4:1001*size (bJ<|κ n)<=1001*1000001:=qs _ h2;exact⟨ae,ae⟩
    have HT:=abN d1 e1 (qi ae) q0;have HD:=ki d2 J;have u0:=ki hM A;clear d1 e1 d2 J q0 p0 o0 hM A;go_wp2_with fail;refine HT.mono ?_;rintro e w6⟨b3,rfl,hb3,S3,K6⟩;clear HT
    go_wp2
    go_ret;have O:=U.trans<|K6.mono U.size;obtain⟨d2,J⟩:=HD;obtain⟨hM,A⟩:=u0;have r0:∀n,Whole<|sub θ<|κ n:=λn=>cu _ (KX n) λm _=>A m;refine⟨O,.ok ((),⟨λn=>sub θ<|κ n,us⟩),qi ⟨d.1,d.2,qj ⟨θ,hM,rfl⟩⟩,b3,rfl,ae,⟨zI D1 D2,S3.wide λi p=>?_,λn=>⟨λq=>?_,λq=>?_⟩⟩,r0⟩
    .obtain p|p:=p
     .exact p
     .exact qi ae
    .rw[zI]at q
     cases hd:D1 n with
     |none=>
      rw[hd]at q;show sub θ (κ n)=_;rw[(d2 n).1 hd,sub,(J n).1 q]
     |some t=>rw[hd]at q;cases q
    .rw[zI]
     cases hd:D1 n with
     |none=>
      show D2 n=ia (bJ<|sub θ<|κ n);rw[(d2 n).1 hd,sub];refine(J n).2 λr=>q ?_;rw[zI];rw[hd];exact r
     |some t=>
      have Y:=(d2 n).2 (by rw[hd];simp);rw[hd]at Y;injection Y with Y;subst Y;show ia (bJ<|sub (Dr D2)<|bJ<|κ n)=ia (bJ<|sub θ<|κ n);congr 1;refine dr.xQ ((dr.CD _<|KX n).sub λm _=>?_)<|r0 n;rw[xR J m];exact dr.CD _<|A m
   .have HA:=Ev (w:=w5) (f:Int) (t:Int) h0 j0 i0 l0;go_wp2_with fail;refine HA.mono ?_;rintro e w6⟨rfl,K6⟩;clear HA;go_wp2_with fail;have Y:=K5.trans<|K6.mono K5.size;have O:=U.trans<|K6.mono U.size;refine⟨rfl,O,.error ⟨⟨6,f,t⟩,sub κ x,sub κ y⟩,qi ⟨d.1,d.2,qi ⟨HN,rfl⟩⟩,Fv h0 i0,Fv j0 l0,rfl,⟨(λh=>Pj),λ_=>⟨?_,?_⟩,qj rfl⟩⟩
    .exact(V1.af Y).v a0
    .exact(V2.af Y).v b0)
end
section
variable [DecidableEq κ] {enc:κ->fa}
def uC(x:κ):List (κ×fa)->List (κ×fa)
 |[]=>[]|p::l=>if p.1=x then l else p::uC x l
def Jk(x:κ):∀(L:List (κ×fa)),List.Sublist (uC x L) L
 |[]=>List.Sublist.slnil|p::l=>by
  rw[uC];split
  .exact List.sublist_cons_self _ _
  .exact(Jk x l).cons_cons p
def zM(x y:κ):∀{L:List (κ×fa)},(L.map (·.1)).Nodup->ba y (uC x L)=if x=y then ka else ba y L
 |[],_=>by simp[uC,ba]|p::l,h=>by
  simp only[jd,jl]at h;unfold uC;by_cases e:p.1=x
  .rw[if_pos e];by_cases q:x=y
   .rw[if_pos q]
    cases hg:ba y l with
    |none=>rfl|some v=>exact absurd (rX.1 (by rw[hg];rfl)) (by rw[<-q,<-e];exact h.1)
   .rw[if_neg q]
    conv=>rhs;unfold ba
    rw[if_neg<|λr=>q<|e.symm.trans r]
  .rw[if_neg e];unfold ba;rw[zM x y h.2];by_cases q:p.1=y
   .rw[if_pos q,if_pos q,if_neg<|λr=>e<|q.trans r.symm]
   .rw[if_neg q,if_neg q]
def Qj(x:κ):∀(L:List (κ×fa))(es:List MapEntry)(i j:Nat)(u:fa),es.map (λe=>(e.key,e.val))=L.map (λp=>(enc p.1,p.2))->xK x L i=ia (j,u)->i<=j/\(es.eraseIdx<|j-i).map (λe=>(e.key,e.val))=(uC x L).map (λp=>(enc p.1,p.2))
 |[],es,i,j,u,_,h=>by simp[xK]at h|p::l,[],i,j,u,h,_=>vB|p::l,e0::es,i,j,u,Tf,h=>by
  simp only[jd,List.cons.injEq,Prod.mk.injEq]at Tf;rw[xK]at h;split at h
  .rename_i hp;simp only[Option.some.injEq,Prod.mk.injEq]at h;obtain⟨rfl,rfl⟩:=h;refine⟨br _,?_⟩;simp[uC,hp,Tf]
  .rename_i hp;have⟨h1,d⟩:=Qj x l es (i+1) j u Tf.2 h;refine⟨ae,?_⟩;rw[show j-i=(j-(i+1))+1 by omega];simp[uC,hp,d,Tf]
def uD(x:κ):∀(L:List (κ×fa)),ba x L=ka->uC x L=L
 |[],_=>rfl|p::l,h=>by
  rw[ba]at h;rw[uC];split
  .rename_i e;rw[if_pos e]at h;cases h
  .rename_i e;rw[if_neg e]at h;rw[uD x l h]
variable {w:ea} {b:Nat} {L:List (κ×fa)} {P:Program} {t:TypeId}
def Jl{p:Prop}(h:p:=by
 simp[Builtin.delete_,run_underlying ht,v7 hb,K.chk,hf,vw _ hb,v9,setBlock]):p:=h
def MG.del(K:KL P k enc (λ_ _=>True))(h:MG enc w b L)(ht:P.underlying t=ia (.map k e))x ty:∃o,(Builtin.delete_ #[t,k] ty #[Mv b,enc x]).run P w=.ok (.tuple #[]) (setBlock w b o)/\MG enc (setBlock w b o) b (uC x L):=by
 obtain⟨es,d,hb,m,J,O,E⟩:=h;have hf:=K.fin x L es.toList w trivial (λ_ _=>trivial) m
 cases xL:xK x L 0 with
 |none=>
  rw[xL]at hf;refine⟨.map es d,?_,es,d,heap_setBlock_same hb _,?_,J,O,?_⟩
  .exact Jl
  .rw[uD x L<|ox x L 0 xL];exact m
  .rw[uD x L<|ox x L 0 xL];exact E
 |some p=>
  obtain⟨j,u⟩:=p;rw[xL]at hf;have⟨_,h4⟩:=Qj (enc:=enc) x L es.toList 0 j u m xL;have⟨_,e0,U,_,_⟩:=DW (enc:=enc) x u L es.toList 0 j u m xL;have A:j<es.size:=by
   have:=(List.getElem?_eq_some_iff.1 U).1;simpa using this
  have ajm:(es.eraseIdxIfInBounds j).toList=es.toList.eraseIdx j:=by
   rw[Array.eraseIdxIfInBounds];rw[dif_pos A];simp
  refine⟨.map (es.eraseIdxIfInBounds j) d,?_,_,d,heap_setBlock_same hb _,?_,?_,?_,?_⟩
  .exact Jl
  .grind
  .grind
  .grind
  .exact E.sublist ((Jk x L).map _)
def Jm(K:KL P k enc (λ_ _=>True))(J:P.underlying t=ia (.map k e)){a}{Q}(O:o.guard=ka)m x(j:o.op=Op.call {callee:=Callee.builtin Builtin.delete,args:=#[m,x],argTypes:=#[t,k]})(U:a.eval m=Mv b)(X:MG enc w b L)key(Y:a.eval x=enc key)(Z:∀w',MG enc w' b (uC key L)->One b w w'->wpList P ops Q rest (a.put o.dst<|.tuple #[]) w'):
 wpList P ops Q (o::rest) a w:=by
 refine wpList_plain O λK' hK'=>?_;have⟨A,d,E⟩:=X.del K J key o.type;rw[Oper.wp,execOp];simp only[j,resolve,invoke,builtin,kx,Sem.run_pure,Result.andThen_ok,List.map_toArray,jd,jz,U,Y,d];exact hK' _ _<|Z _ E<|One.set w b A
end
abbrev Oq:KL qk 9 xo (λ_ _=>True):=KL.str ql
def str_inj:∀x y,xo x=xo y->x=y:=BS
def qL(w:ea)(P:Nat->Prop)(sa:Option Addr)l:=l=[]\/∃g,sa=ia ⟨g,0,ka⟩/\P g/\g<w.heap.size/\∀i(h:i<l.length),w.cell? ⟨g,i,ka⟩=ia (Nv<|l[i])
def nL w P(c:zv)(v:fa):=∃ta xa sa sc,v=.agg #[.iface ta xa,.slice sa c.any.length sc]/\TW w P 900000 c.of (.iface ta xa)/\qL w P sa c.any
def bW w P b(Γ:zt):=∃L,MG xo w b L/\(∀x,ba x L=ka->Γ x=ka)/\∀x v,ba x L=ia v->∃c,Γ x=ia c/\nL w P c v
section
variable {w:ea} {b:Nat}
theorem qL.move(h:qL w P sa l)(E:w.heap.size<=w'.heap.size)(J:∀b,P b->b<w.heap.size->w'.heap[b]? =w.heap[b]?)(O:∀b,P b->b<w.heap.size->Q b):qL w' Q sa l:=by
 obtain h|⟨g,m,j,d,A⟩:=h
 .exact qj h
 .exact qi ⟨g,m,O g j d,qn d E,λi hi=>(qw (a:=⟨g,i,ka⟩)<|J g j d).trans<|A i hi⟩
theorem nL.move{c}{v}(h:nL w P c v)(d:w.heap.size<=w'.heap.size)(j:∀b,P b->b<w.heap.size->w'.heap[b]? =w.heap[b]?)(m:∀b,P b->b<w.heap.size->Q b):nL w' Q c v:=by
 obtain⟨ta,A,sa,sc,E,J,O⟩:=h;exact⟨ta,A,sa,sc,E,J.move d j m,O.move d j m⟩
def nL.af{c:zv}{v:fa}(h:nL w P c v)(d:Bq w w'):nL w' P c v:=h.move d.size (λb _ hz=>d.block b hz)<|λ_ p _=>p
def bW.lt(h:bW w P b Γ):b<w.heap.size:=qAr
theorem bW.move(h:bW w P b Γ)(E:w.heap.size<=w'.heap.size)(d:w'.heap[b]? =w.heap[b]?)(J:∀b,P b->b<w.heap.size->w'.heap[b]? =w.heap[b]?)(O:∀b,P b->b<w.heap.size->Q b):bW w' Q b Γ:=by
 obtain⟨L,j,m,A⟩:=h;exact⟨L,j.same d,m,λx v hx=>by have⟨c,e,hc⟩:=A x v hx;exact⟨c,e,hc.move E J O⟩⟩
def bW.af(h:bW w P b Γ)(d:Bq w w'):bW w' P b Γ:=h.move d.size (d.block b h.lt) (λb _ hz=>d.block b hz)<|λ_ p _=>p
def bW.wide(h:bW w P b Γ)(d:∀x,P x->Q x):bW w Q b Γ:=h.move (br _) rfl (λ_ _ _=>rfl) (λb p _=>d b p)
def bW.fr{S}(h:bW w P b Γ)(d:Fr S w w')(j:¬S b)(m:∀x,P x->x<w.heap.size->¬S x):bW w' P b Γ:=h.move d.size (d.block b h.lt j) (λx p z=>d.block x z<|m x p z)<|λ_ p _=>p
def bW.new(w:ea)P:bW (w.alloc<|.map #[] 0) P w.heap.size (λ_=>ka):=⟨[],MG.new _ w,λ_ _=>rfl,λx v h=>qBg⟩
def oK{a}{F}(U:o.guard=ka)m x v(d:o.op=kw 144 m x v\/o.op=kv 144 m x v)(X:a.eval m=Mv b)(h:bW w P b Γ)(Y:¬P b){c:zv}(hc:nL w P c u)n(Z:a.eval x=.string n)(hv:a.eval v=u)(hK:∀w',bW w' P b (zo Γ n c)->One b w w'->wpList qk ops F rest (a.put o.dst undef) w'):
 wpList qk ops F (o::rest) a w:=by
 obtain⟨L,j,A,E⟩:=h;refine cz Oq eN U m x v d X j n u Z hv λw' hM o=>hK w' ⟨_,hM,λy hy=>?_,λy z hy=>?_⟩ o
 .rw[aO]at hy;by_cases e:n=y
  .grind
  .rw[if_neg e]at hy;simp only[zo,if_neg<|ku e];exact A y hy
 .have mv:∀{c v},nL w P c v->nL w' P c v:=λh=>h.move Vg (λx p _=>o.block x<|λe=>Y<|e▸p)<|λ_ p _=>p;rw[aO]at hy;by_cases e:n=y
  .rw[if_pos e]at hy;injection hy with hy;subst hy e;exact⟨c,by simp[zo],mv hc⟩
  .rw[if_neg e]at hy;have⟨c',J,O⟩:=E y z hy;exact⟨c',by simp only[zo,if_neg<|ku e];exact J,mv O⟩
open Classical in
noncomputable def ovD (wS LA:zt) (d:List BA) (x:BA):Option zv:=if x∈d then zu wS LA x else LA x
def aha P b1 b2(LA wS:zt)L w gk wr:=
 ∃done,IG xo wr w.heap.size b2 L done gk/\bW wr P b1 (ovD wS LA done)/\Fr (λi=>i=b1) w wr
def abS(h1:bW w P b1 LA)(h2:bW w P b2 wS)(hP:¬P b1)(d0:∀x,P x->x<w.heap.size)(hn:b1≠b2):
 aa qk 257 #[Mv b1,Mv b2] w λe w'=>e=.returned (.tuple #[])/\bW w' P b1 (zu wS LA)/\Fr (λi=>i=b1) w w':=by
 have l1:=h1.lt;have l2:=h2.lt;obtain⟨L,m2,q1,q2⟩:=h2;obtain⟨o,cnt,hrg,lJ⟩:=m2.range eN;have k1:Bq w (w.alloc o):=bw _;have X:=ai lJ;have H1:=h1.af k1;have K1:=ai k1;have Q:=And.intro q1 q2;go_wp2
 go_loopg[] cnt (λgk wr=>aha P b1 b2 LA wS L w gk wr)
 case atStart=>
  refine⟨[],X,?_,Fr.of K1⟩;have e:ovD wS LA []=LA:=by funext x;simp[ovD]
  rw[e];exact H1
 case round=>
  obtain⟨d,X,HE,m⟩:=hrel;have Z:=ai m;have hiz:=X.lt;have zr:=m.size;rcases X.next (P:=qk) str_inj with⟨ha,a0⟩|⟨x,u,w2,E,hxd,b0,a0,J,O,c0,Bu,hen⟩
  .go_wp2
   go_end0;refine⟨rfl,?_,Z⟩;have e:ovD wS LA d=zu wS LA:=by
    funext y;unfold ovD;by_cases q:y∈d
    .rw[if_pos q]
    .rw[if_neg q];have:wS y=ka:=by
      cases hg:ba y L with
      |none=>exact Q.1 y hg|some v=>exact absurd (ha _ v hg) q
     simp only[zu,this]
   rw[<-e];exact HE
  .obtain⟨c,EC,hc⟩:=Q.2 x u b0;have A:=c0;have nP:∀i,P i->¬i=w.heap.size:=λi hi e=>by have:=d0 i hi;omega
   have E2:=HE.fr A ae<|λi p _=>nP i p;have c2:=(hc.move (w':=wr) zr (λi p z=>Z.block i z<|λe=>hP<|e▸p)<|λ_ p _=>p).move (w':=w2) (Q:=P) ae (λi p z=>A.block i z<|nP i p)<|λ_ p _=>p;obtain⟨ta,xa,sa,sc,rfl,t1,t2⟩:=c2;have j:Bq w2 (w2.alloc<|.cells #[.iface ta xa,.slice sa c.any.length sc] 358):=bw _;have E3:=E2.af j;have C3:=(nL.af ⟨ta,xa,sa,sc,rfl,t1,t2⟩ j);have I3:=J.same (j.block b2 ae)<|j.block w.heap.size ae;have K3:=ai j;go_wp2_with(refine oK rfl _ _ _ (qi rfl) rfl E3 hP C3 x rfl rfl ?_;intro w4 H' O';have S4:=ai H';have O4:=ai O';clear H' O');go_roundg E
   case measure=>exact O
   case rel=>
    have o:=uh O4;have U:=uh K3;have Y:=A;refine⟨x::d,I3.same (o.block b2<|ku hn)<|o.block _ ae,?_,?_⟩
    .have e:ovD wS LA (x::d)=zo (ovD wS LA d) x c:=by
      funext y;by_cases q:y=x
      .subst q;simp[ovD,zo,zu,EC]
      .simp only[ovD,zo,if_neg q];by_cases r:y∈d
       .rw[if_pos<|jh _ r,if_pos r]
       .rw[if_neg<|λh=>(List.mem_cons.1 h).elim q r,if_neg r]
     rw[e];exact S4
    .have m:=uh Z;refine⟨o.os.trans<|U.os.trans<|Y.os.trans m.os,o.tape.trans<|U.tape.trans<|Y.tape.trans m.tape,o.output.trans<|U.output.trans<|Y.output.trans m.output,by rw[o.size];have:=U.size;omega,λi hi hni=>?_⟩;rw[o.block i hni,U.block i ae,Y.block i ae ae,m.block i hi hni]
def Jn(h:bW w P b Γ):aa qk 256 #[Mv b] w λe w'=>e=.returned (Mv w.heap.size)/\bW w' P w.heap.size Γ/\Bq w w'/\w'.heap.size=w.heap.size+1:=by
 obtain⟨L,d,j,A⟩:=h;refine(XV d).mono ?_;rintro e w'⟨rfl,m,k,z⟩;exact⟨rfl,⟨L,m,j,λx v hx=>by have⟨c,E,J⟩:=A x v hx;exact⟨c,E,J.af k⟩⟩,k,z⟩
def pd P(Γ:zt)w(e:ga)w':=∃b,e=.returned (Mv b)/\w.heap.size<=b/\bW w' P b Γ/\Bq w w'
def bW.low(h:bW w P b Γ):bW w (λx=>P x/\x<w.heap.size) b Γ:=h.move (br _) rfl (λ_ _ _=>rfl) (λb p z=>⟨p,z⟩)
def BK(Y:bW w P b1 LA)(m:bW w P b2 wS):aa qk 238 #[Mv b1,Mv b2] w (pd P (zu wS LA) w):=by
 have A:=Jn Y.low;have l2:=m.lt;have E:=ai m.low;go_in;go_wp;refine A.mono ?_;rintro e w1⟨rfl,J,j,O⟩;have U:=abS J (E.af j) ae (λx p=>ae) ae;go_wp2_with fail;refine U.mono ?_;rintro e w2⟨rfl,X,d⟩
 go_wp2
 go_ret;have k:=j;have f:=d;refine⟨w.heap.size,rfl,br _,X.wide λx p=>p.1,⟨f.os.trans k.os,f.tape.trans k.tape,f.output.trans k.output,qm k.size f.size,λi hi=>(f.block i (by have:=O;omega) ae).trans<|k.block i hi⟩⟩
def jR(Γ:zt)x(c:zv):zu (zo (λ_=>ka) x c) Γ=zo Γ x c:=by
 funext y;unfold zu zo;by_cases e:y=x
 .simp[e]
 .simp[e]
def xE(h:bW w P b Γ)x{c:zv}{v:fa}(hc:nL w P c v):aa qk 226 #[Mv b,.string x,v] w (pd P (zo Γ x c) w):=by
 have j:=hc;obtain⟨ta,A,sa,sc,rfl,t1,t2⟩:=hc;have E:Bq w ((w.alloc<|Cv #[Fv ta A,Lv sa c.any.length sc] 358).alloc<|.map #[] 0):=(bw _).alloc ag _;have J:=bW.new (w.alloc<|Cv #[Fv ta A,Lv sa c.any.length sc] 358)<|λi=>P i/\i<w.heap.size;have Y:=(j.move (Q:=λi=>P i/\i<w.heap.size) (br _) (λ_ _ _=>rfl)<|λi p z=>⟨p,z⟩).af E;have Z:=ai E;rw[aY]at J;go_in;go_wp2_with(refine oK rfl _ _ _ (Or.inl rfl) rfl J ae Y x rfl rfl ?_;intro w4 O U;have S4:=ai O;have O4:=ai U;clear O U);have o:=uh O4;have k:=uh Z;have d:Bq w w4:=⟨o.os.trans k.os,o.tape.trans k.tape,o.output.trans k.output,by rw[o.size];exact k.size,λi hi=>(o.block i ae).trans<|k.block i hi⟩;have X:=BK (h.af d)<|S4.wide λi p=>p.1;rw[jR]at X;refine X.mono ?_;rintro e w5⟨b5,rfl,m,H5,K5⟩;have KK:=ai d
 go_wp2
 go_ret;have d:=uh KK;exact⟨b5,rfl,qm d.size m,H5,d.trans<|K5.mono d.size⟩
def Sq(h:bW w P b Γ)x:aa qk 269 #[Mv b,.string x] w (pd P (z9 Γ x) w):=by
 have O:=Jn h.low;go_in;go_wp;refine O.mono ?_;rintro e w1⟨rfl,⟨L,m,d,j⟩,U,z1⟩;have Q:=And.intro d j;go_wp2_with(refine Jm Oq eN rfl _ _ rfl rfl m x rfl ?_;intro w4 A E;have X:=ai A;have Y:=ai E;clear A E);go_ret;have o:=uh Y;have k:=U;obtain⟨d,j⟩:=Q;have J:=m.nodup;refine⟨w.heap.size,rfl,br _,⟨_,X,λy hy=>?_,λy v hy=>?_⟩,⟨o.os.trans k.os,o.tape.trans k.tape,o.output.trans k.output,by rw[o.size];exact k.size,λi hi=>(o.block i ae).trans<|k.block i hi⟩⟩
 .rw[zM x y J]at hy;rw[z9];by_cases e:y=x
  .rw[if_pos e]
  .rw[if_neg e];rw[if_neg<|ku e]at hy;exact d y hy
 .rw[zM x y J]at hy;by_cases e:x=y
  .rw[if_pos e]at hy;cases hy
  .rw[if_neg e]at hy;have⟨c,Z,q2⟩:=j y v hy;refine⟨c,?_,q2.move Vg (λi p _=>o.block i ae)<|λi p _=>p.1⟩;rw[z9];rw[if_neg<|ku e];exact Z
end
def ahb(l:List Nat)v w gk c(wr:ea):=
 ∃j:Nat,Hid (gk=l.length-j)/\j<=l.length/\c=Nv j/\wr=w/\Hid (∀i(hi:i<l.length),i<j->l[i]≠v)
section
variable {w:ea} {sc:Nat}
def Ya(h:qL w P sa l)(hl:l.length<=1000000000000)v:aa qk 284 #[.slice sa l.length sc,Nv v] w λe w'=>∃k,e=.returned (Iv k)/\decide (0<=k)=decide (v∈l)/\w'=w:=by
 go_wp2
 go_loopg[8] l.length (λgk c wr=>ahb l v w gk c wr)
 case atStart=>exact⟨0,ai ag,qr _,rfl,rfl,ai<|λi _ hi=>absurd hi ae⟩
 case round=>
  obtain⟨j,A,hj,rfl,rfl,m⟩:=hrel;by_cases bY:j<l.length
  .have J:=kK bY;obtain⟨g,rfl,_,hgz,d⟩:=h.resolve_left<|λe=>qBs;have cg:=d j bY;by_cases E:v=l[j]
   .generalize hx:l[j]=x at*;subst E
    go_wp2
    go_ret;refine⟨j,rfl,?_,rfl⟩;have:v∈l:=by rw[<-hx];exact jt bY
    simp[this]
   .have hne:((v:Int)==(l[j]:Int))=na:=bQ;generalize hx:l[j]=x at*
    go_wp2
    go_roundg(l.length-(j+1))
    case measure=>rw[uh A];omega
    case rel=>
     refine⟨j+1,ai rfl,ae,iF,rfl,ai<|λi hi hij=>?_⟩;by_cases e:i=j
     .subst e;rw[hx];exact ku E
     .exact m i hi ae
  .have J:=nN bY;have d:j=l.length:=ae;subst d
   go_wp2
   go_ret;refine⟨-1,rfl,?_,rfl⟩;have:v∉l:=λq=>by
    have⟨i,hi,e⟩:=jo q;exact m i hi hi e
   simp[this]
def Jo(h:qL w P sa l)(m:l.length<=1000000000000)v:aa qk 280 #[.slice sa l.length sc,Nv v] w λe w'=>e=.returned (.bool<|decide (v∈l))/\w'=w:=by
 have d:=Ya (sc:=sc) h m v;go_in;go_wp;refine d.mono ?_;rintro e w1⟨k,rfl,j,rfl⟩
 go_wp2
 go_ret;refine⟨?_,rfl⟩;rw[<-j];rfl
end
def Yb{l V:List BA}(h:l.Nodup)(d:∀x,x∈l->x∈V):l.length<=V.length:=by
 have j:∀(l V:List (List UInt8)),l.Nodup->(∀x,x∈l->x∈V)->l.length<=V.length:=by
  intro l
  induction l with
  |nil=>intro V _ _;simp|cons a l ih=>
   intro V h d;have ha:=d a ag;have m:=List.nodup_cons.1 h;have:=ih (V.erase a) m.2 λx hx=>(List.mem_erase_of_ne<|λe=>m.1 (by rw[<-e];exact hx)).2 (d x<|by simp[hx]);exact Ji
 have:=j (l.map kg) (V.map kg) (by
  rw[qh,j6];exact h.imp λhab q=>hab<|toList_inj q) (λx hx=>by
  obtain⟨y,m,rfl⟩:=List.mem_map.1 hx
  exact jm<|d y m)
 simpa using this
def CM w b(F:Nat->Prop)r:=∃L,MG pT w b L/\(∀n:Nat,ba (n:Int) L=ka->¬F n)/\∀(n:Nat)u,ba (n:Int) L=ia u->F n/\∃k:Nat,u=Nv k/\1<=k/\k<=r
def zN:Tryz.prog.underlying 184=ia (.map 182 3):=qkr
section
variable {w:ea} {b:Nat}
def CM.same(h:CM w b F r)(hb:w'.heap[b]? =w.heap[b]?):CM w' b F r:=qAs
def CM.lt(h:CM w b F r):b<w.heap.size:=qAr
def CM.new(w:ea):CM (w.alloc<|.map #[] 0) w.heap.size (λ_=>False) 0:=⟨[],MG.new _ w,λ_ _ q=>q,λn u h=>qBg⟩
def CM.look(h:CM w b F r)n:∃k:Nat,(vf 184 (Mv b) (Nv n) na).run qk w=.ok (Nv k) w/\k<=r/\(0<k↔F n):=by
 obtain⟨L,j,h2,m⟩:=h;have d:=j.ms.look KLV zN (zH w) (n:Int) trivial (λ_ _=>trivial) na
 cases hg:ba (n:Int) L with
 |none=>grind|some u=>
  rw[hg]at d;obtain⟨A,k,rfl,q2,E⟩:=m n u hg;exact⟨k,by simpa using d,E,⟨λ_=>A,λ_=>ae⟩⟩
def Jp{a}{Q}(A:o.guard=ka)m x v(d:o.op=kw 184 m x v\/o.op=kv 184 m x v)(E:a.eval m=Mv b)(h:CM w b F r)n k(hk:k<=r)(J:a.eval x=Nv n)(O:a.eval v=Iv ((k:Int)+1))(U:∀w',CM w' b (λi=>F i\/i=n) (r+1)->One b w w'->wpList qk ops Q rest (a.put o.dst undef) w'):
 wpList qk ops Q (o::rest) a w:=by
 obtain⟨L,j,h2,h3⟩:=h;refine cz KLV zN A m x v d E j (n:Int) _ J O λw' hM o=>U w' ⟨_,hM,λi hi=>?_,λi u hi=>?_⟩ o
 .rw[aO]at hi;by_cases e:(n:Int)=(i:Int)
  .grind
  .grind
 .rw[aO]at hi;by_cases e:(n:Int)=(i:Int)
  .rw[if_pos e]at hi;injection hi with hi;subst hi;exact⟨qi ae,k+1,ag,ae,ae⟩
  .grind
end
def FxD(Γ:zt)κ(d:List BA)v:=∃y c,y∈d/\Γ y=ia c/\aA v (sub κ c.of)/\v∉c.any
def FxR b(Γ:zt)κ L w gk wr:=
 ∃done r,IG xo wr (w.heap.size+1) b L done gk/\CM wr w.heap.size (FxD Γ κ done) r/\done.Nodup/\(∀x,x∈done->Γ x≠ka)/\r<=done.length*1000000000000/\Bq w wr
def FyR cm(F:Nat->Prop)r(l d:List Nat)w3 gk v wr:=
 ∃j:Nat,Hid (gk=l.length-j)/\j<=l.length/\v=Nv j/\CM wr cm (λi=>F i\/(i∈l.take j/\i∉d)) (r+j)/\Fr (λi=>i=cm) w3 wr
def CM.le{w:ea}{b:Nat}{G}{r'}(h:CM w b F r)(hf:∀n,F n↔G n)(hr:r<=r'):CM w b G r':=by grind[CM]
def TP(Γ:zt)κ w(e:ga)w':=∃cm r,e=.returned (Mv cm)/\w.heap.size<=cm/\r<=1000000000000000000/\CM w' cm (zx Γ κ) r/\Bq w w'
section
variable {w:ea} {b:Nat} {κ:Nat->Ty}
def abT(h:bW w P b Γ)(hk:KW w P kb κ)(t0:P kb)(hf:vS κ){NL:List BA}(O0:∀x,Γ x≠ka->x∈NL)(P0:NL.length<=1000000)(u0:∀x c,Γ x=ia c->c.any.length<=1000000000000):
 aa qk 275 #[Mv b,Mv kb] w (TP Γ κ w):=by
 have v0:= @run_makeMap Tryz.prog;have l1:=h.lt;have lk:=hk.lt;obtain⟨L,m1,q1,U⟩:=h;have k1:Bq w (w.alloc<|.map #[] 0):=bw _;have⟨o,cnt,g0,lJ⟩:=(m1.af k1).range eN;rw[aY]at g0 lJ;have k2:Bq w ((w.alloc<|.map #[] 0).alloc o):=k1.alloc ag _;have HI:=ai lJ;have K2:=ai k2;have C0:=(CM.new w).same (w':=(w.alloc<|.map #[] 0).alloc o)<|(MapKept.heap_alloc _ _).2 _ ag;have Q:=And.intro q1 U;have HK:=ai hk;clear lJ k1 k2 m1 q1 U hk;go_wp2
 go_loopg[] cnt (λgk wr=>FxR b Γ κ L w gk wr)
 case atStart=>exact⟨[],0,HI,C0.le (λn=>⟨λq=>q.elim,λ⟨y,c,q,_⟩=>by simp at q⟩) (br _),qf,(λx hx=>by simp at hx),ag,K2⟩
 case round=>
  clear C0 HI g0;obtain⟨A,r,HI,hC,HN,HD,hr,HB⟩:=hrel;have HC:=ai hC;have hiz:=HI.lt;have zr:=HB.size;have h0:=qm (Yb HN λx hx=>O0 x<|HD x hx) P0;have HR:=ai hr;have i0:=ai h0;clear hC hr h0;rcases HI.next (P:=qk) str_inj with⟨ha,j0⟩|⟨x,u,w2,k0,x0,l0,j0,d0,y0,n0,z0,A0⟩
  .go_wp2
   go_ret;refine⟨w.heap.size,A.length*1000000000000,rfl,br _,by have:=uh i0;omega,HC.le (λn=>⟨λ⟨y,c,_,X,E,p3⟩=>⟨y,c,X,E,p3⟩,λ⟨y,c,X,E,p3⟩=>⟨y,c,?_,X,E,p3⟩⟩) HR,HB⟩
   cases hg:ba y L with
   |none=>rw[Q.1 y hg]at X;cases X|some v=>exact ha y v hg
  .have⟨c,EC,hc⟩:=Q.2 x u l0;have ajn:wr.heap.size<=w2.heap.size:=ae;have ajo:w2.heap.size<=wr.heap.size:=ae;clear z0;have F1:=n0;have o0:∀i,i<w.heap.size->w2.heap[i]? =w.heap[i]? :=λi hi=>(F1.block i ae ae).trans<|HB.block i hi;have p0:Bq w w2:=⟨F1.os.trans HB.os,F1.tape.trans HB.tape,F1.output.trans HB.output,ae,o0⟩;obtain⟨ta,xa,sa,sc,rfl,t1,t2⟩:=hc;have⟨k3,B3⟩:=nbh w2 #[Fv ta xa,Lv sa c.any.length sc] 358;have J:Bq w (w2.alloc<|Cv #[Fv ta xa,Lv sa c.any.length sc] 358):=p0.alloc ae _;have T2:=t2.move (w':=w2.alloc<|Cv #[Fv ta xa,Lv sa c.any.length sc] 358) J.size (λi _ hi=>J.block i hi)<|λi p z=>(⟨p,z⟩:P i/\i<w.heap.size);have q0:=(HC.same<|F1.block _ ae ae).same (w':=w2.alloc<|Cv #[Fv ta xa,Lv sa c.any.length sc] 358)<|k3.block _ ae;have I3:=d0.same (k3.block b ae)<|k3.block (w.heap.size+1) ae;have HO:=tP (HK.af J) t0 hf (br _)<|t1.af J;have B0:=u0 x c EC;have D0:=t1.Wg hf<|br _;have hwh:=cu _ t1.wh λn _=>hf.wh n;have K3:=ai J;have⟨c3,f3,z3⟩:=uh B3;clear d0 k3 p0 J o0 F1 n0 t1 t2 HC HI HB;go_wp2_with fail;refine HO.mono ?_;rintro e w4⟨u4,rfl,e0,K4⟩;have HV:=fI e0 D0;obtain⟨tu,xu,rfl⟩:=e0.iface;have z4:=K4.size;simp only[aY]at z4;clear e0 HO c3 f3 z3;go_wp2_with fail;refine HV.mono ?_;rintro e w5⟨V,rfl,Y,Z⟩;rw[gU]at Y
   have Vx:(vars []<|sub κ c.of).length<=1000000000000:=by
    have h1:=gU<|sub κ c.of;rw[<-h1,cC];have h2:=dt (occs<|bJ<|sub κ c.of) [];have h3:=du<|bJ<|sub κ c.of;simp only[nM]at h2;omega
   generalize hl0:vars [] (sub κ c.of)=l at*;obtain⟨va,vc,rfl⟩:=dZ Y (n:=l.length)<|fv l;have d:=K4.trans<|Z.mono K4.size;have E0:=d.size;simp only[aY]at E0;have T5:=T2.move (Q:=λi=>P i/\i<w.heap.size) d.size (λi p z=>d.block i z)<|λ_ p _=>p;have B5:=ai<|B3.below d;have F0:=q0.same<|d.block _ bQ;have I5:=I3.same (d.block b bQ)<|d.block (w.heap.size+1) bQ;have K5:=K3.trans (d.mono (by have:=K3.size;omega));clear Z d HV K4 T2 B3 q0 I3 K3
   go_wp2
   go_loopg[23] l.length (λgk v wq=>FyR w.heap.size (FxD Γ κ A) r l c.any w5 gk v wq)
   case atStart=>exact⟨0,ai ag,qr _,rfl,F0.le (λn=>ag) ae,Fr.refl _ _⟩
   case round=>
    obtain⟨j,r0,hj,rfl,a0,m⟩:=hrel;have zq:=m.size;have B6:=B5.fr m ae;by_cases b0:j<l.length
    .have hd:=kK b0;have G0:j<(oL l).length:=by rw[fv];exact b0
     have⟨gv,cpv,mv,hv,hgv,H0,_⟩:=iC Y ae;injection hv with I0 J0 K0;subst I0;have f0:=mg Y j G0;rw[show(oL l)[j]=Nv (l[j]) by simp[oL]]at f0;have cg:=(qw (a:=⟨gv,j,ka⟩)<|m.block gv H0 ae).trans f0;have V6:=T5.move (w':=wr) (Q:=λi=>P i/\i<w.heap.size) zq (λi p z=>m.block i z ae)<|λ_ p _=>p;have O:=Jo (sc:=sc) V6 B0 l[j];have s0:∀i,i∈l.take (j+1)↔i∈l.take j\/i=l[j]:=λi=>by rw[jf b0,List.mem_append,j5]
     have⟨kk,hlk,L0,_⟩:=a0.look l[j];generalize hx:l[j]=xx at*;have M0:Hid (r<=1000000000000000000):=ai (by have h1:=uh HR;have h2:=uh i0;have h3:A.length*1000000000000<=1000000*1000000000000:=qu _ h2;exact qm h1<|qm h3 aD);have t0:(kk:Int)+1<=9000000000000000000:=by have:=uh M0;omega
     obtain⟨c6,f6,z6⟩:=B6;clear V6 hx f0 J0 K0 j0 A0 l0 v0;by_cases c0:xx∈c.any
     .rw[decide_eq_true c0]at O;go_wp2_with fail;refine O.mono ?_;rintro e w7⟨rfl,rfl⟩;clear O
      go_wp2
      go_roundg(l.length-(j+1))
      case measure=>rw[uh r0];omega
      case rel=>
       refine⟨j+1,ai rfl,ae,iF,a0.le (λn=>?_) ae,m⟩;rw[s0 n];constructor
       .rintro(q|⟨q1,U⟩)
        .exact qj q
        .exact qi ⟨qj q1,U⟩
       .rintro(q|⟨q1|q1,U⟩)
        .exact qj q
        .exact qi ⟨q1,U⟩
        .exact absurd (q1▸c0) U
     .rw[decide_eq_false c0]at O;go_wp2_with fail;refine O.mono ?_;rintro e w7⟨rfl,rfl⟩;clear O;go_wp2_with(refine Jp rfl _ _ _ (qi rfl) rfl a0 xx kk L0 rfl rfl ?_;intro w8 H' O';have S8:=ai H';have O8:=ai O';clear H' O');go_roundg(l.length-(j+1))
      case measure=>rw[uh r0];omega
      case rel=>
       have o:=uh O8;refine⟨j+1,ai rfl,ae,iF,S8.le (λn=>?_) ae,m.trans ⟨o.os,o.tape,o.output,Vg,λi _ hi=>o.block i hi⟩⟩;rw[s0 n];constructor
       .rintro((q|⟨q1,U⟩)|q)
        .exact qj q
        .exact qi ⟨qj q1,U⟩
        .exact qi ⟨qi q,by rw[q];exact c0⟩
       .rintro(q|⟨q1|q1,U⟩)
        .exact qj (qj q)
        .exact qj (qi ⟨q1,U⟩)
        .exact qi q1
    .have hd:=nN b0;have ej:j=l.length:=ae;subst ej;clear B6
     go_wp2
     go_roundg k0
     case measure=>exact y0
     case rel=>
      have f:=m;have Z:=K5;refine⟨x::A,r+l.length,I5.same (f.block b ae ae)<|f.block _ ae ae,a0.le (λn=>?_)<|br _,List.nodup_cons.2 ⟨x0,HN⟩,?_,by have:=uh HR;simp only[eG];omega,⟨f.os.trans Z.os,f.tape.trans Z.tape,f.output.trans Z.output,by have:=Z.size;omega,λi hi=>(f.block i (by have:=Z.size;omega) ae).trans<|Z.block i hi⟩⟩
      .rw[jc];have hm:n∈l↔aA n (sub κ c.of):=by rw[<-hl0];simpa using bC (sub κ c.of) [] n
       constructor
       .rintro(⟨y,c',X,E,p3,O⟩|⟨X,E⟩)
        .exact⟨y,c',jh _ X,E,p3,O⟩
        .exact⟨x,c,ag,EC,hm.1 X,E⟩
       .rintro⟨y,c',X,E,p3,O⟩;obtain q|q:=List.mem_cons.1 X
        .subst q;rw[EC]at E;injection E with E;subst E;exact qi ⟨hm.2 p3,O⟩
        .exact qj ⟨y,c',q,E,p3,O⟩
      .intro y E;obtain q|q:=List.mem_cons.1 E
       .rw[q,EC];simp
       .exact HD y q
end
abbrev kept(p:Nat->Bool)(l:List Nat):List Nat:=l.filter λn=> !p n
def CG p(l:List Nat)j(h:j<l.length):kept p (l.take<|j+1)=kept p (l.take j)++(if p l[j]then[]else[l[j]]):=by
 rw[kept];rw[jf h,List.filter_append];congr 1
 cases hp:p l[j]<;>simp[hp]
def aeV g(l:List Nat)p w gk vi vj wr:=
 ∃(i j:Nat)(C:Array fa),Hid (gk=l.length-j)/\i<j/\j<=l.length/\vi=Nv i/\vj=Nv j/\Hid (i=(kept p<|l.take j).length)/\Bx wr g C/\Hid (l.length<=C.size)/\Hid (∀k(h:k<(kept p<|l.take j).length),C[k]? =ia (Nv<|(kept p<|l.take j)[k]))/\Hid (∀k(h:k<l.length),j<=k->C[k]? =ia (Nv<|l[k]))/\Fr (λb=>b=g) w wr
section
variable {w:ea}
def aeW f cs(l:List Nat)(p:Nat->Bool)g w:=∀(W:ea)(n:Nat),n∈l->Fr (λb=>b=g) w W->aa qk f (#[Nv n]++cs) W λe w'=>e=.returned (.bool<|p n)/\w'=W
def aeX{w}{base}{g c:Nat}(h:gF w e base (.slice (ia ⟨g,0,ka⟩) n c) xs):∃C:Array fa,Bx w g C/\xs.length<=C.size/\(∀k(E:k<xs.length),C[k]? =ia xs[k])/\n=xs.length/\n<=c/\c<=maxLen:=by
 have h':=h;obtain⟨h1,J⟩:=h;obtain⟨q,_⟩|⟨g',cap,d,q,hg,m,O,U,r3,X⟩:=J
 .cases q
 .injection q with j Y Z;injection j with j;injection j with j;subst j Y Z;have hz:=(Array.getElem?_eq_some_iff.1 m).1;refine⟨d,⟨λo=>by simp[qx,m],λo=>by simp[q9,m],hz⟩,ae,λk E=>?_,rfl,O,U⟩;have A:(List.take (xs.length*1) d.toList)[k]? =xs[k]? :=by rw[X]
  rw[jy ae]at A;rw[<-Array.getElem?_toList,A,ja E]
def wj(g:Nat):∀(vs:List fa)(o:Nat)(w:ea),Fr (λb=>b=g) w<|w.setCells g o vs
 |[],o,w=>Fr.refl _ _|v::vs,o,w=>((Fr.refl (λb=>b=g) w).set (b:=g) (qj rfl) o v).trans<|wj g vs (o+1) _
def Yc w:(zeroValue 182).run qk w=.ok (Iv 0) w:=qkr
def Ew l p g w(e:ga)w':=∃sa sc,e=.returned (.slice sa (kept p l).length sc)/\qL w' (λb=>b=g) sa (kept p l)/\Fr (λb=>b=g) w w'
def Ex(eg:∀args w,(callFunc f args).run qk w=.ok (.enter f args) w){c:Nat}(ho:gF w 182 base (.slice (ia ⟨g,0,ka⟩) n c) (oL l))(hl:l.length<=1000000000000)(hp:aeW f cs l p g w):
 aa qk 276 #[.slice (ia ⟨g,0,ka⟩) n c,.func (.func f) #[] cs] w (Ew l p g w):=by
 have HI:=oT (p:=p) eg ho hl<|λW n hn hb=>(hp W n hn<|Fr.of hb).mono λe w'⟨h1,h2⟩=>⟨h1,h2▸xn _ _⟩;have⟨C,X,Y,d0,hn,hnc,e0⟩:=aeX ho;rw[fv]at Y hn;subst hn;have Z:∀k(h:k<l.length),C[k]? =ia (Nv<|l[k]):=λk h=>by rw[d0 k (by rw[fv];exact h)];simp[oL]
 have HX:=ai X;have HV:=ai Z;have ajp:c<=9223372036854775807:=by rw[maxLen]at e0;omega
 go_in;go_wp;refine HI.mono ?_;rintro e w1⟨k,rfl,hk,K1⟩;have X1:=HX.below K1;obtain⟨rfl,a0⟩|⟨k0,f0,rfl,g0,h0⟩:=hk
 .have d:=ai a0
  go_wp2
  go_ret;have e:kept p l=l:=List.filter_eq_self.2 λx X=>by simp[uh d x X]
  rw[Ew];rw[e];exact⟨_,_,rfl,qi ⟨g,rfl,rfl,X1.z,λi hi=>by rw[X1.c i];exact HV i hi⟩,Fr.of K1⟩
 .have hne:((k0:Int)== -1)=na:=beq_eq_false_iff_ne.2 ae;have i0:kept p (l.take k0)=l.take k0:=List.filter_eq_self.2 λx X=>by
   have⟨i,hi,e⟩:=jo X;rw[List.getElem_take]at e;rw[<-e,h0 i LY LY];rfl
  have HK:kept p (l.take<|k0+1)=l.take k0:=by rw[CG p l k0 f0,i0,g0];simp
  go_wp2
  go_loopg[5,6] (l.length-(k0+1)) (λgk vi vj wr=>aeV g l p w gk vi vj wr)
  case atStart=>
   refine⟨k0,k0+1,C,ai rfl,ae,ae,rfl,iF,ai (by rw[HK];simp;omega),X1,Y,ai<|λk h=>?_,ai<|λk h _=>HV k h,Fr.of K1⟩;simp only[HK]at h⊢;rw[List.length_take]at h;rw[uh HV k ae,List.getElem_take]
  case round=>
   obtain⟨i,j,U,b0,hij,bY,rfl,rfl,hi,d,m,E,J,F2⟩:=hrel;by_cases A:j<l.length
   .have hd:=kK A;have hdi:(i:Int)<(l.length:Int):=ae;have cj:wr.cell? ⟨g,j,ka⟩=ia (Nv<|l[j]):=by rw[d.c j];exact J j A<|br _
    have O:i<U.size:=by have:=uh m;omega
    have ci:wr.cell? ⟨g,i,ka⟩=ia U[i]:=by rw[d.c i];exact xh O
    have fi:=d.f i;have HC:=hp wr l[j] (jt A) F2;have c0:=CG p l j A
    cases hq:p l[j]with
    |true=>
     rw[hq]at HC;generalize hxx:l[j]=xx at*;go_wp2_with(go_at_fn f;refine HC.mono ?_;rintro e w2⟨rfl,rfl⟩);go_roundg(l.length-(j+1))
     case measure=>rw[uh b0];omega
     case rel=>
      have ek:kept p (l.take<|j+1)=kept p (l.take j):=by rw[c0,hq];simp
      refine⟨i,j+1,U,ai rfl,ae,ae,rfl,iF,ai (by rw[ek];exact hi),d,m,ai<|λk h=>?_,ai<|λk h hk=>J k h ae,F2⟩;simp only[ek]at h⊢;exact E k h
    |false=>
     rw[hq]at HC;have X3:=d.aW i (Nv<|l[j]) (U.setIfInBounds i<|Nv<|l[j]) rfl O;generalize hxx:l[j]=xx at*;go_wp2_with(go_at_fn f;refine HC.mono ?_;rintro e w2⟨rfl,rfl⟩);go_roundg(l.length-(j+1))
     case measure=>rw[uh b0];omega
     case rel=>
      have ek:kept p (l.take<|j+1)=kept p (l.take j)++[xx]:=by rw[c0,hq];simp
      have ei:=uh hi;refine⟨i+1,j+1,U.setIfInBounds i<|Nv xx,ai rfl,ae,ae,iF,iF,ai (by rw[ek];simp[ei]),X3,ai (by simp;exact m),ai<|λk h=>?_,ai<|λk h hk=>?_,F2.set (qj rfl) i _⟩
      .simp only[ek]at h⊢;rw[g_,List.length_singleton]at h;by_cases e:k=i
       .subst e;rw[List.getElem_append_right ae];simp[O]
       .rw[xg<|ku e,jx ae];exact E k ae
      .rw[xg ae];exact J k h ae
   .have ej:j=l.length:=ae;subst ej;have hd:¬(l.length:Int)<(l.length:Int):=ae;have hic:¬c=i:=ae;have hcl:∀ty,(Builtin.clear_ #[355] ty #[Lv (ia ⟨g,i,ka⟩) (l.length-i)<|c-i]).run qk wr=.ok (.tuple #[]) (wr.setCells g i<|List.replicate (l.length-i)<|Iv 0):=λty=>
     Lib.run_clear_slice wr _ _ ty _ CB Yc rfl rfl g i _ _ ae (λt ht=>by rw[d.c<|i+t,xh (by have:=uh m;omega)];rfl) (λt _=>d.f<|i+t)
    go_wp2
    go_ret;have ei:=uh hi;have F3:=wj g (List.replicate (l.length-i)<|Iv 0) i wr;rw[jc]at ei;have O:∀k(h:k<(kept p l).length),U[k]? =ia (Nv<|(kept p l)[k]):=by
     have:=uh E;simp only[jc]at this;exact this
    rw[Ew];refine⟨ia ⟨g,0,ka⟩,c,by rw[<-ei];rfl,qi ⟨g,rfl,rfl,qn d.z F3.size,λk hk=>?_⟩,F2.trans F3⟩;rw[World.cell?_setCells_out g _ i wr ⟨g,k,ka⟩<|λ_ _=>qj (by show k<i;omega),d.c k];exact O k hk
end
def zO{w:ea}{v:fa}(eg:∀args w,(callFunc f args).run qk w=.ok (.enter f args) w)(d:gF w 182 base v (oL [])):
 aa qk 276 #[v,.func (.func f) #[] cs] w λe w'=>∃sa sc,e=.returned (.slice sa 0 sc)/\Bq w w':=by
 have j:=oT (p:=λ_=>na) (cs:=cs) eg d ag (λW n hn _=>by simp at hn);obtain⟨m,A,rfl⟩:=dZ d (n:=0) (by simp[oL]);go_in;go_wp;refine j.mono ?_;rintro e w1⟨k,rfl,E,J⟩;have O:k= -1:=by
  obtain⟨q,_⟩|⟨i,U,_⟩:=E
  .exact q
  .simp at U
 subst O
 go_wp2
 go_ret;exact⟨m,A,rfl,J⟩
section
variable {w:ea} {b:Nat} {κ:Nat->Ty}
open Classical in
noncomputable def fxB (Γ:zt) (κ:Nat->Ty) (v:Nat):Bool:=decide (zx Γ κ v)
def MY{cm}(A:Bx W cb #[Mv cm])(j:CM W cm (zx Γ κ) r)n:aa qk 277 #[Nv n,Pv cb] W λe w'=>e=.returned (.bool<|fxB Γ κ n)/\w'=W:=by
 obtain⟨c1,f1,z1⟩:=A;have⟨k,hl,_,d⟩:=j.look n;have m:=ai d;clear d j;go_wp2
 go_ret;refine⟨?_,rfl⟩;have:decide (0<k)=fxB Γ κ n:=by
  rw[fxB];rw[decide_eq_decide];exact m
 rw[<-this];rfl
def MZ T:zy Γ κ T=kept (fxB Γ κ) (vars [] T):=by
 rw[zy,kept];congr 1;funext v;by_cases h:zx Γ κ v
 .simp[fxB,h]
 .simp[fxB,h]
def o_ P l w(e:ga)w':=∃sa sc,e=.returned (.slice sa l.length sc)/\qL w' P sa l/\Bq w w'
def aaO(h:bW w P b Γ)(hk:KW w P kb κ)(d0:P kb)(hf:vS κ){NL:List BA}(f0:∀x,Γ x≠ka->x∈NL)(g0:NL.length<=1000000)(E:∀x c,Γ x=ia c->c.any.length<=1000000000000){v:fa}(ht:dq w Q (bJ T) v)(hz:size (bJ T)<=1000000000000):
 aa qk 270 #[Mv b,Mv kb,v] w (o_ (λi=>w.heap.size<=i) (zy Γ κ T) w):=by
 have HF:=abT h hk d0 hf f0 g0 E;obtain⟨ta,xa,rfl⟩:=ht.iface;go_in;go_wp;refine HF.mono ?_;rintro e U⟨J,r,rfl,hcm,hr,X,Y⟩;have⟨k2,B2⟩:=rF U #[Mv J] 184;have Z:=Y.trans<|k2.mono Y.size;have C2:=X.same<|k2.block J X.lt;have zc:=X.lt;have z1:=Y.size;have HV:=fI (ht.af Z) hz;go_wp2_with fail;refine HV.mono ?_;rintro e w3⟨V,rfl,d,O⟩;rw[gU]at d;have a0:(vars [] T).length<=1000000000000:=by
  have j:=gU T;rw[<-j,cC];have A:=dt (occs<|bJ T) [];have h3:=du<|bJ T;simp only[nM]at A;omega
 have e0:=MZ (Γ:=Γ) (κ:=κ) T;have K3:=Z.trans<|O.mono Z.size;have z3:=O.size;rw[aY]at z3;have B3:=B2.below O;have C3:=C2.same (O.block J (by rw[aY];omega));have j:=iN d;rw[aY]at j;by_cases hl:vars [] T=[]
 .rw[hl]at d e0;have HD:=zO (cs:=#[Pv U.heap.size]) (enters_of Tryz.func277 qkr rfl) d;obtain⟨va,vc,rfl⟩:=dZ d (n:=0) (by simp[oL]);go_wp2_with fail;refine HD.mono ?_;rintro e w4⟨sa,sc,rfl,A⟩
  go_wp2
  go_ret;have k:=K3;rw[o_];rw[e0];exact⟨sa,sc,rfl,qj rfl,k.trans<|A.mono k.size⟩
 .have A:0<(oL<|vars [] T).length:=by rw[fv];exact qv<|λe=>hl<|jj e
  obtain⟨g,cp,m,rfl,hg,hgz,_⟩:=iC d A;rw[aY]at hg;have HD:=Ex (p:=fxB Γ κ) (enters_of Tryz.func277 qkr rfl) d a0 (cs:=#[Pv U.heap.size])<|λW n hn hF=>MY (B3.fr hF ae) (C3.same<|hF.block J ae ae) n;go_wp2_with fail;refine HD.mono ?_;rintro e w4⟨sa,sc,rfl,b0,c0⟩
  go_wp2
  go_ret;have f:=c0;have k:=K3;rw[o_];rw[e0];refine⟨sa,sc,rfl,?_,⟨f.os.trans k.os,f.tape.trans k.tape,f.output.trans k.output,qm k.size f.size,λi hi=>(f.block i (by have:=k.size;omega) ae).trans<|k.block i hi⟩⟩;exact b0.move (br _) (λ_ _ _=>rfl) (λi p _=>by show w.heap.size<=i;omega)
end
abbrev TeN I D A z:=∀(x:Array fa)(w:ea),(vd (.iface D<|.agg x) I A la).run qk w=.ok (.tuple #[.agg z,.bool na]) w
def xM.te{A}{z}(h:xM A z){I D}(d:D≠A):TeN I D A z:=λx w=>h I D (.agg x) w d
end
abbrev Ls:Array fa:=#[Iv 0,Iv 0,Iv 0,.nilIface,.nilIface]
def TQ a b c d e w:(vd (.iface 344<|.agg #[a,b,c,d,e]) 20 344 la).run qk w=.ok (.tuple #[.agg #[a,b,c,d,e],.bool la]) w:=qkr
def Bx.OM{w:ea}{b}(h:Bx w b C)(O:C.size=5)v0 v1 v2 v3 v4:Bx (((((w.setCell ⟨b,0,ka⟩ v0).setCell ⟨b,1,ka⟩ v1).setCell ⟨b,2,ka⟩ v2).setCell ⟨b,3,ka⟩ v3).setCell ⟨b,4,ka⟩ v4) b #[v0,v1,v2,v3,v4]:=by
 obtain⟨J,E,A,m,j,rfl⟩:∃J E A m j,C=#[J,E,A,m,j]:=by
  obtain⟨l⟩:=C
  match l,O with
  |[a,b,c,d,e],_=>grind
 exact((((h.aW 0 v0 #[v0,E,A,m,j] rfl ag).aW 1 v1 #[v0,v1,A,m,j] rfl ag).aW 2 v2 #[v0,v1,v2,m,j] rfl ag).aW 3 v3 #[v0,v1,v2,v3,j] rfl ag).aW 4 v4 #[v0,v1,v2,v3,v4] rfl ag
section
variable {w:ea}
def BT b(E:Bx w b Ls)(f:Fl)vl vr(O:(vl=.nilIface/\vr=.nilIface)\/∃a b c d,vl=.iface a b/\vr=.iface c d):
 CallsD qk 219 #[Pv b] (.panicking [{v:=.iface 344<|.agg #[Nv f.kind,Nv f.ah,Nv f.to,vl,vr],recovered:=na}]) w λe u' w'=>
  e=.returned (.tuple #[])/\u'=.panicking [{v:=.iface 344<|.agg #[Nv f.kind,Nv f.ah,Nv f.to,vl,vr],recovered:=la}]/\Bx w' b #[Nv f.kind,Nv f.ah,Nv f.to,vl,vr]/\Fr (λi=>i=b) w w':=by
 obtain⟨G,m⟩:∃G:fa,G=.iface 344 (.agg #[Nv f.kind,Nv f.ah,Nv f.to,vl,vr]):=⟨_,rfl⟩;rw[<-m];have hta:=TQ;have J:=ai E;obtain⟨c,ff,z⟩:=E;refine callsD_of_wpS Tryz.func219 rfl λfh cs hu=>?_;apply wpS_seq;apply wpS_region;simp[wpOpsS,go_sem,recoverD,hu,Tryz.ntmps219,Exit.thenS];rw[show(#[Pv b]++((xf 16 undef).setIfInBounds 3 G).setIfInBounds 0 G)=#[Pv b,G,undef,undef,G,undef,undef,undef,undef,undef,undef,undef,undef,undef,undef,undef,undef]from rfl];obtain⟨A,j⟩:∃A:List Frame,A=({fn:=fh.fn,tmps:=fh.tmps,todo:=fh.todo,defers:=fh.defers,mode:=FrameMode.panicking [{v:=G,recovered:=la}],kind:=fh.kind,roundOf:=fh.roundOf}::cs):=⟨_,rfl⟩;rw[<-j];refine wpS_of_wp ?_;subst m;obtain⟨rfl,rfl⟩|⟨ta,xa,tb,xb,rfl,rfl⟩:=O
 all_goals(
 go_wp2_with fail;refine⟨rfl,_,j,.tuple #[],by simp[results,Tryz.results219,go_sem],rfl,rfl,?_,?_⟩
 .exact((J.OM rfl _ _ _ _ _).alloc _)
 .exact(((((Fr.refl (λi=>i=b) w).set (b:=b) (qj rfl) 0 _).set (qj rfl) 1 _).set (qj rfl) 2 _).set (qj rfl) 3 _).set (qj rfl) 4 _|>.trans (Fr.of<|bw _))
def aa9 b:
 CallsD qk 219 #[Pv b] .returning w λe u' w'=>
  e=.returned (.tuple #[])/\u'=.returning/\w'=w:=by
 refine callsD_of_wpS Tryz.func219 rfl λfh cs hu=>?_;apply wpS_seq;apply wpS_region;simp[wpOpsS,go_sem,recoverD,hu,Tryz.ntmps219,Exit.thenS];rw[show(#[Pv b]++((xf 16 undef).setIfInBounds 3 Zv).setIfInBounds 0 Zv)=#[Pv b,Zv,undef,undef,Zv,undef,undef,undef,undef,undef,undef,undef,undef,undef,undef,undef,undef]from rfl];have d:fh::cs={fh with mode:=.returning}::cs:=(by cases fh;simp at hu;subst hu;rfl);refine wpS_of_wp ?_
 go_wp2
 exact⟨rfl,_,d,.tuple #[],by simp[results,Tryz.results219,go_sem],rfl,rfl,rfl⟩
end
section
open Un
def byS:Option (BA×List Nat)->BA
 |none=>⟨#[]⟩|some (c,_)=>pn c
abbrev nA n:=Pv n
def nP:Option Nat->fa
 |none=>.pointer ka|some m=>nA m
def slN:Option (BA×List Nat)->Nat
 |none=>0|some (_,l)=>l.length
def ig(w:ea)(ds:List Nat)(sa:Option Addr):Option (BA×List Nat)->Prop
 |none=>True|some (c,l)=>CN c/\l.length<=1001/\(∀m∈l,m∈ds)/\(l=[]\/∃g,sa=ia ⟨g,0,ka⟩/\¬g∈ds/\g<w.heap.size/\∀i(h:i<l.length),w.cell? ⟨g,i,ka⟩=ia (nA l[i]))
inductive Jq(nx:Nx):Nat->Nat->Nat->Prop where
 |here{n:Nat}:nx n=ka->Jq nx n n 0
 |step{n m h k:Nat}:nx n=ia m->Jq nx m h k->Jq nx n h (k+1)
def Hd.len{nx}(k:Hd nx n h):∃j,Jq nx n h j:=by
 induction k with
 |here e=>exact⟨0,.here e⟩|step e _ ih=>obtain⟨j,d⟩:=ih;exact⟨j+1,.step e d⟩
def Jq.one{nx}{n h j A d:Nat}(k:Jq nx n h j)(m:Jq nx n A d):j=d:=by
 induction k generalizing d with
 |here e=>cases m with
  |here=>rfl|step e' _=>grind
 |step e _ ih=>cases m with
  |here e'=>grind|step e' m=>grind
def Jq.eE{nx}{x h j}(k:Jq nx x h j){n hn jn}(d:Jq nx n hn jn)(hlt:j<jn)v:Jq (eE nx n v) x h j:=by
 induction k with
 | @here x e=>
   have:x≠n:=λq=>by subst q;have:=(Jq.here e).one d;omega
   exact .here (by simpa[zh,this]using e)
 | @step x m h k e kk ih=>
   have:x≠n:=λq=>by subst q;have:=(Jq.step e kk).one d;omega
   exact .step (m:=m) (by simpa[zh,this]using e)<|ih ae
structure iK str nx bh:Prop where
 nD:∀V,mF str bh V↔mF str nx V
 mM:∀P,vD str nx P->vD str bh P
 eqs:∀P E,zi bh P E->zi nx P E
 lB:∀x h,Hd nx x h->Hd bh x h
 AQ:∀n,bh n=ka↔nx n=ka
def iK.refl str nx:iK str nx nx:=⟨λ_=>Iff.rfl,λ_ h=>h,λ_ _ h=>h,λ_ _ h=>h,λ_=>Iff.rfl⟩
def iK.trans{str}{a b c}(h:iK str a b)(k:iK str b c):iK str a c:=
 ⟨λV=>(k.nD V).trans<|h.nD V,λP q=>k.mM P<|h.mM P q,λP E q=>h.eqs P E<|k.eqs P E q,λx y q=>k.lB x y<|h.lB x y q,λn=>(k.AQ n).trans<|h.AQ n⟩
def iK.short str{nx}{n m k}(A:nx n=ia m)(J:nx m=ia k)(d:n≠m):iK str nx (zh nx n<|some k):=
 ⟨λV=>mF.short A J d,λP h=>h.short A J d,λP E q=>q.GW A J d,λx h j=>j.short A J,λx=>by
  by_cases e:x=n
  .subst e;simp[zh,A]
  .simp[zh,e]⟩
def hc(nx:Nx)(ds:List Nat):Nat:=(ds.filter λn=>(nx n).isNone).length
def Yd{nx}(h:iK str nx bh)ds:hc bh ds=hc nx ds:=by
 rw[hc];congr 1;apply List.filter_congr;intro x _;have:=h.AQ x
 cases e:bh x<;>cases e':nx x<;>simp[e,e']at this⊢
def M4{nx}{a b:Nat}(A:nx a=ka):∀{ds:List Nat},a∈ds->hc (zh nx a<|some b) ds<hc nx ds:=by
 have d:∀ds:List Nat,hc (zh nx a<|some b) ds<=hc nx ds:=by
  intro ds
  induction ds with
  |nil=>exact br _|cons x l ih=>
   unfold hc at ih⊢;by_cases e:x=a
   .grind
   .have j:zh nx a (ia b) x=nx x:=by simp[zh,e]
    by_cases m:(nx x).isNone=la
    .grind
    .grind
 intro ds h
 induction ds with
 |nil=>simp at h|cons x l ih=>
  by_cases e:x=a
  .subst e;have h1:hc (zh nx x<|some b) (x::l)=hc (zh nx x<|some b) l:=by
    unfold hc;rw[List.filter_cons_of_neg Oy]
   have h2:hc nx (x::l)=hc nx l+1:=by
    unfold hc;rw[List.filter_cons_of_pos<|by simp[A]];simp
   have:=d l;omega
  .have:=ih<|(List.mem_cons.1 h).resolve_left<|λq=>e q.symm;have j:zh nx a (ia b) x=nx x:=by simp[zh,e]
   unfold hc at this⊢;by_cases m:(nx x).isNone=la
   .grind
   .grind
structure JR str nx bh x y ok:Prop where
 eqs:∀P E,zi bh P E->zi nx P E
 yes:ok=la->(∀V,mF str bh V↔mF str nx V/\V x=V y)/\(∀P,vD str nx P->vD str bh P)/\(∀P E,zi bh P E->E x y)
 no:ok=na->∀V,mF str nx V->V x≠V y
def JR.oU{nx tI}{x y a b:Nat}{ok}(h:JR str tI bh a b ok)(e:iK str nx tI)(j:Hd nx x a)(m:Hd nx y b):JR str nx bh x y ok:=by
 refine⟨λP E q=>e.eqs P E<|h.eqs P E q,λhk=>?_,λhk V hV=>?_⟩
 .have⟨A,J,O⟩:=h.yes hk;refine⟨λV=>?_,λP q=>J P<|e.mM P q,λP E q=>?_⟩
  .rw[A V,e.nD V];constructor
   .rintro⟨s,t⟩;exact⟨s,by rw[j.nD s,m.nD s];exact t⟩
   .rintro⟨s,t⟩;exact⟨s,by rw[<-j.nD s,<-m.nD s];exact t⟩
  .have d:=e.eqs P E<|h.eqs P E q;exact d.trans _ _ _ (j.eq d)<|d.trans _ _ _ (O P E q)<|d.symm _ _<|m.eq d
 .have:=h.no hk V<|(e.nD V).2 hV;rw[j.nD hV,m.nD hV];exact this
def JR.same str nx a:JR str nx nx a a la:=⟨λ_ _ q=>q,λ_=>⟨λV=>ag,λ_ q=>q,λP E q=>q.refl a⟩,λh=>Pj⟩
def JR.aiD{nx}{a b:Nat}(d:nx a=ka)(j:str a=ka):JR str nx (zh nx a<|some b) a b la:=
 ⟨λP E q=>(q.iX d).1,λ_=>⟨λV=>mF.join d,λP q=>q.var d j,λP E q=>(q.iX d).2⟩,λh=>Pj⟩
def JR.aiE{nx}{a b:Nat}(d:nx b=ka)(j:str b=ka):JR str nx (zh nx b<|some a) a b la:=
 ⟨λP E q=>(q.iX d).1,λ_=>⟨λV=>(mF.join d).trans (by constructor<;>rintro⟨s,t⟩<;>exact⟨s,t.symm⟩),λP q=>q.var d j,λP E q=>q.symm _ _ (q.iX d).2⟩,λh=>Pj⟩
def JR.adx{nx}{a b:Nat}(m:str a=ia (c,l))(A:str b=ia (c',l'))(h:c≠c'\/l.length≠l'.length):JR str nx nx a b na:=by
 refine⟨λ_ _ q=>q,λh=> Pj,λ_ V s e=>?_⟩;rw[s.made a c l m,s.made b c' l' A]at e;injection e with d j;obtain h|h:=h
 .exact h d
 .exact h (by have:=congrArg qg j;simpa using this)
structure JL str nxu xH(l l':List Nat)j:Prop where
 eqs:∀P E,zi xH P E->zi nxu P E
 nD:∀V,mF str xH V↔mF str nxu V/\∀i(h:i<l.length)(h':i<l'.length),i<j->V l[i]=V l'[i]
 mM:∀P,vD str nxu P->vD str xH P
 prs:∀i(h:i<l.length)(h':i<l'.length),i<j->∀P E,zi xH P E->E l[i] l'[i]
def JL.start str nx l l':JL str nx nx l l' 0:=by
 refine⟨λ_ _ q=>q,λV=>⟨λs=>⟨s,?_⟩,λs=>s.1⟩,λ_ q=>q,?_⟩
 .omega
 .grind
def JL.step{str}{nxu xH bh}{l l'}{j}(h:JL str nxu xH l l' j)(hj:j<l.length)(hj':j<l'.length)(k:JR str xH bh l[j] l'[j] la):JL str nxu bh l l' (j+1):=by
 have⟨d,m,k3⟩:=k.yes rfl;refine⟨λP E q=>h.eqs P E<|k.eqs P E q,λV=>?_,λP q=>m P<|h.mM P q,λi hi hi' hij P E q=>?_⟩
 .rw[d V,h.nD V];constructor
  .rintro⟨⟨s,t⟩,u⟩;refine⟨s,λi hi hi' hij=>?_⟩;by_cases e:i=j
   .subst e;exact u
   .grind
  .grind
 .by_cases e:i=j
  .grind
  .exact h.prs i hi hi' ae P E (k.eqs P E q)
def ng{V:Nat->Ty}(h:l.map V=l'.map V)i(j:i<l.length)(d:i<l'.length):V l[i]=V l'[i]:=by
 have:=congrArg (λx=>x[i]?) h;simpa[j,d]using this
def JL.done{nx}{a b:Nat}(A:nx a=ka)(O:str a=ia (c,l))(j:str b=ia (c,l'))(Z:l.length=l'.length)(h:JL str (zh nx a<|some b) xH l l' l.length):JR str nx xH a b la:=by
 refine⟨λP E q=>((h.eqs P E q).iX A).1,λ_=>⟨λV=>?_,λP q=>?_,λP E q=>((h.eqs P E q).iX A).2⟩,λh=>Pj⟩
 .rw[h.nD V,mF.join A];constructor
  .grind
  .rintro⟨s,t⟩;refine⟨⟨s,t⟩,λi hi hi' _=>?_⟩;rw[s.made a c l O,s.made b c l' j]at t;injection t with _ t;exact ng t i hi hi'
 .have U:=h.mM _<|q.aM A O j Z;refine U.aiv λE hE m n hm=>?_;have⟨i,hi,e⟩:=jo hm;have d:i<l.length:=LY;have J:i<l'.length:=LY;rw[List.getElem_zip]at e;injection e with X Y;subst X;subst Y;exact h.prs i d J d P E hE
def JL.fail{nx}{a b:Nat}{j}(A:nx a=ka)(O:str a=ia (c,l))(d:str b=ia (c,l'))(h:JL str (zh nx a<|some b) xH l l' j)(U:j<l.length)(m:j<l'.length)(k:JR str xH bh l[j] l'[j] na):JR str nx bh a b na:=by
 refine⟨λP E q=>((h.eqs P E<|k.eqs P E q).iX A).1,λh=> Pj,λ_ V s e=>?_⟩;have t:=e;rw[s.made a c l O,s.made b c l' d]at t;injection t with _ t;have J:=(h.nD V).2 ⟨(mF.join A).2 ⟨s,e⟩,λi hi hi' _=>ng t i hi hi'⟩;exact k.no rfl V J (ng t j U m)
def OK(h:CN c):(pn c).toList≠[]:=by
 obtain rfl|rfl|h:=h
 .rw[jO,show(kh #[45,62]).toList=[45,62]from toList_mk [45,62]];simp
 .rw[jP,show(kh #[44]).toList=[44]from toList_mk [44]];simp
 .rw[e9 h];obtain⟨x,r,e,_⟩:=h;rw[e];simp
def aeY(h:CN c)(d:CN c')(e:(pn c).toList=(pn c').toList):c=c':=by
 have j:=toList_mk [45,62];have m:=toList_mk [44];obtain rfl|rfl|h:=h<;>obtain rfl|rfl|d:=d
 .rfl
 .rw[jO,jP,j,m]at e;simp at e
 .rw[jO,e9 d,j]at e;exact absurd e.symm<|dQ d 45 [62] aD
 .rw[jO,jP,j,m]at e;simp at e
 .rfl
 .rw[jP,e9 d,m]at e;exact absurd e.symm<|dQ d 44 [] aD
 .rw[jO,e9 h,j]at e;exact absurd e<|dQ h 45 [62] aD
 .rw[jP,e9 h,m]at e;exact absurd e<|dQ h 44 [] aD
 .rw[e9 h,e9 d]at e;exact toList_inj e
def TR:(Tryz.prog.info? 426).map (λi=>i.size)=ia 5:=qkr
def Jr{P}{w:ea}{tp te}{j}(E:P.underlying tp=ia (.pointer te))(m:P.info? te=ia j)(d:j.size≠0){a b:Nat}{cb:Array fa}(J:w.heap[a]? =ia (.cells ca ta (0,0)))(O:w.heap[b]? =ia (.cells cb tb (0,0))):(binOp .eql tp (nA a)<|nA b).run P w=.ok (.bool<|decide (a=b)) w:=by
 have A:(Op.equal tp (nA a)<|nA b).run P w=.ok (decide (a=b)) w:=by
  rw[Op.equal,Op.maxDepth,Op.equalIn];simp only[kx,run_underlying E,v9,Go.sizeOf,Go.typeInfo,m];by_cases e:a=b
  .subst e;simp[d,run_sameAddr_same,m]
  .simp[e,d,m,run_sameAddr_other w (a:=⟨a,0,ka⟩) (b:=⟨b,0,ka⟩) (by intro q;injection q with q;exact e q) J O]
 simp only[binOp];simp[A]
def Ye{w:ea}{a b:Nat}{cb:Array fa}(m:w.heap[a]? =ia (.cells ca ta (0,0)))(A:w.heap[b]? =ia (.cells cb tb (0,0))):(binOp .eql 416 (nA a)<|nA b).run qk w=.ok (.bool<|decide (a=b)) w:=by
 have⟨j,d,hjs⟩:=Option.map_eq_some_iff.1 TR;exact Jr qkr d ae m A
def aeZ{nx}(d:h∈ds)(j:nx h=ka):0<hc nx ds:=by
 rw[hc];apply j3 (a:=h);rw[List.mem_filter];exact⟨d,by simp[j]⟩
section
variable {w:ea} {nx:Nx}
theorem ig.move{s:Option (BA×List Nat)}(h:ig w ds sa s)(hs:w.heap.size<=w'.heap.size)(U:∀b i v,w.cell? ⟨b,i,ka⟩=ia v->w'.heap[b]? =w.heap[b]?):ig w' ds sa s:=by
 cases s with
 |none=>trivial|some p=>
  obtain⟨c,l⟩:=p;obtain⟨d,j,m,A⟩:=h;refine⟨d,j,m,?_⟩;by_cases e:l=[]
  .exact qj e
  .have⟨g,E,J,q3,O⟩:=A.resolve_left e;refine qi ⟨g,E,J,ae,λi hi=>?_⟩;have:=O i hi;rw[qw (a:=⟨g,i,ka⟩) (w:=w)<|U g i _ this];exact this
def ig.more{sa:Option Addr}{s:Option (BA×List Nat)}(h:ig w ds sa s){n:Nat}(hn:w.heap.size<=n):ig w (n::ds) sa s:=by
 cases s with
 |none=>trivial|some p=>
  obtain⟨c,l⟩:=p;obtain⟨d,j,A,E⟩:=h;refine⟨d,j,λm hm=>jh _<|A m hm,E.imp id ?_⟩;rintro⟨g,J,O,U,X⟩;refine⟨g,J,λhg=>?_,U,X⟩;obtain q|q:=List.mem_cons.1 hg
  .omega
  .exact O q
end
structure Ns where
 ds:List Nat
 str:wP
 vr:Nat->Nat
 ly:Nat->Option Addr×Nat
 ty:Nat->Ty
 vl:List Nat
def MS.qQ[DecidableEq κ]{enc}{w:ea}{b:Nat}{L:List (κ×fa)}(h:MS enc w b L)(i:Nat):w.cell? ⟨b,i,ka⟩=ka:=by
 obtain⟨es,c,d,_⟩:=h;simp[qx,d]
def iV{w:ea}{b i:Nat}{v}(h:w.cell? ⟨b,i,ka⟩=ia v):b<w.heap.size:=by
 by_cases e:b<w.heap.size
 .exact e
 .have:w.heap[b]? =ka:=Array.getElem?_eq_none ae;simp[qx,this]at h
section
variable {w:ea} {G:Ns}
def yD w:(zeroValue 416).run qk w=.ok (.pointer ka) w:=qkr
end
end
end Go.Proofs.YtonaidfgokhmoaaGreatDoor

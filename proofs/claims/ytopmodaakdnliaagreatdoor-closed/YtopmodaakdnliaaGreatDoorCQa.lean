import Derived.Laws.AppendOwnNone
import Derived.Shelf.SlMaps.Clone
import Derived.Test.YtopmodaakdnliaaGreatDoorCPf
import Derived.Test.YtopmodaakdnliaaGreatDoorCWj
import Derived.Test.YtopmodaakdnliaaGreatDoorCTo
set_option linter.all false
set_option maxRecDepth 100000
set_option maxHeartbeats 4000000
namespace Go.Proofs.YtopmodaakdnliaaGreatDoor
open _root_.List renaming take_succ_cons->ja,getElem?_eq_getElem->jc,map_cons->jd,take_length->jf,getElem_cons_succ->jh,take_succ_eq_append_getElem->ji,mem_cons_of_mem->jj,eq_nil_of_length_eq_zero->jk,append_assoc->jl,mem_cons->jm,nodup_cons->jo,mem_map_of_mem->jq,foldl_append->jt,getD_eq_getElem?_getD->ju,nodup_append->jv,getElem_mem->jx,map_append->jy,length_map->jz,foldl_cons->j3,map_nil->j5
open Or renaming inr->j6,inl->j7
open _root_.Nat renaming le_trans->j8,strongRecOn->j9,lt_of_lt_of_le->qd,zero_le->qe,mul_le_mul->qf
open _root_.Array renaming replicate->qg,getElem?_setIfInBounds_ne->qh,getElem?_setIfInBounds->qi,getD_eq_getD_getElem?->qj,getElem?_eq_getElem->ql,toList_modify->qm
open Go.Proofs.Tryz renaming prog->qn
open Go.World renaming cell?_of_block->qp,ownsRow_nil->qr
open Go.RowKit.Below renaming heap_setCell->qt,refl->qu
open Go.Instr renaming typeAssert->qv,lookup->qx,mapUpdate->qy,next->qz
open Go.Value renaming string->q9,iface->xd,int->xf,slice->xg
open Un renaming seen->xh
open Go.MapKept renaming heap_alloc->xj,run_setObj_map->xk
open Bx renaming new->xm
open Go.Result renaming andThen->xn
open Classical renaming propDecidable->xo
open _root_.ByteArray renaming toList->xq
open Go Go.RowKit Go.ChangeMaps Proofs.Tryz
variable {ops:Array Oper} {cs:Array Value} {c s:BA} {L:List (Int×Value)} {ns:List BA} {V acc l l':List Nat} {N:List Nat->Nat->Prop} {rest:List Oper} {xs:List Value} {base by_ cb fb g gb kb mb n r:Nat} {D D1 K:Nat->Option Un.Ty} {P Q S:Nat->Prop} {R:Nat->Un.Ty} {o:Oper} {κ:Type} {e k:TypeId} {i:TypeInfo} {t x y:Un.Ty} {u z:Value} {W w' w0:World}
section
open Un
def tl(s:BA):BA:=s.extract 1 s.size
def UT(s:BA):=∃r,s.toList=39::r
def xZ{r}(h:s.toList=39::r):(tl s).toList=r:=by
 rw[tl];rw[ByteArray.toList_eq]at h⊢;rw[ByteArray.data_extract];simp;rw[h];have:s.size=(39::r).length:=by rw[<-h];simp
 rw[this];simp
def ack{t}(hs:UT s)(ht:UT t)(h:tl s=tl t):s=t:=by
 obtain⟨r,hr⟩:=hs;obtain⟨q,hq⟩:=ht;have:r=q:=by rw[<-xZ hr,<-xZ hq,h]
 exact toList_inj (by rw[hr,hq,this])
def nmF:Nat->List BA->List (BA×Value)
 |_,[]=>[]|i,a::l=>(tl a,Iv<|(i:Int)+1)::nmF (i+1) l
def Lj(s:BA):∀l i,nmF i (l++[s])=nmF i l++[(tl s,Iv<|((i+l.length:Nat):Int)+1)]
 |[],i=>by simp[nmF]|a::l,i=>by
  simp only[List.cons_append,nmF,Lj s l<|i+1];simp;omega
def acm{s:BA}(hs:UT s):∀l i,(∀a∈l,UT a)->s∈l->bd (tl s) (nmF i l)=some (Iv<|((i+ix s l:Nat):Int)+1)
 |[],i,_,h=>xA|a::l,i,h,hm=>by
  rw[nmF,bd];by_cases e:tl a=tl s
  .have:a=s:=ack (h a ah) hs e;subst this;simp[ix]
  .have cJ:¬s=a:=λq=>e (by rw[q]);have hx:ix s (a::l)=ix s l+1:=by
    show(if a.toList=s.toList then 0 else ix s l+1)=_;rw[if_neg<|λq=>cJ (toList_inj q).symm]
   rw[if_neg e,acm hs l (i+1) (λb hb=>h b<|jj _ hb)<|(List.mem_cons.1 hm).resolve_left cJ,hx];congr 2;omega
def TH{s:BA}(hs:UT s):∀l i,(∀a∈l,UT a)->¬s∈l->bd (tl s) (nmF i l)=none
 |[],i,_,_=>rfl|a::l,i,h,hm=>by
  rw[nmF,bd];have e:¬tl a=tl s:=λq=>hm<|List.mem_cons.2<|j7 (ack (h a ah) hs q).symm;rw[if_neg e];exact TH hs l (i+1) (λb hb=>h b<|jj _ hb)<|λq=>hm<|jj _ q
structure NM w kb fb cb mb(ns:List BA):Prop where
 bk:Bx w kb #[Mv mb]
 bf:Bx w fb #[.func (.func 86) #[] #[Pv cb]]
 bc:Bx w cb #[Nv ns.length]
 mp:MS q9 w mb (nmF 0 ns)
 qo:∀a∈ns,UT a
 nd:ns.Nodup
 d1:cb≠kb/\cb≠fb/\cb≠mb/\mb≠kb/\mb≠fb
abbrev nmV(kb fb:Nat):Value:=.func (.func 307) #[] #[Pv kb,Pv fb]
def Two cb mb(b:Nat):=b=cb\/b=mb
def NM.fr{S}{w w'}{kb fb cb mb}{ns}(h:NM w kb fb cb mb ns)(hf:Fr S w w')(hS:∀b,S b->b≠kb/\b≠fb/\b≠cb/\b≠mb):NM w' kb fb cb mb ns:=
 ⟨h.bk.fr hf<|λq=>(hS _ q).1 rfl,h.bf.fr hf<|λq=>(hS _ q).2.1 rfl,h.bc.fr hf<|λq=>(hS _ q).2.2.1 rfl,h.mp.same<|hf.block mb h.mp.lt<|λq=>(hS _ q).2.2.2 rfl,h.qo,h.nd,h.d1⟩
def NM.af{w:World}(h:NM w kb fb cb mb ns)(hb:Bq w w'):NM w' kb fb cb mb ns:=h.fr (S:=λ_=>False) (Fr.of hb)<|λ_ q=>q.elim
def NM.set{w}{kb fb cb mb}{ns}(h:NM w kb fb cb mb ns){b}(hb:b≠kb/\b≠fb/\b≠cb/\b≠mb)j v:NM (w.setCell ⟨b,j,none⟩ v) kb fb cb mb ns:=
 h.fr (S:=λx=>x=b) ((Fr.refl (λx=>x=b) w).set (j7 rfl) j v) (λx q=>by subst q;exact hb)
section
variable {w:World}
def aff w:(zeroValue 248).run qn w=.ok (Iv 0) w:=qkr
def PW n(hn:n<=2000)(h:Bx w cb #[Nv n]):Cq 86 #[Pv cb] w λe w'=>e=.returned (Iv<|(n:Int)+1)/\w'=w.setCell ⟨cb,0,none⟩ (Iv<|(n:Int)+1):=by
 obtain⟨c,f,z⟩:=h;go_enter func86,ntmps86
 go_wp2
 go_ret;exact⟨rfl,rfl⟩
def PX kb fb cb mb ns s w(e:Ending)w':=
 e=.returned (.iface 248<|Iv<|(ix s (pK s ns):Int)+1)/\NM w' kb fb cb mb (pK s ns)/\Fr (Two cb mb) w w'
def I7(h:NM w kb fb cb mb ns)s(hs:UT s)(hn:ns.length<=2000):Cq 307 #[.string<|tl s,Pv kb,Pv fb] w (PX kb fb cb mb ns s w):=by
 have hl:=h.mp.look (KL.str Tryz.underlying9) Tryz.underlying449 (aff w) (tl s) trivial (λ_ _=>trivial) true;have⟨c,f,z⟩:=h.bk;have⟨cf,ff,zf⟩:=h.bf;by_cases hm:s∈ns
 .rw[acm hs ns 0 h.qo hm]at hl;simp at hl;go_enter func307,ntmps307
  go_wp2
  go_ret;rw[PX];rw[afg hm];exact⟨rfl,h,Fr.refl _ _⟩
 .have hg:=TH hs ns 0 h.qo hm;rw[hg]at hl;simp at hl;have hd:=h.d1;have oY:=c 0;have HM:=h.mp.tT hd.2.2.1.symm 0<|Iv<|(ns.length:Int)+1;have BK:=ai<|h.bk.bJ hd.1.symm 0<|Iv<|(ns.length:Int)+1;have BF:=ai<|h.bf.bJ hd.2.1.symm 0<|Iv<|(ns.length:Int)+1;have BC:=h.bc.aP 0 (Iv<|(ns.length:Int)+1) #[Iv<|(ns.length:Int)+1] rfl ah;have F1:=(Fr.refl (Two cb mb) w).set (b:=cb) (Or.inl<|Or.inl rfl) 0<|Iv<|(ns.length:Int)+1;have⟨c1,f1,z1⟩:=uh BK;go_enter func307,ntmps307;go_wp2_with(first|(go_at_call 86;refine(PW ns.length ae h.bc).mono ?_;rintro e w'⟨rfl,rfl⟩)|(refine aY _ rfl _ _ _ _ (Or.inr rfl) (KL.str Tryz.underlying9) Tryz.underlying449 _ _ rfl HM (tl s) (Iv<|(ns.length:Int)+1) rfl rfl trivial (λ_ _=>trivial) ?_;intro w' H' O';have wZ:=ai H';have O2:=ai O';clear H' O'));go_ret;have e1:=acn hm;have e2:=TI hm;rw[PX];rw[e1,e2];have O:=uh O2;refine⟨rfl,⟨BK.one O hd.2.2.2.1.symm,BF.one O hd.2.2.2.2.symm,?_,?_,?_,?_,hd⟩,?_⟩
  .have:=BC.one O hd.2.2.1;simpa using this
  .have:=uh wZ;rw[n8 _ _ _ hg]at this;rw[Lj];simpa using this
  .intro a ha;obtain q|q:=List.mem_append.1 ha
   .exact h.qo a q
   .simp at q;subst q;exact hs
  .rw[jv];refine⟨h.nd,ah,λa ha b hb=>?_⟩;simp at hb;subst hb;intro e;subst e;exact hm ha
  .have f1:=F1;exact⟨O.os.trans f1.os,O.tape.trans f1.tape,O.output.trans f1.output,by rw[O.size];exact f1.size,λk hk hn=>(O.block k<|λe=>hn<|j6 e).trans<|f1.block k hk hn⟩
end
def pn(c:BA):BA:=if c.toList=[62]then⟨#[45,62]⟩else c
def CN c:=c=pH\/c=o6\/m0 c
def kE:pn pH=⟨#[45,62]⟩:=by simp_all[pn]
def kF:pn o6=⟨#[44]⟩:=by simp_all[pn]
def cz(h:m0 c)x r(hx:Pu.Bv x.toNat=false):c.toList≠x::r:=by grind[m0]
def fG(h:m0 c):pn c=c:=by rw[pn];rw[if_neg<|cz h 62 [] aA]
inductive eN(w:World)(P:Nat->Prop):Ty->Value->Prop where
 |var(n:Nat):eN w P (.var n) (.iface 248<|Nv n)
 |aM(c:BA)(L:List Ty)(sa:Option Addr)(sc:Nat)(vs:Nat->Value)(hc:CN c)(aE:L=[]\/∃g,sa=some ⟨g,0,none⟩/\P g/\g<w.heap.size/\∀i,i<L.length->w.cell? ⟨g,i,none⟩=some (vs i))(hr:∀i(h:i<L.length),eN w P L[i]<|vs i):
  eN w P (.aM c L) (.iface 260<|.agg #[.string<|pn c,.slice sa L.length sc])
def TU{p:Prop}(h:p:=by
 induction h with
 |var n=>exact .var n|aM c L sa sc vs hc aE hr ih=>
  refine .aM c L sa sc vs hc ?_ ih;obtain h0|⟨g,h1,hP,hz,hc⟩:=aE
  .exact j7 h0
  .refine j6 ⟨g,h1,hq g hP hz,qd hz hs,λi hi=>?_⟩;rw[qp (a:=⟨g,i,none⟩) (w:=w)<|hb g hP hz]
   exact hc i hi):p:=h
theorem eN.move{w:World}{v:Value}(h:eN w P t v)(hs:w.heap.size<=w'.heap.size)(hb:∀b,P b->b<w.heap.size->w'.heap[b]? =w.heap[b]?)(hq:∀b,P b->b<w.heap.size->Q b):eN w' Q t v:=by
 exact TU
def eN.af{w:World}{v:Value}(h:eN w P t v)(hb:Bq w w'):eN w' P t v:=h.move hb.size (λb _ hz=>hb.block b hz)<|λ_ p _=>p
def eN.wide{w:World}{v:Value}(h:eN w P t v)(hq:∀b,P b->Q b):eN w Q t v:=h.move (br _) (λ_ _ _=>rfl)<|λb p _=>hq b p
def eN.fr{w:World}{v:Value}(h:eN w P t v)(hf:Fr S w w')(hS:∀b,P b->b<w.heap.size->¬S b):eN w' P t v:=h.move hf.size (λb p z=>hf.block b z<|hS b p z)<|λ_ p _=>p
def eN.low{w:World}{v:Value}(h:eN w P t v):eN w (λb=>P b/\b<w.heap.size) t v:=h.move (br _) (λ_ _ _=>rfl)<|λ_ p z=>⟨p,z⟩
def eN.iface{w:World}{v:Value}(h:eN w P t v):∃a x,v=.iface a x:=by
 cases h<;>exact⟨_,_,rfl⟩
def PT.fr{w:World}{nd}{v:Value}(h:PT w P nd v)(hf:Fr S w w')(hS:∀b,P b->b<w.heap.size->¬S b):PT w' P nd v:=h.move hf.size (λb p z=>hf.block b z<|hS b p z)<|λ_ p _=>p
def PT.cG{w:World}{a}{v:Value}(h:PT w P a v):∃t x,v=.iface t (.agg x):=by
 cases h<;>exact⟨_,_,rfl⟩
def AV z n:madeCells #[z] n=qg n z:=by
 rw[madeCells];apply Array.ext
 .simp
 .grind
def Ul{p:Prop}(h:p:=by
 rw[run_make w t e i z ht hi hz .i64 .i64 n n ae (Int.le_refl _) hb ae,hzc,h1]
 simp[AV]):p:=h
def A8{p:Prop}(h:p:=by
 have h3:((by_*n:Nat):Int)<=281474976710656:=ae
 rwa[Int.natCast_mul]at h3):p:=h
def lE{P}{t}(ht:P.underlying t=some (.slice e))(hi:P.info? e=some i)(hz:i.zero=some z)(hzc:z.cells=#[z])(h1:i.size=1)(h2:i.bytes=by_)(hby:by_<=16)n(hn:n<=1001)w:
 (Instr.makeSlice t (Nv n)<|Nv n).run P w=.ok (.slice (some ⟨w.heap.size,0,none⟩) n n) (w.alloc<|.cells (qg n z) e):=by
 have hb:(i.bytes:Int)*(n:Int)<=281474976710656:=by
  rw[h2];have:by_*n<=16*1001:=qf hby hn;exact A8
 exact Ul
def iP:(Tryz.prog.info? 98).map (λi=>(i.zero,i.size,i.bytes))=some (some .nilIface,1,16):=qkr
def fI:Tryz.prog.underlying 258=some (.slice 98):=qkr
def tC kb fb cb mb(ns:List BA)T ns' w(e:Ending)w':=
 ∃u,e=.returned u/\eN w' (λb=>w.heap.size<=b) T u/\NM w' kb fb cb mb ns'/\Fr (Two cb mb) w w'
def OfC nd:=∀(w:World)(kb fb cb mb:Nat)(ns:List BA)(Q:Nat->Prop)(v:Value),NM w kb fb cb mb ns->PT w Q nd v->(∀b,Q b->b≠cb/\b≠mb)->(eJ ns nd).2.length<=2000->
 Cq 290 #[v,nmV kb fb] w (tC kb fb cb mb ns (eJ ns nd).1 (eJ ns nd).2 w)
def NM.lt{w}{kb fb cb mb}{ns}(h:NM w kb fb cb mb ns):kb<w.heap.size/\fb<w.heap.size/\cb<w.heap.size/\mb<w.heap.size:=⟨h.bk.z,h.bf.z,h.bc.z,h.mp.lt⟩
def Lt ns:∀(L:List Nd)(i:Nat)(h:i<L.length),(bC ns<|L.take<|i+1).1=(bC ns<|L.take i).1++[(eJ (bC ns<|L.take i).2 L[i]).1]/\(bC ns<|L.take<|i+1).2=(eJ (bC ns<|L.take i).2 L[i]).2:=by
 intro L
 induction L generalizing ns with
 |nil=>intro i h;simp at h|cons x l ih=>
  intro i h
  cases i with
  |zero=>simp[bC]|succ i=>
   have:=ih (eJ ns x).2 i xB;simp only[ja,bC,this,jh];simp
def afi kb fb cb mb ns(L:List Nd)w gk v wr:=
 ∃(j:Nat)(C:Array Value),Hid (gk=L.length-j)/\j<=L.length/\v=Nv j/\NM wr kb fb cb mb (bC ns<|L.take j).2/\Fr (Two cb mb) w wr/\Bx wr w.heap.size C/\Hid (C.size=L.length)/\
  Hid (∀i(h:i<(bC ns<|L.take j).1.length),∃u,C[i]? =some u/\eN wr (λb=>w.heap.size<b/\b<wr.heap.size) (bC ns<|L.take j).1[i] u)
section
variable {w:World}
def AW ns:∀(L:List Nd),(bC ns L).1.length=L.length:=by
 intro L
 induction L generalizing ns with
 |nil=>rfl|cons x l ih=>simp[bC,ih]
def Cm ns L i:(bC ns<|L.take i).2.length<=(bC ns L).2.length:=by
 induction L generalizing ns i with
 |nil=>simp|cons x l ih=>
  cases i with
  |zero=>simp only[List.take_zero];exact u7 (x::l) ns|succ i=>simp only[ja,bC];exact ih _ i
def Uk{p:Prop}(h:p:=by
 obtain h0|h0:=aE
 .subst h0;simp at aI
 .exact h0):p:=h
def Lu c(CB:CN c)L sa sc(vs:Nat->Value)(hL:L.length<=1001)(h:NM w kb fb cb mb ns)(hQ:∀b,Q b->b≠cb/\b≠mb)(aE:L=[]\/∃g,sa=some ⟨g,0,none⟩/\Q g/\g<w.heap.size/\∀i,i<L.length->w.cell? ⟨g,i,none⟩=some (vs i))(hr:∀i(h:i<L.length),PT w Q L[i]<|vs i)(IH:∀i(h:i<L.length),OfC L[i])(hn:(bC ns L).2.length<=2000):
 Cq 308 #[.string<|pn c,nmV kb fb,.slice sa L.length sc] w (tC kb fb cb mb ns (.aM c (bC ns L).1) (bC ns L).2 w):=by
 obtain⟨i0,m6,ku,gS,gC⟩:=info_parts iP;have Hi:=lE (by_:=16) fI m6 ku rfl gS gC aA L.length hL;have aZ:=h.lt;go_enter func308,ntmps308
 go_wp2
 go_loopg[15] L.length (λgk v wr=>afi kb fb cb mb ns L w gk v wr)
 case atStart=>
  refine⟨0,qg L.length .nilIface,ai ah,qe _,rfl,?_,Fr.of<|bw _,xm w _ _,ai ah,ai<|λi hi=>absurd hi<|by simp[bC]⟩;simpa[bC]using h.af (bw _)
 case round=>
  obtain⟨j,C,bE,hj,rfl,N1,F1,B1,hC,hT⟩:=hrel;have zw:=F1.size;have n1:=N1.lt;by_cases aI:j<L.length
  .have hd:(j:Int)<(L.length:Int):=ae;obtain⟨g,rfl,hg,mn,bX⟩:∃g,sa=some ⟨g,0,none⟩/\Q g/\g<w.heap.size/\∀i,i<L.length->w.cell? ⟨g,i,none⟩=some (vs i):=by
    exact Uk
   have hQg:=hQ g hg;have cg:wr.cell? ⟨g,j,none⟩=some (vs j):=by
    rw[qp (a:=⟨g,j,none⟩) (w:=w)<|F1.block g mn (λq=>by obtain q|q:=q;exact hQg.1 q;exact hQg.2 q)];exact bX j aI
   have PJ:=(hr j aI).fr F1 (λb p _ q=>by obtain q|q:=q;exact(hQ b p).1 q;exact(hQ b p).2 q);obtain⟨tv,xv,hv⟩:=PJ.cG;obtain⟨mt1,mt2⟩:=Lt ns L j aI;have hnj:(eJ (bC ns<|L.take j).2 L[j]).2.length<=2000:=by rw[<-mt2];exact j8 (Cm ns L<|j+1) hn
   have HC:=IH j aI wr kb fb cb mb _ Q (vs j) N1 PJ hQ hnj;rw[hv]at cg HC;go_wp2_with fail;refine HC.mono ?_;rintro e w1⟨u,rfl,HU,UW,HF⟩;obtain⟨tu,xu,rfl⟩:=HU.iface;have hpb:¬Two cb mb w.heap.size:=λq=>by obtain q|q:=q<;>omega
   have B2:=B1.fr HF hpb;have Bp:j<C.size:=qBh;have cj:=(B2.c j).trans<|ql Bp;have fj:=B2.f j;have B3:=B2.aP j (.iface tu xu) (C.setIfInBounds j<|.iface tu xu) rfl Bp;have xX:=F1.trans HF;have z2:=HF.size
   go_wp2
   go_roundg(L.length-(j+1))
   case measure=>rw[uh bE];omega
   case rel=>
    have M5:(bC ns<|L.take j).1.length=j:=by rw[AW];simp;omega
    refine⟨j+1,C.setIfInBounds j<|.iface tu xu,ai rfl,ae,d_,?_,?_,B3,ai (by simp;exact hC),ai<|λi hi=>?_⟩
    .rw[mt2];exact UW.set ae j _
    .exact xX.set (j6<|br _) j _
    .have lF:∀b,w.heap.size<b->b<w1.heap.size->(w1.setCell ⟨w.heap.size,j,none⟩<|.iface tu xu).heap[b]? =w1.heap[b]? :=λb hb _=>qt _ _ _ _ (by show b≠w.heap.size;omega);have Yu:(w1.setCell ⟨w.heap.size,j,none⟩<|.iface tu xu).heap.size=w1.heap.size:=yG;have tH:i<j+1:=by rw[mt1]at hi;simp[M5]at hi;omega
     by_cases e:i=j
     .subst e;refine⟨.iface tu xu,by simp[Bp],?_⟩;have e1:(bC ns<|L.take<|i+1).1[i]'hi=(eJ (bC ns<|L.take i).2 L[i]).1:=by
       have:(bC ns<|L.take<|i+1).1[i]? =some (eJ (bC ns<|L.take i).2 L[i]).1:=by rw[mt1,List.getElem?_append_right ae];simp[M5]
       rw[jc hi]at this;exact Option.some.inj this
      rw[e1];refine HU.low.move ae (λb p z=>lF b (by have:wr.heap.size<=b:=p.1;have:=B1.z;omega) z) (λb p z=>⟨by have:wr.heap.size<=b:=p.1;have:=B1.z;omega,ae⟩)
     .have BL:i<(bC ns<|L.take j).1.length:=ae;obtain⟨u',x_,Ir⟩:=uh hT i BL;have e1:(bC ns<|L.take<|j+1).1[i]'hi=(bC ns<|L.take j).1[i]'BL:=by
       have:(bC ns<|L.take<|j+1).1[i]? =some ((bC ns<|L.take j).1[i]'BL):=by rw[mt1,List.getElem?_append_left BL,jc BL]
       rw[jc hi]at this;exact Option.some.inj this
      refine⟨u',by rw[qh ae];exact x_,?_⟩;rw[e1];have h3:=Ir.fr HF (λb p _ q=>by obtain q|q:=q<;>omega);exact h3.move ae (λb p z=>lF b p.1 z)<|λb p z=>⟨p.1,ae⟩
  .have hd:decide ((j:Int)<(L.length:Int))=false:=bi;have ej:j=L.length:=ae;subst ej
   go_wp2
   go_ret;refine⟨_,rfl,?_,?_,F1⟩
   .have ht:L.take L.length=L:=jf;rw[ht]at hT;have hml:=AW ns L;rw[<-hml];refine .aM c _ _ _ (λi=>C.getD i .nilIface) CB (j6 ⟨w.heap.size,rfl,br _,B1.z,λi hi=>?_⟩)<|λi hi=>?_
    .obtain⟨u,hu,_⟩:=uh hT i hi;rw[B1.c i,hu];simp[qj,hu]
    .obtain⟨u,hu,hty⟩:=uh hT i hi;have:C.getD i .nilIface=u:=qBm;rw[this];exact hty.wide λb p=>qAu
   .rw[jf]at N1;exact N1
end
def acv:pn uk=uk:=by simp_all[pn,uk]
inductive dA(w:World)(P:Nat->Prop):Ty->Value->Prop where
 |var(n:Nat):dA w P (.var n) (.iface 248<|Nv n)
 |aM(c:BA)(L:List Ty)(sa:Option Addr)(sc:Nat)(vs:Nat->Value)(hc:CN c\/c=uk)(aE:L=[]\/∃g,sa=some ⟨g,0,none⟩/\P g/\g<w.heap.size/\∀i,i<L.length->w.cell? ⟨g,i,none⟩=some (vs i))(hr:∀i(h:i<L.length),dA w P L[i]<|vs i):
  dA w P (.aM c L) (.iface 260<|.agg #[.string<|pn c,.slice sa L.length sc])
theorem dA.move{w}{v}(h:dA w P t v)(hs:w.heap.size<=w'.heap.size)(hb:∀b,P b->b<w.heap.size->w'.heap[b]? =w.heap[b]?)(hq:∀b,P b->b<w.heap.size->Q b):dA w' Q t v:=by
 exact TU
def dA.af{w}{v}(h:dA w P t v)(hb:Bq w w'):dA w' P t v:=h.move hb.size (λb _ hz=>hb.block b hz)<|λ_ p _=>p
def dA.wide{w}{v}(h:dA w P t v)(hq:∀b,P b->Q b):dA w Q t v:=h.move (br _) (λ_ _ _=>rfl)<|λb p _=>hq b p
def dA.fr{w}{v}(h:dA w P t v)(hf:Fr S w w')(hS:∀b,P b->b<w.heap.size->¬S b):dA w' P t v:=h.move hf.size (λb p z=>hf.block b z<|hS b p z)<|λ_ p _=>p
def dA.low{w}{v}(h:dA w P t v):dA w (λb=>P b/\b<w.heap.size) t v:=h.move (br _) (λ_ _ _=>rfl)<|λ_ p z=>⟨p,z⟩
def dA.iface{w}{v}(h:dA w P t v):∃a x,v=.iface a x:=by
 cases h<;>exact⟨_,_,rfl⟩
def eN.w{w}{v}(h:eN w P t v):dA w P t v:=by
 induction h with
 |var n=>exact .var n|aM c L sa sc vs hc aE hr ih=>exact .aM c L sa sc vs (j7 hc) aE ih
def u_:∀{L:List Ty},nX L->∀i(h:i<L.length),Whole L[i]
 |[],_,i,h=>xA|t::l,h,0,_=>h.1|t::l,h,i+1,k=>by simpa using u_ h.2 i (by simpa using k)
def dA.v{w}{v}(h:dA w P t v)(hw:Whole t):eN w P t v:=by
 induction h with
 |var n=>exact .var n|aM c L sa sc vs hc aE hr ih=>exact .aM c L sa sc vs (hc.resolve_right hw.1) aE λi hi=>ih i hi<|u_ hw.2 i hi
mutual
def occs:Ty->List Nat
 |.var n=>[n]|.aM _ l=>gu l
def gu:List Ty->List Nat
 |[]=>[]|t::l=>occs t++gu l
end
mutual
def dH:∀(t:Ty)(a:List Nat),vars a t=(occs t).foldl xh a
 |.var n,a=>rfl|.aM c l,a=>by simpa[vars,occs]using AY l a
def AY:∀(l:List Ty)(a:List Nat),bt a l=(gu l).foldl xh a
 |[],a=>rfl|t::l,a=>by simp only[bt,gu,jt];rw[dH t a];exact AY l _
end
def AZ:∀(L:List Ty)(i:Nat)(h:i<L.length),gu (L.take<|i+1)=gu (L.take i)++occs L[i]
 |[],i,h=>xA|t::l,0,_=>by simp[gu]|t::l,i+1,h=>by
  have:=AZ l i xB;simp only[ja,gu,jh,this,jl]
def TX σ L i(h:i<L.length):(ba σ L)[i]'(by rw[dW];exact h)=sub σ L[i]:=by simp[iq]
def mj:∀(L:List Ty)(i:Nat)(h:i<L.length),size L[i]<=ak L:=by simp_all[size,ak,zS]
def GQ:∀L:List Ty,L.length<=ak L
 |[]=>br _|t::l=>by have:=GQ l;have:=size_pos t;simp only[de,ak];omega
def T0{n:Nat}:∀(L:List Ty)(i:Nat)(h:i<L.length),aG n L[i]->ck n L
 |[],i,h,_=>xA|t::l,0,_,k=>j7 k|t::l,i+1,h,k=>j6 (T0 l i xB<|by simpa using k)
def CH{P}{t}(ht:P.underlying t=some (.slice e))(hi:P.info? e=some i)(hz:i.zero=some z)(hzc:z.cells=#[z])(h1:i.size=1)(h2:i.bytes=by_)(hby:by_<=16)n(hn:n<=1000000000000)w:
 (Instr.makeSlice t (Nv n)<|Nv n).run P w=.ok (.slice (some ⟨w.heap.size,0,none⟩) n n) (w.alloc<|.cells (qg n z) e):=by
 have hb:(i.bytes:Int)*(n:Int)<=281474976710656:=by
  rw[h2];have:by_*n<=16*1000000000000:=qf hby hn;exact A8
 exact Ul
@[simp] theorem aiT n w:(qv (.iface 248<|Iv n) 98 248 true).run qn w=.ok (.tuple #[Iv n,.bool true]) w:=qkr
@[simp] theorem aoe n w:(qv (.iface 248<|Iv n) 98 260 true).run qn w=.ok (.tuple #[.agg #[.string ⟨#[]⟩,.slice none 0 0],.bool false]) w:=qkr
@[simp] theorem alD a b w:(qv (.iface 260<|.agg #[a,b]) 98 248 true).run qn w=.ok (.tuple #[Iv 0,.bool false]) w:=qkr
@[simp] theorem aof a b w:(qv (.iface 260<|.agg #[a,b]) 98 260 true).run qn w=.ok (.tuple #[.agg #[a,b],.bool true]) w:=qkr
abbrev acw(B M:Nat->Prop)n b:=¬M b/\(B b\/n<=b)
abbrev T_:=List Nat->(Nat->Prop)->(Nat->Prop)->World->Prop
structure Img g bs cs(σ:Nat->Ty)(N:List Nat->Nat->Prop)(I:T_):Prop where
 eg:∀args w,(callFunc g args).run qn w=.ok (.enter g args) w
 pL:∀acc B M w w',I acc B M w->w.heap.size<=w'.heap.size->(∀b,B b\/M b->w'.heap[b]? =w.heap[b]?)->I acc B M w'
 lt:∀acc B M w,I acc B M w->∀b,B b\/M b->b<w.heap.size
 call:∀acc B M w n,I acc B M w->N acc n->Cq g (bs++#[Nv n]++cs) w λe w'=>
  ∃u B' M',e=.returned u/\dA w' (acw B M' w.heap.size) (σ n) u/\I (acc++[n]) B' M' w'/\(∀b,B' b->B b\/w.heap.size<=b)/\(∀b,M' b->M b\/w.heap.size<=b)/\Fr M w w'
def Fr.iH{M M'}{a b c}(h:Fr M a b)(k:Fr M' b c)(hm:∀x,M' x->M x\/a.heap.size<=x):Fr M a c:=
 ⟨k.os.trans h.os,k.tape.trans h.tape,k.output.trans h.output,j8 h.size k.size,λx hx hn=>(k.block x (qd hx h.size) (λq=>by obtain r|r:=hm x q;exact hn r;omega)).trans (h.block x hx hn)⟩
def Ua σ(I:T_)acc B M t w(e:Ending)w':=
 ∃u B' M',e=.returned u/\dA w' (acw B M' w.heap.size) (sub σ t) u/\I (acc++occs t) B' M' w'/\(∀b,B' b->B b\/w.heap.size<=b)/\(∀b,M' b->M b\/w.heap.size<=b)/\Fr M w w'
def Ly(N:List Nat->Nat->Prop)acc(l:List Nat):=∀i(h:i<l.length),N (acc++l.take i) l[i]
def Ly.left(h:Ly N acc (l++l')):Ly N acc l:=λi hi=>by
 have:=h i bi
 rwa[List.take_append_of_le_length ae,List.getElem_append_left hi]at this
def Ly.right(h:Ly N acc (l++l')):Ly N (acc++l) l':=λi hi=>by
 have:=h (l.length+i) bi;rw[List.take_length_add_append,<-jl]at this;simpa using this
def afj g bs cs σ N I t:=∀(acc:List Nat)(B M:Nat->Prop)(w:World)(v:Value)(Q:Nat->Prop),I acc B M w->Ly N acc (occs t)->size t<=1000000000000->dA w Q t v->(∀b,Q b->b<w.heap.size->¬M b)->
 Cq 282 #[v,.func (.func g) bs cs] w (Ua σ I acc B M t w)
def afk σ(I:T_)acc B M(L:List Ty)TC w gk v wr:=
 ∃(j:Nat)(C:Array Value)(B' M':Nat->Prop),Hid (gk=L.length-j)/\j<=L.length/\v=Nv j/\I (acc++gu (L.take j)) B' M' wr/\Hid (∀b,B' b->B b\/w.heap.size+2<=b)/\Hid (∀b,M' b->M b\/w.heap.size+2<=b)/\Fr M w wr/\Bx wr w.heap.size TC/\Bx wr (w.heap.size+1) C/\Hid (C.size=L.length)/\
  Hid (∀i(h:i<L.length),i<j->∃u,C[i]? =some u/\dA wr (λb=>acw B M' (w.heap.size+2) b/\b<wr.heap.size) (sub σ L[i]) u)
def acx L j(h:j<L.length):∃r,gu L=gu (L.take j)++(occs L[j]++r):=by
 induction L generalizing j with
 |nil=>simp at h|cons t l ih=>
  cases j with
  |zero=>exact⟨gu l,by simp[gu]⟩|succ j=>
   have⟨r,e⟩:=ih j xB;exact⟨r,by simp only[ja,gu,jh];rw[e];simp[jl]⟩
section
variable {bs:Array Value} {σ:Nat->Ty} {I:T_}
def afl(H:Img g bs cs σ N I)n:afj g bs cs σ N I (.var n):=by
 intro acc B M w v Q hI hN hz hv hQ
 cases hv
 have eg:=H.eg;have HC:=H.call acc B M w n hI (by simpa[occs]using hN 0 (by simp[occs]));go_enter func282,ntmps282;go_wp2_with(go_at_fn g;refine HC.mono ?_;rintro e w1⟨u,B',M',rfl,h2,h3,h4,h5,h6⟩;obtain⟨ta,xa,rfl⟩:=h2.iface;have X:=ai<|show Ua σ I acc B M (.var n) w (Rv<|Fv ta xa) w1 from⟨_,B',M',rfl,h2,h3,h4,h5,h6⟩;clear h2 h3 h4 h5 h6);go_ret;exact X
def GY{p:Prop}(h:p:=by
 obtain r|r:=uh hM1 _ q
 .have:=HB _<|j6 r;omega
 .omega):p:=h
def afm(H:Img g bs cs σ N I)c L(IH:∀i(h:i<L.length),afj g bs cs σ N I L[i]):afj g bs cs σ N I (.aM c L):=by
 intro acc B M w v Q HN HNN HZ hv HQ
 cases hv with
 |aM c L sa sc vs hc aE hr=>
 have hL:L.length<=1000000000000:=by have:=GQ L;simp only[size]at HZ;omega
 obtain⟨i0,m6,ku,gS,gC⟩:=info_parts iP;have Hi:=CH (by_:=16) fI m6 ku rfl gS gC aA L.length hL;have HB:=H.lt acc B M w HN;have HK:=ai H.pL;go_enter func282,ntmps282
 go_wp2
 go_loopg[27] L.length (λgk v wr=>afk σ I acc B M L #[.string<|pn c,.slice sa L.length sc] w gk v wr)
 case atStart=>
  have b1:Bq w ((w.alloc<|.cells #[.string<|pn c,.slice sa L.length sc] 260).alloc<|.cells (qg L.length .nilIface) 98):=(bw _).alloc ah _;refine⟨0,qg L.length .nilIface,B,M,ai ah,qe _,rfl,?_,ai<|λb hb=>j7 hb,ai<|λb hb=>j7 hb,Fr.of b1,?_,?_,ai ah,ai<|λi _ hi=>absurd hi ae⟩
  .simpa[gu]using HK _ _ _ _ _ HN b1.size (λb hb=>b1.block b<|HB b hb)
  .exact(xm w _ _).below (bw _)
  .have:=xm (w.alloc<|.cells #[.string<|pn c,.slice sa L.length sc] 260) (qg L.length .nilIface) 98;simpa using this
 case round=>
  obtain⟨j,C,B1,M1,bE,hj,rfl,HN1,hB1,hM1,F1,T1,P1,hC,hT⟩:=hrel;have zw:=F1.size;have tz:=T1.z;have pz:=P1.z;by_cases aI:j<L.length
  .have hd:(j:Int)<(L.length:Int):=ae;obtain⟨g1,rfl,hg,mn,bX⟩:∃g,sa=some ⟨g,0,none⟩/\Q g/\g<w.heap.size/\∀i,i<L.length->w.cell? ⟨g,i,none⟩=some (vs i):=by
    exact Uk
   have cg:wr.cell? ⟨g1,j,none⟩=some (vs j):=by
    rw[qp (a:=⟨g1,j,none⟩) (w:=w)<|F1.block g1 mn<|HQ g1 hg mn];exact bX j aI
   have PJ:=(hr j aI).low.fr F1<|λb p _=>HQ b p.1 p.2;obtain⟨tv,xv,hv⟩:=PJ.iface;obtain⟨rr,hrr⟩:=acx L j aI;have hNj:Ly N (acc++gu (L.take j)) (occs L[j]):=by
    have:=HNN;simp only[occs]at this;rw[hrr]at this;exact this.right.left
   have hQ1:∀b,(Q b/\b<w.heap.size)->b<wr.heap.size->¬M1 b:=λb p _ q=>by
    obtain r|r:=uh hM1 b q
    .exact HQ b p.1 p.2 r
    .omega
   have HC:=IH j aI _ B1 M1 wr (vs j) _ HN1 hNj (by have:=mj L j aI;have:=HZ;simp only[size]at this;omega) PJ hQ1;rw[hv]at cg HC;obtain⟨tc,tf,_⟩:=T1;go_wp2_with fail;refine HC.mono ?_;rintro e w1⟨u,B2,M2,rfl,HU,UW,h_,wZ,HF⟩;obtain⟨tu,xu,rfl⟩:=HU.iface;have hpb:¬M1 (w.heap.size+1):=λq=>by
    exact GY
   have htb:¬M1 w.heap.size:=λq=>by
    exact GY
   have P2:=P1.fr HF hpb;have T2:=(show Bx wr w.heap.size #[.string<|pn c,.slice (some ⟨g1,0,none⟩) L.length sc]from⟨tc,tf,tz⟩).fr HF htb;have Bp:j<C.size:=qBh;have cj:=(P2.c j).trans<|ql Bp;have fj:=P2.f j;have P3:=P2.aP j (.iface tu xu) (C.setIfInBounds j<|.iface tu xu) rfl Bp;have T3:=T2.bJ (show w.heap.size≠w.heap.size+1 by omega) j (.iface tu xu);have xX:=F1.iH HF (λx q=>by obtain r|r:=uh hM1 x q;exact j7 r;exact j6 ae);have z2:=HF.size
   go_wp2
   go_roundg(L.length-(j+1))
   case measure=>rw[uh bE];omega
   case rel=>
    have cJ:∀b,b≠w.heap.size+1->(w1.setCell ⟨w.heap.size+1,j,none⟩<|.iface tu xu).heap[b]? =w1.heap[b]? :=λb hb=>qt _ _ _ _ (by show b≠w.heap.size+1;exact hb);have Yu:(w1.setCell ⟨w.heap.size+1,j,none⟩<|.iface tu xu).heap.size=w1.heap.size:=yG;have yc:∀b,B2 b->B b\/w.heap.size+2<=b:=λb hb=>by
     obtain q|q:=h_ b hb
     .exact hB1 b q
     .exact j6 ae
    have hm3:∀b,M2 b->M b\/w.heap.size+2<=b:=λb hb=>by
     obtain q|q:=wZ b hb
     .exact hM1 b q
     .exact j6 ae
    have Qq:∀b,(B b\/w.heap.size+2<=b)->b≠w.heap.size+1:=λb hb e=>by
     obtain q|q:=hb
     .have:=HB b<|j7 q;omega
     .omega
    have hn4:∀b,(M b\/w.heap.size+2<=b)->b≠w.heap.size+1:=λb hb e=>by
     obtain q|q:=hb
     .have:=HB b<|j6 q;omega
     .omega
    refine⟨j+1,C.setIfInBounds j<|.iface tu xu,B2,M2,ai rfl,ae,d_,?_,ai yc,ai hm3,?_,T3,P3,ai (by simp;exact hC),ai<|λi hi hij=>?_⟩
    .rw[AZ L j aI,<-jl];exact HK _ _ _ _ _ UW ae (λb hb=>cJ b (by obtain q|q:=hb;exact Qq b<|yc b q;exact hn4 b<|hm3 b q))
    .exact xX.set (j6 ae) j _
    .by_cases e:i=j
     .subst e;refine⟨.iface tu xu,by simp[Bp],?_⟩
      have hL1:∀b,acw B1 M2 wr.heap.size b->acw B M2 (w.heap.size+2) b:=λb p=>⟨p.1,by
       obtain q|q:=p.2
       .exact hB1 b q
       .exact j6 ae⟩
      exact HU.move ae (λb p z=>cJ b<|Qq b (hL1 b p).2)<|λb p z=>⟨hL1 b p,ae⟩
     .obtain⟨u',x_,Ir⟩:=uh hT i hi ae;refine⟨u',by rw[qh ae];exact x_,?_⟩;have h3:=Ir.fr HF<|λb p _=>p.1.1;refine h3.move ae (λb p z=>cJ b<|Qq b p.1.2)<|λb p z=>⟨⟨λq=>?_,p.1.2⟩,ae⟩;obtain r|r:=wZ b q
      .exact p.1.1 r
      .have:=p.2;omega
  .have hd:decide ((j:Int)<(L.length:Int))=false:=bi;have ej:j=L.length:=ae;subst ej;obtain⟨tc,tf,_⟩:=T1
   go_wp2
   go_ret;refine⟨_,B1,M1,rfl,?_,?_,λb hb=>?_,λb hb=>?_,F1⟩
   .have hml:=dW σ L;simp only[sub];rw[<-hml];refine .aM c _ _ _ (λi=>C.getD i .nilIface) hc (j6 ⟨w.heap.size+1,rfl,⟨λq=>?_,j6 ae⟩,P1.z,λi hi=>?_⟩)<|λi hi=>?_
    .exact GY
    .rw[hml]at hi;obtain⟨u,hu,_⟩:=uh hT i hi hi;rw[P1.c i,hu];simp[qj,hu]
    .have tH:i<L.length:=by rw[hml]at hi;exact hi
     obtain⟨u,hu,hty⟩:=uh hT i tH tH;have:C.getD i .nilIface=u:=qBm;rw[this,TX σ L i tH];exact hty.wide λb p=>⟨p.1.1,by obtain q|q:=p.1.2;exact j7 q;exact j6 ae⟩
   .simp only[occs];rw[<-jf (l:=L)];exact HN1
   .obtain q|q:=uh hB1 b hb
    .exact j7 q
    .exact j6 ae
   .obtain q|q:=uh hM1 b hb
    .exact j7 q
    .exact j6 ae
def GU(H:Img g bs cs σ N I):∀t,afj g bs cs σ N I t
 |.var n=>afl H n|.aM c L=>afm H c L λi h=>GU H L[i]
 termination_by t=>size t
 decreasing_by have:=mj L i h;simp only[size];omega
end
section
variable {w:World}
def RK:Cq 87 #[] w λe w'=>e=.returned (.iface 260<|.agg #[.string lA,.slice none 0 0])/\w'=w:=by
 go_enter func87,ntmps87
 go_wp2
 go_ret;exact⟨rfl,rfl⟩
def abP:Cq 88 #[] w λe w'=>e=.returned (.iface 260<|.agg #[.string kC,.slice none 0 0])/\w'=w:=by
 go_enter func88,ntmps88
 go_wp2
 go_ret;exact⟨rfl,rfl⟩
def abQ:Cq 286 #[] w λe w'=>e=.returned (.iface 260<|.agg #[.string pS,.slice none 0 0])/\w'=w:=by
 go_enter func286,ntmps286
 go_wp2
 go_ret;exact⟨rfl,rfl⟩
def EY:m0 lA:=⟨73,[110,116],toList_mk _,aA⟩
def To:m0 kC:=⟨66,[111,111,108],toList_mk _,aA⟩
def Tp:m0 pS:=⟨85,[110,105,116],toList_mk _,aA⟩
def abO w P(h:m0 c):dA w P (.aM c []) (.iface 260<|.agg #[.string c,.slice none 0 0]):=by
 have:=dA.aM (w:=w) (P:=P) c [] none 0 (λ_=>Zv) (j7<|j6<|j6 h) (j7 rfl) (λi hi=>by simp at hi);rw[fG h]at this;exact this
def rh c a b(w:World)(e:Ending)w':=
 e=.returned (.iface 260<|.agg #[.string<|pn c,.slice (some ⟨w.heap.size,0,none⟩) 2 2])/\w'=w.alloc (.cells #[a,b] 98)
def K_ ta tb xa xb:Cq 310 #[.iface ta xa,.iface tb xb] w (rh pH (.iface ta xa) (.iface tb xb) w):=by
 go_enter func310,ntmps310
 go_wp2
 go_ret;rw[rh];rw[kE];exact⟨rfl,rfl⟩
def ae0 ta tb xa xb:Cq 311 #[.iface ta xa,.iface tb xb] w (rh o6 (.iface ta xa) (.iface tb xb) w):=by
 go_enter func311,ntmps311
 go_wp2
 go_ret;rw[rh];rw[kF];exact⟨rfl,rfl⟩
def rh.ty(hc:CN c){a b}{va vb}(ha:dA w Q a va)(hb:dA w Q b vb)(hq:Q w.heap.size):
 dA (w.alloc<|.cells #[va,vb] 98) Q (.aM c [a,b]) (.iface 260<|.agg #[.string<|pn c,.slice (some ⟨w.heap.size,0,none⟩) 2 2]):=by
 have⟨bl,bx⟩:=Hu w #[va,vb] 98;refine dA.aM c [a,b] (some ⟨w.heap.size,0,none⟩) 2 (λi=>if i=0 then va else vb) (j7 hc) (j6 ⟨w.heap.size,rfl,hq,bx.z,λi hi=>?_⟩) (λi hi=>?_)
 .have:=bx.c i;obtain _|_|i:=i
  .exact this
  .exact this
  .simp at hi;omega
 .obtain _|_|i:=i
  .exact ha.af bl
  .exact hb.af bl
  .simp at hi;omega
end
def acy(h:CN c):pn c≠uk:=by
 have e:uk.toList=[116,111,111,32,108,97,114,103,101]:=toList_mk _;obtain rfl|rfl|h:=h
 .rw[kE];intro q;have:=congrArg xq q;rw[e,toList_mk]at this;simp at this
 .rw[kF];intro q;have:=congrArg xq q;rw[e,toList_mk]at this;simp at this
 .rw[fG h];intro q;subst q;exact cz h 116 _ aA e
def alE(L:List Ty)TC w gk(v s:Value)wr:=
 ∃(j:Nat),Hid (gk=L.length-j)/\j<=L.length/\v=Nv j/\s=.int .i64 ((1+qM (L.take j):Nat):Int)/\Bq w wr/\Bx wr w.heap.size TC
def A9:∀(L:List Ty)(i:Nat)(h:i<L.length),qM (L.take<|i+1)=qM (L.take i)+sz L[i]
 |[],i,h=>xA|t::l,0,_=>by simp[qM]|t::l,i+1,h=>by
  have:=A9 l i xB;simp only[ja,qM,jh,this,Nat.add_assoc]
def wQ:∀(L:List Ty)(i:Nat),qM (L.take i)<=qM L
 |[],i=>ah|t::l,0=>by simp[qM]|t::l,i+1=>by have:=wQ l i;simp only[ja,qM];omega
section
variable {w:World}
def SzC t:=∀(w:World)(v:Value)(Q:Nat->Prop),dA w Q t v->size t<=1000000000000->Cq 271 #[v] w λe w'=>e=.returned (Nv<|sz t)/\Bq w w'
def aiU n:SzC (.var n):=by
 intro w v Q hv hz
 cases hv
 go_enter func271,ntmps271
 go_wp2
 go_ret;exact⟨by simp[sz],bw _⟩
def aiV c L(IH:∀i(h:i<L.length),SzC L[i]):SzC (.aM c L):=by
 intro w v Q hv HZ
 cases hv with
 |aM c L sa sc vs hc aE hr=>
 by_cases ec:c=uk
 .subst ec;rw[acv];rw[uk];go_enter func271,ntmps271
  go_wp2
  go_ret;exact⟨by simp[sz,uk],bw _⟩
 .have cJ:pn c≠uk:=by
   obtain h|h:=hc
   .exact acy h
   .exact absurd h ec
  have XP:((pn c).toList==[116,111,111,32,108,97,114,103,101])=false:=by
   rw[<-Bool.not_eq_true,beq_iff_eq];intro q;exact cJ<|toList_inj<|q.trans (toList_mk [116,111,111,32,108,97,114,103,101]).symm
  go_enter func271,ntmps271
  go_wp2
  go_loopg[5,21] L.length (λgk s v wr=>alE L #[Sv<|pn c,Lv sa L.length sc] w gk v s wr)
  case atStart=>exact⟨0,ai ah,qe _,rfl,by simp[qM],bw _,xm w _ _⟩
  case round=>
   obtain⟨j,bE,hj,rfl,rfl,Ce,WU⟩:=hrel;have hZ:=HZ;by_cases aI:j<L.length
   .have hd:(j:Int)<(L.length:Int):=ae;obtain⟨g1,rfl,hg,mn,bX⟩:∃g,sa=some ⟨g,0,none⟩/\Q g/\g<w.heap.size/\∀i,i<L.length->w.cell? ⟨g,i,none⟩=some (vs i):=by
     exact Uk
    have cg:wr.cell? ⟨g1,j,none⟩=some (vs j):=by
     rw[qp (a:=⟨g1,j,none⟩) (w:=w)<|Ce.block g1 mn];exact bX j aI
    have PJ:=(hr j aI).af Ce;have⟨tv,xv,hv⟩:=PJ.iface;have hzj:=mj L j aI;simp only[size]at hZ;have hlen:=GQ L;have HC:=IH j aI wr (vs j) Q PJ ae;rw[hv]at cg HC;have hle:=wQ L<|j+1;rw[A9 L j aI]at hle;have alA:=N8 L;have hs0:((1+qM (L.take j):Nat):Int)=1+(qM (L.take j):Int):=ae;generalize hA:qM (L.take j)=A at*;generalize hB:sz L[j]=B at*;go_wp2_with fail;refine HC.mono ?_;rintro e w1⟨rfl,VE⟩
    go_wp2
    go_roundg(L.length-(j+1))
    case measure=>rw[uh bE];omega
    case rel=>
     have z1:=Ce.size;refine⟨j+1,ai rfl,ae,d_,?_,Ce.trans<|VE.mono z1,WU.below VE⟩;rw[A9 L j aI,hA,hB];go_num
   .have hd:decide ((j:Int)<(L.length:Int))=false:=bi;have ej:j=L.length:=ae;subst ej
    go_wp2
    go_ret;refine⟨?_,Ce⟩;rw[jf];simp only[sz];rw[if_neg ec];rfl
def pk:∀t,SzC t
 |.var n=>aiU n|.aM c L=>aiV c L λi h=>pk L[i]
 termination_by t=>size t
 decreasing_by have:=mj L i h;simp only[size];omega
end
abbrev iI(w:World)e base v xs:=w.ownsRow base e 1 v xs.length xs
def iI.new(w:World)e C base(hb:base<=w.heap.size)(hl:C.length<=1000000000000)n(hn:n=C.length):iI (w.alloc<|.cells C.toArray e) e base (.slice (some ⟨w.heap.size,0,none⟩) n n) C:=by
 subst hn;exact⟨ah,.inr ⟨w.heap.size,C.length,C.toArray,rfl,hb,heap_alloc_new w _,br _,NR,ah,ah⟩⟩
def Lz{w:World}{b'}{size}{v:Value}(h:w.ownsRow b' e size v n xs)(hb:base<=b'):w.ownsRow base e size v n xs:=by
 obtain⟨h1,h2⟩:=h;obtain h2|⟨g,cap,jL,r1,r2,r3⟩:=h2
 .exact⟨h1,.inl h2⟩
 .exact⟨h1,.inr ⟨g,cap,jL,r1,j8 hb r2,r3⟩⟩
def xS{P}w base t ty e i z size bytes(ht:P.underlying t=some (.slice e))(hi:P.info? e=some i)(hz:i.zero=some z)(acz:i.size=size)(hby:i.bytes=bytes)(hzs:z.cells.size=size)(kX:0<size)v n xs(f_:w.ownsRow base e size v n xs)a m c news(hl:news.length=m*size)(Ub:∀j u,news[j]? =some u->w.cell? (a.add j)=some u)(h1:∀u∈news,u.oneCell'=true)(h63:n+m<=maxLen)(PY:(n+m)*bytes<=140737488355328)(p7:base<=w.heap.size):
 ∃v' w',(Builtin.append_ #[t,t] ty #[v,.slice (some a) m c]).run P w=.ok v' w'/\w'.ownsRow base e size v' (n+m) (xs++news)/\w.grownBy w' v.ownBlock/\∀k,v'.ownBlock=some k->v.ownBlock=some k\/w.heap.size<=k:=by
 have agx:=f_;obtain⟨rfl,rfl⟩|⟨g,cap,jL,rfl,hbg,hg,hnc,U0,MJ,alF⟩:=f_.2
 .have hx:=jk (by simpa using f_.1);subst hx;have⟨v',w',q1,q2,q3,_⟩:=run_append_own w w.heap.size t ty e i z size bytes ht hi hz acz hby hzs kX (Lv none 0 0) 0 [] (qr w _ e size) a m c news hl Ub h1 h63 PY<|br _;exact⟨v',w',q1,Lz q2 p7,q3,λk hk=>j6 (World.ownsRow.lt q2 k hk).1⟩
 .have⟨v',w',q1,q2,q3,_⟩:=run_append_own w base t ty e i z size bytes ht hi hz acz hby hzs kX _ n xs agx a m c news hl Ub h1 h63 PY p7;refine⟨v',w',q1,q2,q3,?_⟩;subst acz;by_cases agy:n+m<=cap
  .have anq:n*i.size+news.length<=jL.size:=by rw[hl,MJ,<-Nat.add_mul];exact Nat.mul_le_mul_right _ agy
   have hr:=run_append_room (P:=P) w t ty e i ht hi g n cap jL hg a m c news hl Ub h1 agy anq;rw[hr]at q1;injection q1 with q1 _;subst q1;exact λk hk=>j7 hk
  .have holds:=agx.cells (g:=g) rfl;have hr:=run_append_grow (P:=P) w t ty e i z ht hi hz ⟨g,0,none⟩ n cap xs f_.1 holds a m c news hl Ub ae (by rw[maxLen]at h63;omega) (growslice_fits ae (by rw[hby];exact PY));rw[hr]at q1;injection q1 with q1 _;subst q1;intro k hk;simp[Value.ownBlock]at hk;exact j6 ae
def agz{T}(hT:Tryz.prog.underlying T=some (.slice e))(hI:(Tryz.prog.info? e).map (λi=>(i.zero,i.size,i.bytes))=some (some z,1,by_))(hzc:z.cells.size=1)(hby:by_<=16){w:World}{a}{Q}(JO:o.guard=none)s x(ho:o.op=.call {callee:=.builtin .append,args:=#[s,x],argTypes:=#[T,T]}){b0}{v:Value}{news}(hs:a.eval s=v)(f_:iI w e base v xs)(hx:a.eval x=u)(hn:iI w e b0 u news)(h1:∀u∈news,u.oneCell'=true)(hz:xs.length+news.length<=1000000000000)(p7:base<=w.heap.size)(h:∀v' w',iI w' e base v' (xs++news)->w.grownBy w' v.ownBlock->(∀k,v'.ownBlock=some k->v.ownBlock=some k\/w.heap.size<=k)->wpList qn ops Q rest (a.put o.dst v') w'):wpList qn ops Q (o::rest) a w:=by
 have⟨i0,hi,ku,gS,gC⟩:=info_parts hI;have H8:=hn;obtain⟨hl,hc⟩:=hn;obtain⟨rfl,h0⟩|⟨g,cap,jL,rfl,hg,hh,r⟩:=hc
 .have e1:=jk h0;subst e1;refine wpList_append_own_none JO s x T ho base e i0 1 hT hi v xs.length xs hs f_ hx ?_;exact h v w (by simpa using f_) ⟨rfl,rfl,rfl,br _,λ_ _ _=>rfl⟩ (λk hk=>j7 hk)
 .refine wpList_plain JO λK hK=>?_;have⟨v',w',hr,h2,h3,h4⟩:=xS (P:=qn) w base T o.type e i0 _ 1 by_ hT hi ku gS gC hzc aA v xs.length xs f_ ⟨g,0,none⟩ news.length cap news ae (λj z e=>H8.cells rfl j z e) h1 NR (by have:(xs.length+news.length)*by_<=1000000000000*16:=qf hz hby;omega) p7;rw[Oper.wp,execOp];simp only[ho,resolve,invoke,builtin,Sem.run_bind,Sem.run_pure,Result.andThen_ok,List.map_toArray,jd,j5,hs,hx,hr];exact hK _ _ (h v' w' (by rw[iI];rw[dr];exact h2) h3 h4)
def me{w:World}{v:Value}(h:iI w e base v xs)(hn:0<xs.length):∃g cp m,v=.slice (some ⟨g,0,none⟩) m cp/\base<=g/\g<w.heap.size/\Hid (m=xs.length):=by
 have h':=h;obtain⟨h1,h2⟩:=h;obtain⟨rfl,q⟩|⟨g,cp,jL,rfl,hg,hh,r⟩:=h2
 .omega
 .exact⟨g,cp,xs.length,rfl,hg,(World.ownsRow.lt h' g rfl).2,ai rfl⟩
def afn:(Tryz.prog.info? 248).map (λi=>(i.zero,i.size,i.bytes))=some (some<|Iv 0,1,8):=qkr
def Xe:Tryz.prog.underlying 415=some (.slice 248):=qkr
def py{w:World}{c}(h:iI w e base (.slice (some ⟨g,0,none⟩) n c) xs)j(hj:j<xs.length):w.cell? ⟨g,j,none⟩=some xs[j]:=by
 have e1:=World.ownsRow.cells h (g:=g) rfl j xs[j] (jc hj);have e2:(⟨g,0,none⟩:Addr).add j=⟨g,j,none⟩:=by
  rw[Addr.add];split
  .grind
  .simp
 rwa[e2]at e1
def kq{w:World}{v:Value}(h:iI w e base v xs):∀k,v.ownBlock=some k->base<=k/\k<w.heap.size:=λk hk=>World.ownsRow.lt h k hk
def kU{w:World}{v:Value}(h:iI w e base v xs)(hb:∀k,v.ownBlock=some k->w'.heap[k]? =w.heap[k]?):iI w' e base v xs:=lK h hb
def wM(l:List Nat):List Value:=l.map λ(n:Nat)=>Nv n
def VI mb mm lb base(acc:List Nat)B M w:=
 ∃(L:List (Int×Value))(v:Value),(B=λb=>b=mb)/\(M=λb=>b=mm\/b=lb\/v.ownBlock=some b)/\Bx w mb #[Mv mm]/\MS (λn:Int=>Iv n) w mm L/\(∀n:Nat,bd (n:Int) L=if n∈acc then some (Nv<|acc.count n)else none)/\Bx w lb #[v]/\iI w 248 base v (wM<|acc.foldl xh [])/\base<=w.heap.size
def PZ acc(n m:Nat):(acc++[n]).count m=acc.count m+if n=m then 1 else 0:=Mn
def LA w:(zeroValue 3).run qn w=.ok (Iv 0) w:=qkr
section
variable {w:World} {mm lb:Nat}
def LB{w}{row}{b}{C}(h:Bx w b C)(hg:w.grownBy w' row)(hn:row≠some b):Bx w' b C:=h.same hg.size<|hg.block b h.z<|λe=>hn e.symm
def alG mb mm lb base acc(B M:Nat->Prop)n w(e:Ending)w':=
 e=.returned (.iface 248<|Nv n)/\∃B' M',VI mb mm lb base (acc++[n]) B' M' w'/\(∀b,B' b->B b\/w.heap.size<=b)/\(∀b,M' b->M b\/w.heap.size<=b)/\Fr M w w'
def eR:∀(acc l:List Nat),(acc.foldl xh l).length<=l.length+acc.length
 |[],l=>ah|a::acc,l=>by
  have:=eR acc<|xh l a;have h2:(xh l a).length<=l.length+1:=by rw[xh];split<;>simp
  simp only[j3,de];omega
def gA(n:Nat):∀(acc l:List Nat),n∈acc.foldl xh l↔n∈l\/n∈acc
 |[],l=>ah|a::acc,l=>by
  simp only[j3,gA n acc,Jn,jm];constructor
  .rintro((h|h)|h)
   .exact j7 h
   .exact j6 (j7 h)
   .exact j6 (j6 h)
  .rintro(h|h|h)
   .exact j7 (j7 h)
   .exact j7 (j6 h)
   .exact j6 h
def Xf acc B M(n:Nat)(aog:acc.length<1000000000000)(h:VI mb mm lb base acc B M w)(hd:mb≠mm/\mb≠lb/\mm≠lb)(hb:mb<base/\mm<base/\lb<base):
 Calls qn 288 #[.int .i64 (n:Int),.pointer<|some ⟨mb,0,none⟩,.pointer<|some ⟨lb,0,none⟩] w (alG mb mm lb base acc B M n w):=by
 obtain⟨L,v,rfl,rfl,vE,g_,Xg,HL,HO,b4⟩:=h;obtain⟨d1,d2,d3⟩:=hd;obtain⟨b1,b2,b3⟩:=hb;have anr:acc.count n<=acc.length:=List.count_le_length;have hl:=g_.look (KL.num Tryz.underlying248) Tryz.underlying250 (LA w) (n:Int) trivial (λ_ _=>trivial) false;rw[Xg n]at hl;have hl':(qx 250 (.map<|some mm) (.int .i64 (n:Int)) false).run qn w=.ok (.int .i64 (acc.count n:Int)) w:=by
  by_cases hm:n∈acc
  .rw[if_pos hm]at hl;simpa using hl
  .rw[if_neg hm]at hl;rw[List.count_eq_zero_of_not_mem hm];simpa using hl
 have HG:∀m:Nat,bd (m:Int) (bn (n:Int) (.int .i64<|(acc.count n:Int)+1) L)=if m∈acc++[n]then some (.int .i64 ((acc++[n]).count m:Int))else none:=by
  intro m;rw[aN,PZ];by_cases e:n=m
  .subst e;simp
  .have e':¬(n:Int)=(m:Int):=ae;rw[if_neg e',Xg m];simp[e,Ne.symm e]
 have Hm:∀w',MS (λn:Int=>xf .i64 n) w' mm (bn (n:Int) (.int .i64<|(acc.count n:Int)+1) L)->(qx 250 (.map<|some mm) (.int .i64 (n:Int)) false).run qn w'=.ok (.int .i64<|(acc.count n:Int)+1) w':=by
  intro w' hM;have hl:=hM.look (KL.num Tryz.underlying248) Tryz.underlying250 (LA w') (n:Int) trivial (λ_ _=>trivial) false;rw[aN,if_pos rfl]at hl;simpa using hl
 have HV:=kq HO;have HM:=ai g_;have HB:=ai vE;have HH:=ai Hm;obtain⟨c,f,z⟩:=vE;by_cases hm:n∈acc
 .have aln:=List.count_pos_iff.2 hm;have aoh:((acc.count n:Int)+1==1)=false:=bi;go_enter func288,ntmps288;go_wp2_with(refine aY _ rfl _ _ _ _ (Or.inr rfl) (KL.num Tryz.underlying248) Tryz.underlying250 _ _ rfl HM (n:Int) (.int .i64<|(acc.count n:Int)+1) rfl rfl trivial (λ_ _=>trivial) ?_;intro w' H' O';have Hm:=uh HH w' H';obtain⟨c1,f1,z1⟩:=HB.one O' d1;have wZ:=ai H';have O2:=ai O';clear H' O');go_ret;have O:=uh O2;refine⟨rfl,_,_,⟨_,v,rfl,rfl,⟨c1,f1,z1⟩,wZ,HG,HL.one O d3.symm,?_,by rw[O.size];exact b4⟩,λb q=>Or.inl q,λb q=>Or.inl q,⟨O.os,O.tape,O.output,by rw[O.size];exact br _,λk _ hn=>O.block k<|λe=>hn<|Or.inl e⟩⟩;have es:(acc++[n]).foldl Un.seen []=acc.foldl Un.seen []:=by
   rw[jt];exact Jq<|(gA n acc []).2<|j6 hm
  rw[es];exact kU HO λk hk=>O.block k (λe=>by have:=HV k hk;omega)
 .have h0:=List.count_eq_zero_of_not_mem hm;rw[h0]at hl' HG HH anr;have ES:(acc++[n]).foldl xh []=acc.foldl xh []++[n]:=by
   rw[jt];show xh _ n=_;rw[xh,if_neg<|λq=>hm<|by simpa using(gA n acc []).1 q]
  have IZ:(wM<|acc.foldl xh []).length+[xf .i64 (n:Int)].length<=1000000000000:=by
   have hlen:=eR acc [];simp[wM]at hlen⊢;omega
  have aiW:∀u∈[Value.int .i64 (n:Int)],u.oneCell'=true:=qAn;have HA:∀w',iI w' 248 base v (wM<|acc.foldl Un.seen [])->Hid (iI (w'.alloc<|.cells #[.int .i64 (n:Int)] 248) 248 base v<|wM<|acc.foldl Un.seen []):=λw' ho=>ai<|kU ho λk hk=>(MapKept.heap_alloc _ _).2 k (kq ho k hk).2;go_enter func288,ntmps288
  go_wp2_with(first
   |(refine aY _ rfl _ _ _ _ (j6 rfl) (KL.num Tryz.underlying248) Tryz.underlying250 _ _ rfl HM (n:Int) (.int .i64 1) rfl rfl trivial (λ_ _=>trivial) ?_;intro w' H' O';have Hm:=uh HH w' H';obtain⟨c1,f1,z1⟩:=HB.one O' d1;obtain⟨cl,fl,zl⟩:=HL.one O' d3.symm;have OW:=ai (kU HO<|λk hk=>O'.block k (λe=>by have:=HV k hk;omega));have wZ:=ai H';have O2:=ai O';have IA:w.heap.size<=w'.heap.size:=Nat.le_of_eq O'.size.symm;clear H' O')
   |(at_builtin;go_loud(refine agz Xe afn rfl aA rfl (.tmp 13) (.tmp 15) rfl rfl (uh<|HA w' OW) rfl (iI.new w' 248 [.int .i64 (n:Int)] 0 (qe _) ah 1 rfl) aiW IZ (j8 b4<|j8 IA ah) ?_);intro v2 w2 o2 g2 k2;obtain⟨g3,cp3,m3,rfl,_,_,M3⟩:=me o2 ah;obtain⟨c2,f2,z2⟩:=LB (Bx.below (show Bx w' lb #[v]from⟨cl,fl,zl⟩)<|bw<|.cells #[.int .i64 (n:Int)] 248) g2 (λe=>by have:=HV lb e;omega);have OV:=ai o2;have GV:=ai g2;have KV:=ai k2;clear o2 g2 k2))
  go_ret;have O:=uh O2;have g:=uh GV;have o:=uh OV;have bl:Below w'.heap.size w' (w'.alloc<|.cells #[.int .i64 (n:Int)] 248):=bw _;have hzz:=g.size;have gS:=bl.size;have hv:=HV;have hold:∀k,k<w.heap.size->k≠mm->k≠lb->v.ownBlock≠some k->(w2.setCell ⟨lb,0,none⟩<|.slice (some ⟨g3,0,none⟩) m3 cp3).heap[k]? =w.heap[k]? :=λk h1 h2 h3 h4=>by
   rw[qt _ _ _ _ (by show k≠lb;exact h3),g.block k ae<|λe=>h4 e.symm,bl.block k ae,O.block k h2]
  have Yu:(w2.setCell ⟨lb,0,none⟩<|.slice (some ⟨g3,0,none⟩) m3 cp3).heap.size=w2.heap.size:=yG;have ans:∀k,k<w.heap.size->k≠lb->v.ownBlock≠some k->(w2.setCell ⟨lb,0,none⟩<|.slice (some ⟨g3,0,none⟩) m3 cp3).heap[k]? =w'.heap[k]? :=λk h1 h3 h4=>by
   rw[qt _ _ _ _ (by show k≠lb;exact h3),g.block k ae<|λe=>h4 e.symm,bl.block k ae]
  have nb:∀k,k<base->v.ownBlock≠some k:=λk h e=>by have:=hv k e;omega
  have ho2:=kq o;refine⟨rfl,_,_,⟨_,.slice (some ⟨g3,0,none⟩) m3 cp3,rfl,rfl,?_,?_,HG,?_,?_,ae⟩,λb q=>j7 q,λb q=>?_,⟨?_,?_,?_,ae,λk hk hn=>hold k hk (λe=>hn<|j7 e) (λe=>hn<|j6<|j7 e)<|λe=>hn<|j6<|j6 e⟩⟩
  .exact HB.same ae (hold mb z d1 d2<|nb mb b1)
  .exact wZ.same (ans mm ae d3<|nb mm b2)
  .exact Bx.aP (C:=#[v]) ⟨c2,f2,z2⟩ 0 _ _ rfl ah
  .rw[ES];have e:wM (acc.foldl xh []++[n])=wM (acc.foldl xh [])++[.int .i64 (n:Int)]:=by simp[wM]
   rw[e];exact kU o λk hk=>qt _ _ _ _ (by show k≠lb;intro e;have:=(ho2 k hk).1;omega)
  .obtain q|q|q:=q
   .exact j7 (j7 q)
   .exact j7 (j6<|j7 q)
   .have:=(ho2 b q).1;by_cases hbw:b<w.heap.size
    .obtain r|r:=uh KV b q
     .exact j7 (j6<|j6 r)
     .exact absurd r bi
    .exact j6 ae
  .exact g.os.trans O.os
  .exact g.tape.trans O.tape
  .exact g.output.trans O.output
def afo acc B M w w'(h:VI mb mm lb base acc B M w)(hz:w.heap.size<=w'.heap.size)(hb:∀b,B b\/M b->w'.heap[b]? =w.heap[b]?):VI mb mm lb base acc B M w':=by
 obtain⟨L,v,rfl,rfl,vE,g_,Xg,hlb,f_,b4⟩:=h;exact⟨L,v,rfl,rfl,vE.same hz<|hb mb<|j7 rfl,g_.same<|hb mm<|j6<|j7 rfl,Xg,hlb.same hz<|hb lb<|j6<|j6<|j7 rfl,kU f_ λk hk=>hb k<|j6<|j6<|j6 hk,j8 b4 hz⟩
def alH acc B M w(h:VI mb mm lb base acc B M w):∀b,B b\/M b->b<w.heap.size:=by
 obtain⟨L,v,rfl,rfl,vE,g_,Xg,hlb,f_,b4⟩:=h;rintro b(rfl|rfl|rfl|q)
 .exact vE.z
 .exact g_.lt
 .exact hlb.z
 .exact(kq f_ b q).2
def acA(hd:mb≠mm/\mb≠lb/\mm≠lb)(hb:mb<base/\mm<base/\lb<base):Img 288 #[] #[Pv mb,Pv lb] Ty.var (λacc _=>acc.length<1000000000000) (VI mb mm lb base) where
 eg:=enters_of Tryz.func288 qkr rfl
 pL:=afo
 lt:=alH
 call acc B M w n h hN:=(Xf acc B M n hN h hd hb).mono λe w'⟨h1,B',M',h2,h3,h4,h5⟩=>⟨_,B',M',h1,.var n,h2,h3,h4,h5⟩
end
mutual
def eS:∀t:Ty,(occs t).length<=size t
 |.var n=>by simp[occs,size]|.aM c l=>by have:=D7 l;simp only[occs,size];omega
def D7:∀l:List Ty,(gu l).length<=ak l
 |[]=>by simp[gu,ak]|t::l=>by have:=eS t;have:=D7 l;simp only[gu,ak,dr];omega
end
def Xh t w(e:Ending)w':=∃v,e=.returned v/\iI w' 248 w.heap.size v (wM<|vars [] t)/\Bq w w'
def kM{w:World}{v:Value}(h:dA w Q t v)(hz:size t<=1000000000000):Cq 276 #[v] w (Xh t w):=by
 obtain⟨ta,xa,rfl⟩:=h.iface;have bl:Bq w (((w.alloc<|Cv #[Lv none 0 0] 415).alloc<|.map #[] 0).alloc<|Cv #[Mv<|w.heap.size+1] 250):=((bw _).alloc ah _).alloc bi _;have hI:VI (w.heap.size+2) (w.heap.size+1) w.heap.size (w.heap.size+3) [] (λb=>b=w.heap.size+2) (λb=>b=w.heap.size+1\/b=w.heap.size\/(Lv none 0 0).ownBlock=some b) (((w.alloc<|Cv #[Lv none 0 0] 415).alloc<|.map #[] 0).alloc<|Cv #[Mv<|w.heap.size+1] 250):=by
  refine⟨[],Lv none 0 0,rfl,rfl,?_,?_,λn=>by simp[bd],?_,qr _ _ _ _,ah⟩
  .have:=xm ((w.alloc<|Cv #[Lv none 0 0] 415).alloc<|.map #[] 0) #[Mv<|w.heap.size+1] 250;simpa using this
  .have:=(MS.new (λn:Int=>Iv n)<|w.alloc<|Cv #[Lv none 0 0] 415).below<|bw<|Cv #[Mv<|w.heap.size+1] 250;simpa using this
  .exact((xm w #[Lv none 0 0] 415).below<|bw _).below (bw _)
 have HC:=GU (acA (mb:=w.heap.size+2) (mm:=w.heap.size+1) (lb:=w.heap.size) (base:=w.heap.size+3) ae ae) t [] _ _ _ _ (λb=>Q b/\b<w.heap.size) hI (λi hi=>by have:=eS t;simp;omega) hz (h.low.af bl) (λb q _ r=>by obtain r|r|r:=r;omega;omega;cases r);have HB:=ai bl;have g_:= @run_makeMap Tryz.prog;go_enter func276,ntmps276;go_wp2_with fail;refine HC.mono ?_;rintro e w1⟨u,B',M',rfl,hU,⟨L,v,rfl,rfl,vE,g_,Xg,hlb,HO,b4⟩,hB,hM,F⟩;have z1:=F.size;have HF:=ai F;obtain⟨c2,f2,z2⟩:=hlb
 go_wp2
 go_ret;refine⟨v,rfl,?_,?_⟩
 .have e:List.foldl xh [] ([]++occs t)=vars [] t:=by rw[dH];rfl
  rw[<-e];exact Lz HO ae
 .have F:=uh HF;have b:=uh HB;exact⟨F.os.trans b.os,F.tape.trans b.tape,F.output.trans b.output,j8 b.size F.size,λi hi=>(F.block i (qd hi b.size) (λq=>by obtain q|q|q:=q;omega;omega;cases q)).trans (b.block i hi)⟩
def Xi:(Tryz.prog.info? 98).map (λi=>(i.zero,i.size,i.bytes))=some (some .nilIface,1,16):=qkr
def GW(l:List Nat):List Value:=l.map λ(n:Nat)=>xd 248<|Nv n
def aiX l w1 V gk v wr:=
 ∃(j:Nat)(u:Value),Hid (gk=l.length-j)/\j<=l.length/\v=Nv j/\Bq w1 wr/\w1.heap.size+1<=wr.heap.size/\Bx wr w1.heap.size #[.string ⟨#[116,111,111,32,108,97,114,103,101]⟩,u]/\iI wr 248 (w1.heap.size+1) V (wM l)/\iI wr 98 (w1.heap.size+1) u (GW<|l.take j)/\Hid (∀k,u.ownBlock=some k->V.ownBlock≠some k)
def gY{w:World}{v:Value}(h:iI w e base v xs)(hn:xs.length=n):∃va vc,v=.slice va n vc:=by
 subst hn;obtain⟨h1,h2⟩:=h;obtain⟨rfl,q⟩|⟨g,cp,jL,rfl,_⟩:=h2
 .exact⟨none,0,by rw[q]⟩
 .exact⟨_,_,rfl⟩
def acB(l:List Nat)j(h:j<l.length):GW (l.take<|j+1)=GW (l.take j)++[xd 248<|Nv<|l[j]]:=by
 rw[GW];rw[ji h,jy];rfl
section
variable {w:World}
def aiY{b}{wr}(h:iI wr 98 b u (GW l))(hl:l≠[])(hP:∀k,b<=k->P k):∃sa sc,u=.slice sa l.length sc/\dA wr P (.aM uk<|l.map Ty.var) (.iface 260<|.agg #[.string uk,u]):=by
 have hln:0<(GW l).length:=by simp[GW];exact Nat.pos_of_ne_zero<|λe=>hl<|jk e
 obtain⟨g,cp,m,rfl,hg,mn,hm⟩:=me h hln;have hm:=uh hm;simp only[GW,jz]at hm;subst hm;refine⟨_,_,rfl,?_⟩;have:=dA.aM (w:=wr) (P:=P) uk (l.map Ty.var) (some ⟨g,0,none⟩) cp (λi=>(GW l).getD i Zv) (j6 rfl) (j6 ⟨g,rfl,hP g hg,mn,λi hi=>?_⟩)<|λi hi=>?_
 .rw[acv,jz]at this;exact this
 .have tH:i<(GW l).length:=by simpa[GW]using hi
  rw[py h i tH,ju,jc tH];rfl
 .have tH:i<(GW l).length:=by simpa[GW]using hi
  rw[ju,jc tH];simp only[GW,List.getElem_map,Option.getD_some];exact .var _
def Uc t(Q:Nat->Prop)w(e:Ending)w':=∃u,e=.returned u/\dA w' (λb=>Q b\/w.heap.size<=b) (bN t) u/\Bq w w'
def Bh{p:Prop}(h:p:=by
 rw[dH];have:=eR (occs t) [];have:=eS t;simp at*
 omega):p:=h
def acC{v:Value}(h:dA w Q t v)(hz:size t<=1000000000000):Calls qn 281 #[v] w (Uc t Q w):=by
 obtain⟨ta,xa,rfl⟩:=h.iface;have HS:=pk t w _ Q h ae;have hsl:=af8 t;have HT:=ai h;clear h;by_cases hs:sz t<=48
 .have hd:(sz t:Int)<=48:=ae;go_enter func281,ntmps281;go_wp2_with fail;refine HS.mono ?_;rintro e w1⟨rfl,HB⟩;clear HS
  go_wp2
  go_ret;unfold Uc bN;rw[if_pos hs];exact⟨_,rfl,((uh HT).af HB).wide λb q=>j7 q,HB⟩
 .have hd:¬(sz t:Int)<=48:=ae;have HV:=λ(W:World)(hb:Below w.heap.size w W)=>kM ((uh HT).af hb) hz;go_enter func281,ntmps281;go_wp2_with fail;refine HS.mono ?_;rintro e w1⟨rfl,b1⟩;have HB:=ai b1;have z1:=b1.size;clear b1 HS;have HC:=HV (w1.alloc<|.cells #[.string ⟨#[116,111,111,32,108,97,114,103,101]⟩,.slice none 0 0] 260)<|HB.alloc ae _;clear HV;go_wp2_with fail;refine HC.mono ?_;rintro e w2⟨V,rfl,HO,b2⟩;have IZ:(vars [] t).length<=1000000000000:=by
   exact Bh
  generalize BS:vars [] t=l at*;clear HC;obtain⟨va,vc,rfl⟩:=gY HO (n:=l.length) (by simp[wM]);have h_:=ai b2;clear b2
  go_wp2
  go_loopg[14] l.length (λgk v wr=>aiX l w1 (.slice va l.length vc) gk v wr)
  case atStart=>
   have b2:=uh h_;have b1:Below w1.heap.size w1 (w1.alloc<|.cells #[.string ⟨#[116,111,111,32,108,97,114,103,101]⟩,.slice none 0 0] 260):=bw _;have gC:=b2.size;have hz3:(w1.alloc<|.cells #[.string ⟨#[116,111,111,32,108,97,114,103,101]⟩,.slice none 0 0] 260).heap.size=w1.heap.size+1:=ah;rw[hz3]at gC;exact⟨0,.slice none 0 0,ai ah,qe _,rfl,b1.trans<|b2.mono b1.size,gC,(xm w1 _ _).below b2,by simpa using HO,qr _ _ _ _,ai<|λk hk=>by cases hk⟩
  case round=>
   obtain⟨j,u,bE,hj,rfl,F1,zz,T1,O1,O2,hdj⟩:=hrel;by_cases aI:j<l.length
   .have hd:(j:Int)<(l.length:Int):=ae;have hjv:j<(wM l).length:=by simpa[wM]using aI
    obtain⟨gv,cpv,mv,hv,hgv,mn,_⟩:=me O1 ae;injection hv with WV hv2 hv3;subst WV;have cg:=py O1 j hjv;rw[show(wM l)[j]=xf .i64 (l[j]:Int) by simp[wM]]at cg;obtain⟨sa,sc,rfl⟩:=gY O2 (n:=j) (by simp[GW];omega);generalize hx:l[j]=x at*;have Ce:=ai F1;have O1':=ai O1;have O2':=ai O2;have WU:=ai T1;have aiW:∀u∈[xd 248<|.int .i64 (x:Int)],u.oneCell'=true:=qAn;have hlen:(GW<|l.take j).length+[xd 248<|.int .i64 (x:Int)].length<=1000000000000:=by simp[GW];omega
    have HA:Hid (iI (wr.alloc<|.cells #[.iface 248<|.int .i64 (x:Int)] 98) 98 (w1.heap.size+1) (.slice sa j sc)<|GW<|l.take j):=ai<|kU O2 λk hk=>(xj _ _).2 k (kq O2 k hk).2;obtain⟨tc,tf,tz⟩:=T1;clear F1 O1 O2 hv2 hv3;go_wp2_with(at_builtin;go_loud(refine agz fI Xi rfl aA rfl (.tmp 19) (.tmp 22) rfl rfl HA rfl (iI.new wr 98 [.iface 248<|.int .i64 (x:Int)] 0 (qe _) ah 1 rfl) aiW hlen (j8 zz ah) ?_);intro v2 w3 o2 g2 k2;obtain⟨g3,cp3,m3,rfl,_,_,M3⟩:=me o2 ah;obtain⟨c2,f2,z2⟩:=LB (Bx.below WU<|bw<|.cells #[.iface 248<|.int .i64 (x:Int)] 98) g2 (λe=>by have:=(kq O2' _ e).1;omega);have OV:=ai o2;have GV:=ai g2;have KV:=ai k2;clear o2 g2 k2);go_roundg(l.length-(j+1))
    case measure=>rw[uh bE];omega
    case rel=>
     have g:=uh GV;have o:=uh OV;have f1:=uh Ce;have o1:=uh O1';have ho2:=kq o;have bl:Below wr.heap.size wr (wr.alloc<|.cells #[.iface 248<|.int .i64 (x:Int)] 98):=bw _;have gS:=bl.size;have hzz:=g.size;have Yu:(w3.setCell ⟨w1.heap.size,1,none⟩<|.slice (some ⟨g3,0,none⟩) m3 cp3).heap.size=w3.heap.size:=yG;have f_:∀k,(xg sa j sc).ownBlock=some k->w1.heap.size+1<=k:=λk hk=>(kq (uh O2') k hk).1;have hold:∀k,k<wr.heap.size->k≠w1.heap.size->(xg sa j sc).ownBlock≠some k->(w3.setCell ⟨w1.heap.size,1,none⟩<|.slice (some ⟨g3,0,none⟩) m3 cp3).heap[k]? =wr.heap[k]? :=λk h1 h3 h4=>by
      rw[qt _ _ _ _ (by show k≠w1.heap.size;exact h3),g.block k ae<|λe=>h4 e.symm,bl.block k ae]
     refine⟨j+1,.slice (some ⟨g3,0,none⟩) m3 cp3,ai rfl,ae,d_,⟨?_,?_,?_,?_,λk hk=>?_⟩,ae,?_,?_,?_,ai<|λk hk XV=>?_⟩
     .exact g.os.trans f1.os
     .exact g.tape.trans f1.tape
     .exact g.output.trans f1.output
     .have:=f1.size;omega
     .have:=f1.size;exact(hold k ae ae (λe=>by have:=f_ k e;omega)).trans (f1.block k hk)
     .exact Bx.aP (C:=#[.string ⟨#[116,111,111,32,108,97,114,103,101]⟩,.slice sa j sc]) ⟨c2,f2,z2⟩ 1 _ _ rfl ah
     .exact kU o1 λk hk=>hold k (kq o1 k hk).2 (λe=>by have:=(kq o1 k hk).1;omega)<|λe=>uh hdj k e hk
     .rw[acB l j aI,hx];exact kU o λk hk=>qt _ _ _ _ (by show k≠w1.heap.size;intro e;have:=(ho2 k hk).1;omega)
     .obtain r|r:=uh KV k hk
      .exact uh hdj k r XV
      .have:=(kq o1 k XV).2;omega
   .have hd:decide ((j:Int)<(l.length:Int))=false:=bi;have ej:j=l.length:=ae;subst ej;obtain⟨tc,tf,tz⟩:=T1;have O2':=ai O2;have Ce:=ai F1;clear O1 O2 F1
    go_wp2
    go_ret;have f1:=uh Ce;have o2:=uh O2';rw[jf]at o2;refine⟨_,rfl,?_,HB.trans<|f1.mono z1⟩;have hc:bN t=.aM uk (l.map Ty.var):=by unfold bN;rw[if_neg hs,BS]
    rw[hc];by_cases hl:l=[]
    .subst hl;obtain⟨q1,q2⟩:=o2;obtain⟨sa,sc,rfl⟩:=gY (uh O2') (n:=0) (by simp[GW]);have:=dA.aM (w:=wr) (P:=λb=>Q b\/w.heap.size<=b) uk [] sa sc (λ_=>.nilIface) (j6 rfl) (j7 rfl) (λi hi=>by simp at hi);rw[acv]at this;exact this
    .obtain⟨_,_,_,h⟩:=aiY o2 hl (P:=λb=>Q b\/w.heap.size<=b)<|λk hk=>j6 ae;exact h
end
end
section
open Go.MapKept
section
variable {enc:κ->Value}
def MG(enc:κ->Value)(w:World)(b:Nat)(L:List (κ×Value)):=∃es clock,w.heap[b]? =some (.map es clock)/\es.toList.map (λe=>(e.key,e.val))=L.map (λp=>(enc p.1,p.2))/\(es.toList.map (·.born)).Nodup/\(∀e∈es.toList,e.born<clock)/\(L.map (·.1)).Nodup
variable {w:World} {b:Nat} {L:List (κ×Value)} {P:Program} {t:TypeId}
def MG.ms(h:MG enc w b L):MS enc w b L:=by grind[MG,MS]
def MG.same(h:MG enc w b L)(hb:w'.heap[b]? =w.heap[b]?):MG enc w' b L:=by grind[MG]
def MG.new(enc:κ->Value)(w:World):MG enc (w.alloc<|.map #[] 0) w.heap.size []:=⟨#[],0,(xj w _).1,rfl,ah,ah,ah⟩
def alI{es:List MapEntry}(h:es.map (λe=>(e.key,e.val))=L.map (λp=>(enc p.1,p.2))):es.map (·.key)=(L.map (·.1)).map enc:=by
 have:=congrArg (List.map Prod.fst) h;simpa[List.map_map,Function.comp_def]using this
def IG(enc:κ->Value)(w:World)(r gb:Nat)(L:List (κ×Value))(done:List κ)cnt:=∃(es:Array MapEntry)(clock since:Nat)(seen:Array Nat)(c0:Nat),w.heap[gb]? =some (.map es clock)/\es.toList.map (λe=>(e.key,e.val))=L.map (λp=>(enc p.1,p.2))/\(es.toList.map (·.born)).Nodup/\(∀e∈es.toList,e.born<since)/\since<=c0/\since<=clock/\w.heap[r]? =some (.mapIter (some gb) since seen c0)/\(L.map (·.1)).Nodup/\(leftOf es seen).size=cnt/\∀e∈es.toList,∀x,e.key=enc x->(seen.contains e.born=true↔x∈done)
def IG.same{cnt}{done}(h:IG enc w r gb L done cnt)(h1:w'.heap[gb]? =w.heap[gb]?)(h2:w'.heap[r]? =w.heap[r]?):IG enc w' r gb L done cnt:=by
 obtain⟨es,clock,since,seen,c0,a1,a2,a3,a4,a5,a6,a7,a8⟩:=h;exact⟨es,clock,since,seen,c0,h1.trans a1,a2,a3,a4,a5,a6,h2.trans a7,a8⟩
def IG.lt{cnt}{done}(h:IG enc w r gb L done cnt):gb<w.heap.size/\r<w.heap.size/\gb≠r:=by grind[cnt,IG]
def MG.range(h:MG enc w b L)(ht:P.underlying t=some (.map k e)):∃o cnt,(Instr.range t<|Mv b).run P w=.ok (Pv w.heap.size) (w.alloc o)/\IG enc (w.alloc o) w.heap.size b L [] cnt:=by
 obtain⟨es,clock,a1,a2,a3,a4,a5⟩:=h;have aZ:=(Array.getElem?_eq_some_iff.1 a1).1;refine⟨_,_,run_range_map w t _ _ b es clock ht a1,es,clock,clock,#[],clock,((xj w _).2 _ aZ).trans a1,a2,a3,a4,br _,br _,heap_alloc_new w _,a5,rfl,λe he x hx=>ah⟩
def MG.one{c}(h:MG enc w b L)(o:One c w w')(hn:b≠c):MG enc w' b L:=h.same<|o.block b hn
end
section
variable [DecidableEq κ] {enc:κ->Value}
variable {w:World} {b:Nat} {L:List (κ×Value)} {P:Program} {t:TypeId}
def MG.lt(h:MG enc w b L):b<w.heap.size:=h.ms.lt
def MG.af(h:MG enc w b L)(hb:Bq w w'):MG enc w' b L:=h.same<|hb.block b h.lt
def MG.fr(h:MG enc w b L)(hf:Fr S w w')(hn:¬S b):MG enc w' b L:=h.same<|hf.block b h.lt hn
def tD(l:List MapEntry)j f(hf:∀e,(f e).born=e.born):(l.modify j f).map (·.born)=l.map (·.born):=by
 induction l generalizing j with
 |nil=>cases j<;>simp|cons e r ih=>grind
def LF{x y:κ}{v:Value}:∀{L:List (κ×Value)},y∈(bn x v L).map (·.1)->y=x\/y∈L.map (·.1)
 |[],h=>by simpa[bn]using h|p::l,h=>by
  rw[bn]at h;split at h
  .rename_i e;simp only[jd,jm]at h⊢;obtain h|h:=h
   .exact j7 h
   .exact j6 (j6 h)
  .simp only[jd,jm]at h⊢;obtain h|h:=h
   .exact j6 (j7 h)
   .obtain q|q:=LF h
    .exact j7 q
    .exact j6 (j6 q)
def rj{x:κ}{v:Value}:∀{L:List (κ×Value)},(L.map (·.1)).Nodup->((bn x v L).map (·.1)).Nodup
 |[],_=>by simp[bn]|p::l,h=>by
  simp only[jd,jo]at h;rw[bn];split
  .rename_i e;simp only[jd,jo];rw[<-e];exact h
  .rename_i e;simp only[jd,jo];refine⟨λq=>?_,rj h.2⟩;obtain r|r:=LF q
   .exact e r
   .exact h.1 r
def MG.put(K:KL P k enc (λ_ _=>True))(h:MG enc w b L)(ht:P.underlying t=some (.map k e))x v:∃o,(qy t (Mv b) (enc x) v).run P w=.ok () (setBlock w b o)/\MG enc (setBlock w b o) b (bn x v L):=by
 obtain⟨es,clock,hb,rY,hn,hk,hd⟩:=h;have hf:=K.fin x L es.toList w trivial (λ_ _=>trivial) rY;rw[qy];simp only[Sem.run_bind,run_underlying ht,xn,MapKept.run_getObj_map hb,K.chk,hf]
 cases Ju:Df x L 0 with
 |none=>
  refine⟨.map (es.push {key:=enc x,val:=v,born:=clock})<|clock+1,by rw[Ju]at hf;simp[hf,xn];exact xk _ hb,_,_,(heap_setBlock_same hb _),?_,?_,?_,rj hd⟩
  .rw[n8 x v L<|zX x L 0 Ju];simp[rY]
  .simp only[Array.toList_push,jy,jd,j5];rw[jv];refine⟨hn,ah,?_⟩;intro a ha c hc;obtain⟨e,he,rfl⟩:=List.mem_map.1 ha;simp only[List.mem_singleton]at hc;have:=hk e he;omega
  .grind
 |some p=>
  obtain⟨j,u⟩:=p;have⟨_,e0,h2,h3,h4⟩:=N' (enc:=enc) x v L es.toList 0 j u rY Ju;have ZC:es[j]? =some e0:=by simpa using h2
  refine⟨.map (es.modify j λe=>{e with key:=enc x,val:=v}) clock,?_,_,_,(heap_setBlock_same hb _),by simpa using h4,?_,?_,rj hd⟩
  .rw[Ju]at hf;simp[hf,xn,ZC,h3,Instr.keyThatStays,K.bit];exact xk _ hb
  .rw[qm,tD es.toList j (λe=>{e with key:=enc x,val:=v}) (λ_=>rfl)];exact hn
  .intro e he;have:e.born∈(es.modify j λe=>{e with key:=enc x,val:=v}).toList.map (·.born):=jq he;rw[qm,tD es.toList j (λe=>{e with key:=enc x,val:=v}) (λ_=>rfl)]at this;have⟨e',h1,h2⟩:=List.mem_map.1 this;rw[<-h2];exact hk e' h1
def cK(K:KL P k enc (λ_ _=>True))(ht:P.underlying t=some (.map k e)){a}{Q}(hg:o.guard=none)m x v(tI:o.op=Op.insert t m x v\/o.op=Op.mapUpdate t m x v)(hm:a.eval m=Mv b)(hM:MG enc w b L)key val(hx:a.eval x=enc key)(hv:a.eval v=val)(hK:∀w',MG enc w' b (bn key val L)->One b w w'->wpList P ops Q rest (a.put o.dst undef) w'):
 wpList P ops Q (o::rest) a w:=by
 refine wpList_plain hg λK' hK'=>?_;have⟨ob,lT,r1⟩:=hM.put K ht key val;rw[Oper.wp];obtain tI|tI:=tI<;>
 .simp[execOp,tI,hm,hx,hv,lT,xn];exact hK' _ _<|hK _ r1<|One.set w b ob
def zO{x:κ}:∀{L:List (κ×Value)},(bd x L).isSome=true↔x∈L.map (·.1)
 |[]=>by simp[bd]|p::l=>by
  rw[bd];split
  .rename_i e;simp[e]
  .rename_i e;rw[zO (L:=l)];simp only[jd,jm];exact⟨j6,λq=>q.elim (λq=>absurd q.symm e) id⟩
def Ud{x:κ}{v:Value}:∀{L:List (κ×Value)},(L.map (·.1)).Nodup->(x,v)∈L->bd x L=some v
 |[],_,h=>xA|p::l,hn,h=>by
  simp only[jd,jo]at hn;rw[bd];obtain rfl|h:=List.mem_cons.1 h
  .simp
  .have:p.1≠x:=λe=>hn.1 (by rw[e];exact jq (f:=(·.1)) h);rw[if_neg this];exact Ud hn.2 h
def pf{x:κ}{v:Value}:∀{L:List (κ×Value)},bd x L=some v->(x,v)∈L
 |[],h=>qBg|p::l,h=>by
  rw[bd]at h;split at h
  .rename_i e;simp only[Option.some.injEq]at h;subst e h;simp
  .exact jj _ (pf h)
def alJ enc P w r gb L(done:List κ)(cnt:Nat):=((∀x v,bd x L=some v->x∈done)/\(qz (Pv r) false 0).run P w=.ok (.tuple #[.bool false]) w)\/
    ∃x v w1 aC,x∉done/\bd x L=some v/\(qz (Pv r) false 0).run P w=.ok (.tuple #[.bool true,enc x,v]) w1/\IG enc w1 r gb L (x::done) aC/\aC<cnt/\Fr (λb=>b=r) w w1/\w1.heap.size=w.heap.size/\(Instr.entry<|Pv r).run P w1=.ok (.tuple #[enc x,v]) w1
def IG.next(ant:∀x y,enc x=enc y->x=y){cnt}{done}(h:IG enc w r gb L done cnt):alJ enc P w r gb L done cnt:=by
 have⟨hg1,hr1,cJ⟩:=h.lt;obtain⟨es,clock,since,seen,c0,a1,a2,a3,a4,a5,a6,a7,a8,a10,a11⟩:=h;have abx:=alI a2;rcases run_next_at (P:=P) w 0 r gb since c0 seen es clock a7 a1 a4 a5 with⟨h0,lT⟩|⟨e,he,w1,ud,lT⟩
 .left;refine⟨λx v hx=>?_,lT⟩;have hin:=zO.1 (by rw[hx];rfl);have:enc x∈es.toList.map (·.key):=Mn;have⟨e,he,hk⟩:=List.mem_map.1 this;exact(a11 e he x hk).1 (all_seen es seen h0 e he)
 .right;have⟨X',he2⟩:=mem_left he;obtain⟨x,hx,hxL⟩:∃x,e.key=enc x/\(x,e.val)∈L:=by
   have:(e.key,e.val)∈es.toList.map (λe=>(e.key,e.val)):=jq (f:=λe:MapEntry=>(e.key,e.val)) X';rw[a2]at this;have⟨p,hp,q⟩:=List.mem_map.1 this;obtain⟨px,pv⟩:=p;simp only[Prod.mk.injEq]at q;exact⟨px,q.1.symm,by rw[<-q.2];exact hp⟩
  have yS:x∉done:=λq=>by
   have:=(a11 e X' x hx).2 q;rw[he2]at this;cases this
  have Pq:w1.heap=w.heap:=by obtain rfl|rfl:=ud<;>rfl
  have b1:∀k,k≠r->(setBlock w1 r<|.mapIter (some gb) since (seen.push e.born) clock).heap[k]? =w.heap[k]? :=λk hk=>by
   have:(setBlock w1 r<|.mapIter (some gb) since (seen.push e.born) clock).heap[k]? =w1.heap[k]? :=by simp[setBlock,qi,Ne.symm hk]
   rw[this,Pq]
  have b2:(setBlock w1 r<|.mapIter (some gb) since (seen.push e.born) clock).heap[r]? =some (.mapIter (some gb) since (seen.push e.born) clock):=by
   have Eu:r<w1.heap.size:=by rw[Pq];exact hr1
   simp[setBlock,qi,Eu]
  have kX:(setBlock w1 r<|.mapIter (some gb) since (seen.push e.born) clock).heap.size=w.heap.size:=by simp[setBlock,Pq]
  have hnk:(es.toList.map (·.key)).Nodup:=Mn;refine⟨x,e.val,_,_,yS,Ud a8 hxL,by rw[lT,hx],⟨es,clock,since,seen.push e.born,clock,(b1 gb cJ).trans a1,a2,a3,a4,a6,a6,b2,a8,rfl,λe' he' y hy=>?_⟩,by rw[<-a10];exact left_shrinks es seen e he,⟨by obtain rfl|rfl:=ud<;>rfl,by obtain rfl|rfl:=ud<;>rfl,by obtain rfl|rfl:=ud<;>rfl,by rw[kX];exact br _,λk _ hk=>b1 k hk⟩,kX,?_⟩
  .rw[contains_push];simp only[Bool.or_eq_true,beq_iff_eq,jm];constructor
   .rintro(q|q)
    .grind
    .have:e'=e:=born_inj a3 he' X' q;rw[this,hx]at hy;exact j7 (ant _ _ hy).symm
   .rintro(q|q)
    .right;have:e'=e:=by
      have hk:e'.key=e.key:=by rw[hy,hx,q]
      exact entry_eq_of_key (by rw[List.Nodup,List.pairwise_map]at hnk;exact hnk) he' X' hk
     rw[this]
    .grind
  .have:=run_entry_at (P:=P) (setBlock w1 r<|.mapIter (some gb) since (seen.push e.born) clock) r gb since seen es clock e b2 ((b1 gb cJ).trans a1) X' a3;rw[hx]at this;exact this
end
end
section
open Go.MapKept Un
abbrev p9:Int->Value:=λn=>Iv n
def LG:∀x y,p9 x=p9 y->x=y:=λx y h=>by injection h
abbrev KLV:KL qn 248 p9 (λ_ _=>True):=KL.num Tryz.underlying248
def fK w P b(D:Nat->Option Ty):=
 ∃L,MG p9 w b L/\(∀n:Nat,bd (n:Int) L=none->D n=none)/\(∀(n:Nat)u,bd (n:Int) L=some u->∃t,D n=some t/\dA w P t u)/\∀x u,bd x L=some u->∃n:Nat,x=(n:Int)
def ED(D:Nat->Option Ty)n:=(D n).getD<|.var n
section
variable {w:World} {b:Nat}
theorem fK.move(h:fK w P b D)(hs:w.heap.size<=w'.heap.size)(hb:w'.heap[b]? =w.heap[b]?)(hp:∀x,P x->x<w.heap.size->w'.heap[x]? =w.heap[x]?)(hq:∀x,P x->x<w.heap.size->Q x):fK w' Q b D:=by
 obtain⟨L,h1,h2,h3,h4⟩:=h;exact⟨L,h1.same hb,h2,λn u hu=>by have⟨t,e,ht⟩:=h3 n u hu;exact⟨t,e,ht.move hs hp hq⟩,h4⟩
def fK.lt(h:fK w P b D):b<w.heap.size:=qAr
def fK.af(h:fK w P b D)(hb:Bq w w'):fK w' P b D:=h.move hb.size (hb.block b h.lt) (λx _ hx=>hb.block x hx)<|λ_ p _=>p
def fK.fr(h:fK w P b D)(hf:Fr S w w')(hb:¬S b)(hS:∀x,P x->x<w.heap.size->¬S x):fK w' P b D:=h.move hf.size (hf.block b h.lt hb) (λx p z=>hf.block x z<|hS x p z)<|λ_ p _=>p
def fK.wide(h:fK w P b D)(hq:∀x,P x->Q x):fK w Q b D:=h.move (br _) rfl (λ_ _ _=>rfl) (λx p _=>hq x p)
def fK.low(h:fK w P b D):fK w (λx=>P x/\x<w.heap.size) b D:=h.move (br _) rfl (λ_ _ _=>rfl) (λx p z=>⟨p,z⟩)
def fK.new(w:World)P:fK (w.alloc<|.map #[] 0) P w.heap.size (λ_=>none):=⟨[],MG.new p9 w,λ_ _=>rfl,λn u h=>qBg,λx u h=>qBg⟩
def afp w:(zeroValue 98).run qn w=.ok .nilIface w:=qkr
def fK.look(h:fK w P b D){tm}(ht:Tryz.prog.underlying tm=some (.map 248 98))n:(∃t u,D n=some t/\dA w P t u/\(qx tm (Mv b) (Nv n) true).run qn w=.ok (.tuple #[u,.bool true]) w)\/
 (D n=none/\(qx tm (Mv b) (Nv n) true).run qn w=.ok (.tuple #[.nilIface,.bool false]) w):=by
 obtain⟨L,h1,h2,h3,h4⟩:=h;have hl:=h1.ms.look KLV ht (afp w) (n:Int) trivial (λ_ _=>trivial) true
 cases hg:bd (n:Int) L with
 |none=>grind|some u=>grind
def iA:Tryz.prog.underlying 407=some (.map 248 98):=qkr
def oT:Tryz.prog.underlying 456=some (.map 248 98):=qkr
def iB:Tryz.prog.underlying 152=some (.map 9 418):=qkr
def afq(h:fK w P b D)n:Cq 283 #[Mv b,Nv n] w λe w'=>∃u,e=.returned u/\dA w P (ED D n) u/\w'=w:=by
 obtain⟨t,u,e1,H1,hl⟩|⟨e1,hl⟩:=h.look iA n
 .obtain⟨ta,xa,rfl⟩:=H1.iface;have E1:=ai e1;go_enter func283,ntmps283
  go_wp2
  go_ret;exact⟨_,rfl,by rw[ED];rw[uh E1];exact H1,rfl⟩
 .have E1:=ai e1;go_enter func283,ntmps283
  go_wp2
  go_ret;exact⟨_,rfl,by rw[ED];rw[uh E1];exact .var n,rfl⟩
def ImI(P:Nat->Prop)n0 b D(_:List Nat)(B M:Nat->Prop)w:=(B=λx=>P x/\x<n0)/\(M=λ_=>False)/\fK w (λx=>P x/\x<n0) b D/\n0<=w.heap.size
def Xj(hb:P b){n0:Nat}(hn:b<n0):Img 283 #[Mv b] #[] (ED D) (λ_ _=>True) (ImI P n0 b D) where
 eg:=enters_of Tryz.func283 qkr rfl
 pL acc B M w w' h hz hk:=by
  obtain⟨rfl,rfl,h1,h2⟩:=h;exact⟨rfl,rfl,h1.move hz (hk b<|j7 ⟨hb,hn⟩) (λx p _=>hk x<|j7 p)<|λ_ p _=>p,j8 h2 hz⟩
 lt acc B M w h:=by
  obtain⟨rfl,rfl,h1,h2⟩:=h;rintro x(p|p)
  .omega
  .exact p.elim
 call acc B M w n h _:=by
  obtain⟨rfl,rfl,h1,h2⟩:=h;refine(afq h1 n).mono ?_;rintro e w'⟨u,rfl,hu,rfl⟩;exact⟨u,_,_,rfl,hu.wide λx p=>⟨λq=>q,j7 p⟩,⟨rfl,rfl,h1,h2⟩,λx p=>j7 p,λx p=>j7 p,Fr.refl _ _⟩
def Ue t(P:Nat->Prop)w(e:Ending)w':=∃u,e=.returned u/\dA w' (λx=>P x\/w.heap.size<=x) t u/\Bq w w'
def Fr.none(h:Fr S w w')(hS:∀b,¬S b):Bq w w':=⟨h.os,h.tape,h.output,h.size,λk hk=>h.block k hk<|hS k⟩
def Rj(h:fK w P b D)(hb:P b){v}(ht:dA w Q t v)(hz:size t<=1000000000000)(gC:size (sub (ED D) t)<=1000000000000):Cq 270 #[Mv b,v] w (Ue (bN<|sub (ED D) t) P w):=by
 have HC:=GU (Xj (D:=D) hb h.lt) t [] _ _ w v Q ⟨rfl,rfl,h.low,br _⟩ (λi hi=>trivial) hz ht<|λx _ _=>id;obtain⟨ta,xa,rfl⟩:=ht.iface;go_enter func270,ntmps270;go_wp2_with fail;refine HC.mono ?_;rintro e w1⟨u,B',M',rfl,hU,_,_,_,F⟩;obtain⟨tu,xu,rfl⟩:=hU.iface;have b1:=F.none<|λ_ q=>q;have HB:=ai b1;have HK:=acC hU gC;go_wp2_with fail;refine HK.mono ?_;rintro e w2⟨u2,rfl,HU,h_⟩;obtain⟨tu2,xu2,rfl⟩:=HU.iface
 go_wp2
 go_ret;have b1:=uh HB;refine⟨_,rfl,HU.wide λx p=>?_,b1.trans<|h_.mono b1.size⟩;obtain p|p:=p
 .obtain q|q:=p.2
  .exact j7 q.1
  .exact j6 q
 .exact j6 (j8 b1.size p)
end
section
variable {w:World} {b:Nat}
def GX{κ:Type}enc(L:List (κ×Value))(w:World)(e:Ending)(w':World):=e=.returned (Mv w.heap.size)/\MG enc w' w.heap.size L/\Bq w w'/\w'.heap.size=w.heap.size+1
def Xk{enc}{L:List (κ×Value)}{es:Array MapEntry}{clock:Nat}(h:es.toList.map (λe=>(e.key,e.val))=L.map (λp=>(enc p.1,p.2))/\(es.toList.map (·.born)).Nodup/\(∀e∈es.toList,e.born<clock)/\(L.map (·.1)).Nodup):GX enc L w (.returned<|Mv w.heap.size) (w.alloc<|.map es clock):=
 ⟨rfl,⟨es,clock,(xj w _).1,h⟩,bw _,ah⟩
def dV:Tryz.prog.underlying 156=some (.map 9 476):=qkr
def TP{p:Prop}(h:p:=by
 simp only[xn];rw[Oper.upon_value]
 go_wp2
 go_ret
 exact Xk HR):p:=h
def acD(h:MG p9 w b L):Cq 316 #[Mv b] w (GX p9 L w):=by
 obtain⟨es,clock,hb,HR⟩:=h;have hq:=λw=>run_eql_map_nil_sl (P:=Tryz.prog) w 407 _ _ (some b) iA;go_enter func316,ntmps316;go_wp2_with fail;rw[run_callFunc_extern Tryz.func317 qkr qkr qkr (e:=Extern.MapsClone.clone) qkr,run_maps_clone_sl w 407 hb];simp only[Result.andThen];rw[Oper.upon_value];go_wp2_with fail;rw[run_typeAssert_map_sl _ 407 _ _ _ _ iA];exact TP
def acE{L}(h:MG q9 w b L):Cq 305 #[Mv b] w (GX q9 L w):=by
 obtain⟨es,clock,hb,HR⟩:=h;have hq:=λw=>run_eql_map_nil_sl (P:=Tryz.prog) w 152 _ _ (some b) iB;go_enter func305,ntmps305;go_wp2_with fail;rw[run_callFunc_extern Tryz.func317 qkr qkr qkr (e:=Extern.MapsClone.clone) qkr,run_maps_clone_sl w 152 hb];simp only[Result.andThen];rw[Oper.upon_value];go_wp2_with fail;rw[run_typeAssert_map_sl _ 152 _ _ _ _ iB];exact TP
def ZO{L}(h:MG q9 w b L):Cq 363 #[Mv b] w (GX q9 L w):=by
 obtain⟨es,clock,hb,HR⟩:=h;have hq:=λw=>run_eql_map_nil_sl (P:=Tryz.prog) w 156 _ _ (some b) dV;go_enter func363,ntmps363;go_wp2_with fail;rw[run_callFunc_extern Tryz.func317 qkr qkr qkr (e:=Extern.MapsClone.clone) qkr,run_maps_clone_sl w 156 hb];simp only[Result.andThen];rw[Oper.upon_value];go_wp2_with fail;rw[run_typeAssert_map_sl _ 156 _ _ _ _ dV];exact TP
theorem fK.bn(h2:∀m:Nat,bd (m:Int) L=none->D m=none)(h3:∀(m:Nat)v,bd (m:Int) L=some v->∃t,D m=some t/\dA w P t v)(h4:∀x v,bd x L=some v->∃m:Nat,x=(m:Int))(ht:dA w P t u)(hP:¬P b)(o:One b w w')(hM:MG p9 w' b (Go.Proofs.YtopmodaakdnliaaGreatDoor.bn (n:Int) u L)):fK w' P b (dZ D n<|some t):=by
 have mv:∀{t v},dA w P t v->dA w' P t v:=λh=>h.move qAg (λx p _=>o.block x<|λe=>hP<|e▸p)<|λ_ p _=>p;refine⟨_,hM,λm hm=>?_,λm v hm=>?_,λx v hx=>?_⟩
 .rw[aN]at hm;by_cases e:(n:Int)=(m:Int)
  .grind
  .rw[if_neg e]at hm;have e':¬m=n:=λq=>e (by rw[q]);simp only[dZ,e',if_false];exact h2 m hm
 .rw[aN]at hm;by_cases e:(n:Int)=(m:Int)
  .rw[if_pos e]at hm;injection hm with hm;have e':m=n:=ae;subst hm;simp only[dZ,e',if_true];exact⟨t,rfl,mv ht⟩
  .rw[if_neg e]at hm;have e':¬m=n:=λq=>e (by rw[q]);simp only[dZ,e',if_false];have⟨t',q1,q2⟩:=h3 m v hm;exact⟨t',q1,mv q2⟩
 .rw[aN]at hx;by_cases e:(n:Int)=x
  .exact⟨n,e.symm⟩
  .grind
def kR{tm}(htm:Tryz.prog.underlying tm=some (.map 248 98)){a}{Q}(hg:o.guard=none)m x v(tI:o.op=Op.insert tm m x v\/o.op=Op.mapUpdate tm m x v)(hm:a.eval m=Mv b)(h:fK w P b D)(hP:¬P b)(ht:dA w P t u)n(hx:a.eval x=Nv n)(hv:a.eval v=u)(hK:∀w',fK w' P b (dZ D n<|some t)->One b w w'->wpList qn ops Q rest (a.put o.dst undef) w'):
 wpList qn ops Q (o::rest) a w:=by
 obtain⟨L,h1,h2,h3,h4⟩:=h;exact cK KLV htm hg m x v tI hm h1 (n:Int) u hx hv λw' hM o=>hK w' (fK.bn h2 h3 h4 ht hP o hM) o
def thD(D1 D2:Nat->Option Ty)(done:List Int)(n:Nat):Option Ty:=if(n:Int)∈done then(match D1 n with|some t=>some (bN<|sub (ED D2) t)|none=>D2 n)else D2 n
def A_(D1 D2:Nat->Option Ty)n:=match D1 n with|some t=>some (bN<|sub (ED D2) t)|none=>D2 n
def ThR(P:Nat->Prop)b1 D1 D2 L w gk wr:=
 ∃done,IG p9 wr (w.heap.size+1) b1 L done gk/\fK wr (λx=>(P x/\x<w.heap.size)\/w.heap.size+2<=x) w.heap.size (thD D1 D2 done)/\Bq w wr
def acF(P:Nat->Prop)D1 D2 w(e:Ending)w':=
 ∃b3,e=.returned (Mv b3)/\w.heap.size<=b3/\fK w' (λx=>P x\/w.heap.size<=x) b3 (A_ D1 D2)/\Bq w w'
def afr{b1 b2}{D2}(h1:fK w P b1 D1)(h2:fK w P b2 D2)(UP:P b2)(hz:∀n t,D1 n=some t->size t<=1000000000000/\size (sub (ED D2) t)<=1000000000000):
 Cq 304 #[Mv b1,Mv b2] w (acF P D1 D2 w):=by
 have H2:=ai h2;have l1:=h1.lt;have l2:=h2.lt;obtain⟨L1,M1,q12,q13,q14⟩:=h1;obtain⟨L2,m2,q22,q23,q24⟩:=h2;have HC:=acD m2;have Q1:=And.intro q12<|And.intro q13 q14;have Q2:=And.intro q22<|And.intro q23 q24;go_enter func304,ntmps304;go_wp2_with fail;refine HC.mono ?_;rintro e w1⟨rfl,m3,k1,zz⟩;have⟨o,cnt,hrg,ni⟩:=(M1.af k1).range iA;rw[zz]at hrg ni;have k2:Bq w (w1.alloc o):=k1.alloc (by rw[zz];omega) _;have HI:=ai ni;have HK:=ai k2;have S0:Hid (fK (w1.alloc o) (λx=>(P x/\x<w.heap.size)\/w.heap.size+2<=x) w.heap.size D2):=by
  obtain⟨r1,r2,r3⟩:=Q2;refine ai ⟨L2,m3.af<|bw _,r1,λn u hu=>?_,r3⟩;have⟨t,e,ht⟩:=r2 n u hu;exact⟨t,e,ht.move k2.size (λx _ hx=>k2.block x hx)<|λx p z=>j7 ⟨p,z⟩⟩
 go_wp2
 go_loopg[] cnt (λgk wr=>ThR P b1 D1 D2 L1 w gk wr)
 case atStart=>
  refine⟨[],HI,?_,HK⟩;have e:thD D1 D2 []=D2:=by funext n;simp[thD]
  rw[e];exact S0
 case round=>
  obtain⟨done,HI,HS,HB⟩:=hrel;have hiz:=HI.lt;have zr:=HB.size;rcases HI.next (P:=qn) LG with⟨ha,MW⟩|⟨x,u,w2,aC,hxd,Yi,MW,HI1,aZ,BE,kX,hen⟩
  .go_wp2
   go_ret;refine⟨w.heap.size,rfl,br _,?_,HB⟩;have e:thD D1 D2 done=A_ D1 D2:=by
    funext n;unfold thD A_;by_cases q:(n:Int)∈done
    .rw[if_pos q]
    .rw[if_neg q];have:D1 n=none:=by
      cases hg:bd (n:Int) L1 with
      |none=>exact Q1.1 n hg|some v=>exact absurd (ha _ v hg) q
     rw[this]
   rw[<-e];exact HS.wide λx p=>by obtain p|p:=p;exact j7 p.1;exact j6 ae
  .obtain⟨r1,r2,r3⟩:=Q1;obtain⟨n,rfl⟩:=r3 x u Yi;have⟨t,E1,ht⟩:=r2 n u Yi;have⟨gS,gC⟩:=hz n t E1;obtain⟨ta,xa,rfl⟩:=ht.iface;have F1:=BE;have kb:∀i,i<w.heap.size->w2.heap[i]? =w.heap[i]? :=λi hi=>(F1.block i ae ae).trans<|HB.block i hi;have h_:Bq w w2:=⟨F1.os.trans HB.os,F1.tape.trans HB.tape,F1.output.trans HB.output,ae,kb⟩;have HC:=Rj (H2.low.move h_.size (kb b2 l2) (λx p _=>kb x p.2)<|λx p _=>p) (⟨UP,l2⟩:P b2/\b2<w.heap.size) (ht.af h_) gS gC;have S2:=HS.fr F1 ae (λx p _=>by obtain p|p:=p<;>omega);go_wp2_with fail;refine HC.mono ?_;rintro e w3⟨u3,rfl,hU,k3⟩;obtain⟨tu,xu,rfl⟩:=hU.iface;have z3:=k3.size;have S3:=S2.af k3;have U3:=hU.wide (Q:=λx=>(P x/\x<w.heap.size)\/w.heap.size+2<=x) λx p=>by obtain p|p:=p;exact j7 p;exact j6 ae
   have I3:=HI1.same (k3.block b1 ae)<|k3.block _ ae;have K3:=h_.trans<|k3.mono ae;go_wp2_with(refine kR iA rfl _ _ _ (j6 rfl) rfl S3 ae U3 n rfl rfl ?_;intro w4 H' O';have S4:=ai H';have O4:=ai O';clear H' O');go_roundg aC
   case measure=>exact aZ
   case rel=>
    have o:=uh O4;refine⟨(n:Int)::done,I3.same (o.block b1 ae)<|o.block _ ae,?_,?_⟩
    .have e:thD D1 D2 ((n:Int)::done)=dZ (thD D1 D2 done) n (some<|bN<|sub (ED D2) t):=by
      funext m;unfold dZ;by_cases q:m=n
      .subst q;unfold thD;rw[if_pos ah,if_pos rfl,E1]
      .have:¬(m:Int)=(n:Int):=ae;unfold thD;simp[q,this]
     rw[e];exact S4
    .have k:=K3;exact⟨o.os.trans k.os,o.tape.trans k.tape,o.output.trans k.output,by rw[o.size];exact k.size,λi hi=>(o.block i ae).trans<|k.block i hi⟩
end
def xT(rk:Nat->Nat):Ty->Nat
 |.var n=>rk n+1|.aM _ _=>0
structure alK(K:Nat->Option Ty)R t t1:Prop where
 eq:sub R t1=sub R t
 op:∀n,t1=.var n->K n=none
def alL(J:Ty->Prop)(K:Nat->Option Ty)R rk P t w gk v wr:=
 ∃t1,Hid (gk=xT rk t1)/\wr=w/\dA w P t1 v/\Hid (J t1)/\Hid (sub R t1=sub R t)
section
variable {w:World} {b:Nat} {rk:Nat->Nat}
def acG(J:Ty->Prop)(hJ:∀n t,K n=some t->J t)(h:fK w P b K)(hK:tN K R rk){v}(ht:dA w P t v)(h0:J t):Cq 321 #[Mv b,v] w λe w'=>∃u t1,e=.returned u/\dA w P t1 u/\alK K R t t1/\J t1/\w'=w:=by
 obtain⟨ta,xa,rfl⟩:=ht.iface;go_enter func321,ntmps321
 go_wp2
 go_loopg[1] (xT rk t) (λgk v wr=>alL J K R rk P t w gk v wr)
 case atStart=>exact⟨t,ai rfl,rfl,ht,ai h0,ai rfl⟩
 case round=>
  obtain⟨t1,bE,rfl,hT,hJ1,hE⟩:=hrel
  cases hT with
  |var n=>
   obtain⟨t2,u,e1,H2,hl⟩|⟨e1,hl⟩:=h.look oT n
   .obtain⟨tu,xu,rfl⟩:=H2.iface;have E1:=ai e1
    go_wp2
    go_roundg(xT rk t2)
    case measure=>
     rw[uh bE]
     cases t2 with
     |var m=>have:=hK.ZX n m E1;simp only[xT];omega|aM c l=>simp only[xT];omega
    case rel=>exact⟨t2,ai rfl,rfl,H2,ai<|hJ n t2 E1,ai (by rw[<-uh hE];exact(hK.shut n t2 E1).symm)⟩
   .have E1:=ai e1
    go_wp2
    go_ret;exact⟨_,.var n,rfl,.var n,⟨hE,λm hm=>by cases hm;exact E1⟩,hJ1,rfl⟩
  |aM c L sa sc vs hc aE hr=>
   go_wp2
   go_ret;exact⟨_,.aM c L,rfl,.aM c L sa sc vs hc aE hr,⟨hE,λm hm=>by cases hm⟩,uh hJ1,rfl⟩
end
def P0 g cs(l:List Nat)(p:Nat->Bool)w:=∀(W:World)(n:Nat),n∈l->Bq w W->Cq g (#[Nv n]++cs) W λe w'=>e=.returned (.bool<|p n)/\Bq W w'
def IxV(l:List Nat)(p:Nat->Bool)k:=(k= -1/\∀n∈l,p n=false)\/∃i,∃h:i<l.length,k=(i:Int)/\p l[i]=true/\∀j(hj:j<l.length),j<i->p l[j]=false
def alM(l:List Nat)(p:Nat->Bool)w gk v wr:=
 ∃j:Nat,Hid (gk=l.length-j)/\j<=l.length/\v=Nv j/\Bq w wr/\Hid (∀i(hi:i<l.length),i<j->p l[i]=false)
section
variable {w:World} {v:Value} {p:Nat->Bool}
def mW l:(wM l).length=l.length:=by simp[wM]
def LH(eg:∀args w,(callFunc g args).run qn w=.ok (.enter g args) w)(ho:iI w 248 base v (wM l))(hl:l.length<=1000000000000)(hp:P0 g cs l p w):
 Cq 330 #[v,.func (.func g) #[] cs] w λe w'=>∃k,e=.returned (Iv k)/\IxV l p k/\Bq w w':=by
 obtain⟨va,vc,rfl⟩:=gY ho (n:=l.length)<|mW l;go_enter func330,ntmps330
 go_wp2
 go_loopg[8] l.length (λgk v wr=>alM l p w gk v wr)
 case atStart=>exact⟨0,ai ah,qe _,rfl,qu _ _,ai<|λi _ hi=>absurd hi ae⟩
 case round=>
  obtain⟨j,bE,hj,rfl,HK,qB⟩:=hrel;by_cases aI:j<l.length
  .have hd:(j:Int)<(l.length:Int):=ae;have hjv:j<(wM l).length:=by rw[mW];exact aI
   have⟨gv,cpv,mv,hv,hgv,mn,_⟩:=me ho ae;injection hv with WV hv2 hv3;subst WV;have cg0:=py ho j hjv;rw[show(wM l)[j]=Nv (l[j]) by simp[wM]]at cg0;have cg:=(qp (a:=⟨gv,j,none⟩)<|HK.block gv mn).trans cg0;have HC:=hp wr l[j] (jx aI) HK;clear cg0 hv2 hv3
   cases hpj:p l[j]with
   |true=>
    rw[hpj]at HC;generalize hx:l[j]=x at*;go_wp2_with(go_at_fn g;refine HC.mono ?_;rintro e w1⟨rfl,k1⟩;have HK1:=ai k1;clear k1);go_ret;have k:=HK;exact⟨j,rfl,j6 ⟨j,aI,rfl,by rw[hx];exact hpj,qB⟩,k.trans<|HK1.mono k.size⟩
   |false=>
    rw[hpj]at HC;generalize hx:l[j]=x at*;go_wp2_with(go_at_fn g;refine HC.mono ?_;rintro e w1⟨rfl,k1⟩;have HK1:=ai k1;clear k1);go_roundg(l.length-(j+1))
    case measure=>rw[uh bE];omega
    case rel=>
     have k:=HK;refine⟨j+1,ai rfl,ae,d_,k.trans<|HK1.mono k.size,ai<|λi hi hij=>?_⟩;by_cases e:i=j
     .subst e;rw[hx];exact hpj
     .exact qB i hi ae
  .have hd:decide ((j:Int)<(l.length:Int))=false:=bi;have ej:j=l.length:=ae;subst ej
   go_wp2
   go_ret;refine⟨-1,rfl,j7 ⟨rfl,λn hn=>?_⟩,HK⟩;obtain⟨i,hi,rfl⟩:=List.getElem_of_mem hn;exact qB i hi hi
def IxV.any{k}(h:IxV l p k):decide (0<=k)=l.any p:=by grind[IxV]
def Ba(eg:∀args w,(callFunc g args).run qn w=.ok (.enter g args) w)(ho:iI w 248 base v (wM l))(hl:l.length<=1000000000000)(hp:P0 g cs l p w):
 Cq 331 #[v,.func (.func g) #[] cs] w λe w'=>e=.returned (.bool<|l.any p)/\Bq w w':=by
 have HC:=LH eg ho hl hp;obtain⟨va,vc,rfl⟩:=gY ho (n:=l.length)<|mW l;go_enter func331,ntmps331;go_wp2_with fail;refine HC.mono ?_;rintro e w1⟨k,rfl,hk,HK⟩;have HA:=hk.any
 go_wp2
 go_ret;refine⟨?_,HK⟩;rw[<-HA];rfl
end
section
variable {b:Nat} {rk:Nat->Nat}
open Classical in
noncomputable def Bb (R:Nat->Ty) (v:Nat) (n:Nat):Bool:=decide (aG v<|R n)
open Classical in
def LI R v t:(vars [] t).any (Bb R v)=decide (aG v<|sub R t):=by
 have h:∀n,n∈vars [] t↔aG n t:=λn=>by simpa using cE t [] n
 by_cases q:aG v (sub R t)
 .rw[decide_eq_true q,List.any_eq_true];have⟨m,h1,h2⟩:=(Go.Proofs.YtopmodaakdnliaaGreatDoor.Un.nZ t).1 q;exact⟨m,(h m).2 h1,by simp[Bb,h2]⟩
 .rw[decide_eq_false q,List.any_eq_false];intro m hm;simp only[Bb,decide_eq_true_eq];exact λr=>q<|(Go.Proofs.YtopmodaakdnliaaGreatDoor.Un.nZ t).2 ⟨m,(h m).1 hm,r⟩
def Uf P b K R v t:=∀(w:World)(x:Value),fK w P b K->dA w P t x->size t<=1000000000000->
 Cq 327 #[Mv b,x,Nv v] w λe w'=>e=.returned (.bool<|(vars [] t).any<|Bb R v)/\Bq w w'
def Ui{p:Prop}(h:p:=by
 rw[hb]at HC;go_enter func332,ntmps332;go_wp2_with fail;refine HC.mono ?_;rintro e w1⟨rfl,HK⟩
 go_wp2
 go_ret
 exact⟨rfl,HK⟩):p:=h
def P6(hK:tN K R rk)(hs:∀n t,K n=some t->size t<=1000000000000){v:Nat}(hv:K v=none)n(IH:∀t,K n=some t->Uf P b K R v t){sb vb}(h:fK W P b K)(h1:Bx W sb #[Mv b])(h2:Bx W vb #[Nv v]):
 Cq 332 #[Nv n,Pv sb,Pv vb] W λe w'=>e=.returned (.bool<|Bb R v n)/\Bq W w':=by
 obtain⟨c1,f1,z1⟩:=h1;obtain⟨c2,f2,z2⟩:=h2;obtain⟨t,u,e1,ht,hl⟩|⟨e1,hl⟩:=h.look oT n
 .obtain⟨tu,xu,rfl⟩:=ht.iface;have cJ:n≠v:=λq=>by rw[q,hv]at e1;cases e1
  have hd:((n:Int)==(v:Int))=false:=bi;have HC:=IH t e1 W _ h ht<|hs n t e1;have eo:(vars [] t).any (Bb R v)=Bb R v n:=by
   rw[LI,Bb,hK.shut n t e1]
  rw[eo]at HC
  cases hb:Bb R v n with
  |true=>
   exact Ui
  |false=>
   exact Ui
 .have eo:Bb R v n=decide (n=v):=by
   exact decide_eq_decide.2 (by rw[hK.open_ n e1];simp[aG])
  rw[eo];by_cases hnv:n=v
  .subst hnv;go_enter func332,ntmps332
   go_wp2
   go_ret;exact⟨ah,qu _ _⟩
  .have hd:((n:Int)==(v:Int))=false:=bi;go_enter func332,ntmps332
   go_wp2
   go_ret;exact⟨by simp[hnv],qu _ _⟩
def Xl(hK:tN K R rk)(hs:∀n t,K n=some t->size t<=1000000000000){v:Nat}(hv:K v=none)t(IH:∀n,aG n t->∀t',K n=some t'->Uf P b K R v t'):Uf P b K R v t:=by
 intro w x HH ht hz;have kb:Bq w ((w.alloc<|Cv #[Mv b] 456).alloc<|Cv #[Nv v] 248):=(bw _).alloc ah _;have b1:Bx ((w.alloc<|Cv #[Mv b] 456).alloc<|Cv #[Nv v] 248) w.heap.size #[Mv b]:=(xm w _ _).below<|bw _;have B2:Bx ((w.alloc<|Cv #[Mv b] 456).alloc<|Cv #[Nv v] 248) (w.heap.size+1) #[Nv v]:=by
  have:=xm (w.alloc<|Cv #[Mv b] 456) #[Nv v] 248;simpa using this
 have HV:=kM (ht.af kb) hz;obtain⟨ta,xa,rfl⟩:=ht.iface;have hlen:(vars [] t).length<=1000000000000:=by
  exact Bh
 have KB:=ai kb;have B1:=ai b1;go_enter func327,ntmps327;go_wp2_with fail;refine HV.mono ?_;rintro e w1⟨V,rfl,ho,k1⟩;have⟨va,vc,hva⟩:=gY ho (n:=(vars [] t).length)<|mW _;have hT:P0 332 #[Pv w.heap.size,Pv<|w.heap.size+1] (vars [] t) (Bb R v) w1:=λW n hn hb=>
  have kW:=(KB.trans<|k1.mono KB.size).trans<|hb.mono<|j8 KB.size k1.size
  P6 hK hs hv n (λt' ht'=>IH n (by simpa using(cE t [] n).1 hn) t' ht') (HH.af kW) ((B1.below k1).below hb) ((B2.below k1).below hb)
 have HC:=Ba (enters_of Tryz.func332 qkr rfl) ho hlen hT;have K1:=ai k1;subst hva;go_wp2_with fail;refine HC.mono ?_;rintro e w2⟨rfl,K2⟩
 go_wp2
 go_ret;have kb:=uh KB;have k1:=uh K1;exact⟨rfl,(kb.trans<|k1.mono kb.size).trans<|K2.mono<|j8 kb.size k1.size⟩
def acH(hK:tN K R rk)(hs:∀n t,K n=some t->size t<=1000000000000){v:Nat}(hv:K v=none):∀(s f:Nat)(t:Ty),size (sub R t)<=s->xT rk t<=f->Uf P b K R v t:=by
 intro s
 induction s using j9 with
 |ind s ihs=>
  intro f
  induction f using j9 with
  |ind f ihf=>
   intro t h1 h2;refine Xl hK hs hv t λn hn t' ht'=>?_;have e:=hK.shut n t' ht'
   cases t with
   |var m=>
    simp only[aG]at hn;subst hn;simp only[sub]at h1;rw[e]at h1;simp only[xT]at h2;refine ihf (xT rk t') ?_ t' h1<|br _
    cases t' with
    |var u=>have:=hK.ZX m u ht';simp only[xT];omega|aM c l=>simp only[xT];omega
   |aM c l=>
    have h3:=lM R n l qBx;simp only[sub,size]at h1;exact ihs (size<|sub R t') (by rw[<-e];omega) (xT rk t') t' (br _)<|br _
end
structure TyI(V:List Nat)t:Prop where
 v:∀m,aG m t->m∈V
 z:size t<=48
 w:Whole t
def Cn V(K:Nat->Option Ty):=∀n t,K n=some t->n∈V/\TyI V t
def opL(V:List Nat)(K:Nat->Option Ty):Nat:=(V.filter λn=>(K n).isNone).length
def aiZ(h:n∈V)(e:K n=none):opL V (dZ K n<|some t)<opL V K:=by
 refine filter_lt (m:=n) (λi hi=>?_) h qBq (by simp[dZ]);by_cases q:i=n
 .simp[dZ,q]at hi
 .simpa[dZ,q]using hi
def LJ V K K'(R R':Nat->Ty):=(K'=K/\R'=R)\/opL V K'<opL V K
def cH P b V K R x y w(e:Ending)w':=
 ∃ok:Bool,e=.returned (.bool ok)/\Fr (λi=>i=b) w w'/\
  (ok=true->∃K' R' RP,fK w' P b K'/\tN K' R' RP/\Cn V K'/\Made R R' x y/\LJ V K K' R R')/\
  (ok=false->∀σ,sub σ (sub R x)≠sub σ (sub R y))
section
variable {w:World} {b:Nat} {rk:Nat->Nat}
def Cn.tK(h:Cn V K):∀n t,K n=some t->size t<=1000000000000:=λn t e=>by have:=(h n t e).2.z;omega
def Uh{p:Prop}(h:p:=by
 go_enter func322,ntmps322;go_wp2_with fail;refine HC.mono ?_;rintro e w1⟨rfl,K1⟩;have S1:=HS.af K1;have T1:=ht.af K1;go_wp2_with(refine kR oT rfl _ _ _ (Or.inr rfl) rfl S1 hP T1 n rfl rfl ?_;intro w4 H' O';have S4:=ai H';have O4:=ai O';clear H' O');go_ret;have o:=uh O4
 exact⟨true,rfl,(Fr.of K1).trans ⟨o.os,o.tape,o.output,qAg,λk _ hk=>o.block k hk⟩,λ_=>HY HO _ S4,λh=>by(cases h)⟩):p:=h
def Um{p:Prop}(h:p:=by
 go_enter func322,ntmps322;go_wp2_with fail;refine HC.mono ?_;rintro e w1⟨rfl,K1⟩
 go_wp2
 go_ret
 exact⟨false,rfl,Fr.of K1,λh=>by(cases h),λ_ σ=>HN σ HO⟩):p:=h
def LK(h:fK w P b K)(hP:¬P b)(hK:tN K R rk)(hI:Cn V K)(hn:K n=none)(hnV:n∈V){x}(ht:dA w P t x)(hti:TyI V t)(hh:∀u,t=.var u->K u=none):
 Cq 322 #[Mv b,Nv n,x] w (cH P b V K R (.var n) t w):=by
 have HS:=ai h;by_cases acI:t=.var n
 .subst acI
  cases ht
  have h1:=aiT;go_enter func322,ntmps322
  go_wp2
  go_ret;exact⟨true,rfl,Fr.refl _ _,λ_=>⟨K,R,rk,HS,hK,hI,Made.refl rfl,j7 ⟨rfl,rfl⟩⟩,λh=>Dq⟩
 .have HC:=acH (P:=P) (b:=b) hK hI.tK hn (size<|sub R t) (xT rk t) t (br _) (br _) w x h ht (by have:=hti.z;omega);rw[LI]at HC;have HN:∀σ,aG n (sub R t)->sub σ (sub R<|.var n)≠sub σ (sub R t):=λσ ho=>by
   cases t with
   |var u=>
    have:=hK.open_ u<|hh u rfl;simp[sub,this,aG]at ho;exact absurd (by rw[ho]) acI
   |aM c l=>exact ad_ hK hn ho σ
  have HY:¬aG n (sub R t)->∀w',fK w' P b (dZ K n<|some t)->∃K' R' RP,fK w' P b K'/\tN K' R' RP/\Cn V K'/\Made R R' (.var n) t/\LJ V K K' R R':=λho w' hw=>by
   have⟨RP,Zr⟩:=hK.bind hn ho hh;refine⟨_,_,RP,hw,Zr,λm s e=>?_,Made.bind hK hn ho,j6<|aiZ hnV hn⟩;by_cases q:m=n
   .simp only[dZ,q,if_true,Option.some.injEq]at e;subst e q;exact⟨hnV,hti⟩
   .simp only[dZ,q,if_false]at e;exact hI m s e
  obtain⟨ta,xa,rfl⟩:=ht.iface;have key:(∃m,ta=248/\xa=Iv m/\(m==(n:Int))=false)\/∃p q,ta=260/\xa=Av #[p,q]:=by
   cases ht with
   |var m=>exact j7 ⟨m,rfl,rfl,by simp;intro e;exact acI<|by rw[show m=n by omega]⟩|aM c L sa sc vs hc aE hr=>exact j6 ⟨_,_,rfl,rfl⟩
  cases ho:(@decide (aG n<|sub R t)<|xo _)with
  |true=>
   rw[ho]at HC;have HO:= @of_decide_eq_true _ (xo _) ho;obtain⟨m,rfl,rfl,hm⟩|⟨p,q,rfl,rfl⟩:=key
   .have h1:=aiT;exact Um
   .have h1:=alD;exact Um
  |false=>
   rw[ho]at HC;have HO:= @of_decide_eq_false _ (xo _) ho;obtain⟨m,rfl,rfl,hm⟩|⟨p,q,rfl,rfl⟩:=key
   .have h1:=aiT;exact Uh
   .have h1:=alD;exact Uh
end
@[simp] theorem anN a b w:(qv (.iface 260<|.agg #[a,b]) 98 260 false).run qn w=.ok (.agg #[a,b]) w:=qkr
def cM(w:World)o:(w.alloc o).heap.size=w.heap.size+1:=ah
def pX w C1 C2 v1 v2 wc:=∃p q,v1=Pv p/\v2=Pv q/\w.heap.size<=p/\w.heap.size<=q/\Bx wc p C1/\Bx wc q C2/\Bq w wc
theorem pX.a w C1 C2 t1 t2:pX w C1 C2 (Pv w.heap.size) (Pv<|w.heap.size+1) ((w.alloc<|.cells C1 t1).alloc<|.cells C2 t2).drew:=by
 refine⟨_,_,rfl,rfl,br _,Nat.le_succ _,((xm w C1 t1).below<|bw _).nE,?_,((bw _).alloc ah _).drew⟩;have:=xm (w.alloc<|Cv C1 t1) C2 t2;simp only[cM]at this;exact this.nE
def pX.b w C1 C2 t1 t2:pX w C1 C2 (Pv<|w.heap.size+1) (Pv w.heap.size) ((w.alloc<|.cells C2 t2).alloc<|.cells C1 t1).drew:=by grind[pX,pX.a]
def ai0 P b V K R(L L2:List Ty)p q C0 C1 w gk c wr:=
 ∃(j:Nat)(K':Nat->Option Ty)(R':Nat->Ty)(RP:Nat->Nat),Hid (gk=L.length-j)/\j<=L.length/\c=Nv j/\Fr (λi=>i=b) w wr/\fK wr P b K'/\tN K' R' RP/\Cn V K'/\nW R R' (L.take j) (L2.take j)/\Hid (LJ V K K' R R')/\Bx wr p C0/\Bx wr q C1
def Ug{p:Prop}(h:p:=by
 rw[kE,kF]at h;have:=congrArg xq h;rw[e1,e2]at this;simp at this):p:=h
def afs{d}(hc:CN c)(hd:CN d)(h:pn c=pn d):c=d:=by
 have e1:(⟨#[45,62]⟩:BA).toList=[45,62]:=toList_mk _;have e2:(⟨#[44]⟩:BA).toList=[44]:=toList_mk _;obtain rfl|rfl|hc:=hc<;>obtain rfl|rfl|hd:=hd
 .rfl
 .exact Ug
 .rw[kE,fG hd]at h;exact absurd (by rw[<-h,e1])<|cz hd 45 [62] aA
 .exact Ug
 .rfl
 .rw[kF,fG hd]at h;exact absurd (by rw[<-h,e2])<|cz hd 44 [] aA
 .rw[kE,fG hc]at h;exact absurd (by rw[h,e1])<|cz hc 45 [62] aA
 .rw[kF,fG hc]at h;exact absurd (by rw[h,e2])<|cz hc 44 [] aA
 .rw[fG hc,fG hd]at h;exact h
def TyI.at{V}{c}{L}(h:TyI V (.aM c L))i(hi:i<L.length):TyI V L[i]:=
 ⟨λm hm=>h.v m<|T0 L i hi hm,by have:=mj L i hi;have:=h.z;simp only[size]at this;omega,u_ h.w.2 i hi⟩
section
variable {b:Nat}
def alN P b V K R rk x y:=∀(w:World)(v u:Value),fK w P b K->tN K R rk->Cn V K->TyI V x->TyI V y->dA w P x v->dA w P y u->
 Cq 314 #[Mv b,v,u] w (cH P b V K R x y w)
def cH.fr{w:World}{e:Ending}(h:cH P b V K R x y w e w'):Fr (λi=>i=b) w w':=by grind[cH]
def cH.up{w:World}{e:Ending}(h:cH P b V K R x y w0 e w')(hb:Bq w w0):cH P b V K R x y w e w':=by
 obtain⟨ok,h1,h2,h3,h4⟩:=h;exact⟨ok,h1,(Fr.of hb).trans h2,h3,h4⟩
def LJ.trans{K1 K2}{R1 R2}(h:LJ V K K1 R R1)(k:LJ V K1 K2 R1 R2):LJ V K K2 R R2:=by grind[LJ]
def cH.of{x' y'}{w:World}{e:Ending}(h:cH P b V K R x' y' w e w')(hx:sub R x'=sub R x)(hy:sub R y'=sub R y):cH P b V K R x y w e w':=by
 obtain⟨ok,h1,h2,h3,h4⟩:=h;refine⟨ok,h1,h2,λe=>?_,λe σ=>by rw[<-hx,<-hy];exact h4 e σ⟩;have⟨K',R',RP,q1,q2,q3,q4,q5⟩:=h3 e;exact⟨K',R',RP,q1,q2,q3,q4.ad9 hx hy,q5⟩
def cH.swap{K}{R}{x y}{w}{e}{w'}(h:cH P b V K R x y w e w'):cH P b V K R y x w e w':=by
 obtain⟨ok,h1,h2,h3,h4⟩:=h;refine⟨ok,h1,h2,λe=>?_,λe σ q=>h4 e σ q.symm⟩;have⟨K',R',RP,q1,q2,q3,q4,q5⟩:=h3 e;exact⟨K',R',RP,q1,q2,q3,q4.swap,q5⟩
def acJ(hP:¬P b):∀(f s:Nat)(K:Nat->Option Ty)(R:Nat->Ty)(rk:Nat->Nat)(x y:Ty),opL V K<=f->size (sub R x)<=s->alN P b V K R rk x y:=by
 intro f
 induction f using j9 with
 |_ f ihf=>
 intro s
 induction s using j9 with
 |_ s ihs=>
  intro K R rk x y Hf Hs w v u h hK hI hx hy hv hu;have HS:=ai h;have HH1:=acG (TyI V) (λn t e=>(hI n t e).2) h hK hv hx;have Bz:=acG (TyI V) (λn t e=>(hI n t e).2) h hK hu hy;obtain⟨ta,xa,rfl⟩:=hv.iface;obtain⟨tb,xb,rfl⟩:=hu.iface;go_enter func314,ntmps314;go_wp2_with fail;refine HH1.mono ?_;rintro e w1⟨v1,x1,rfl,WV,II,VL,rfl⟩;obtain⟨ND,NE,rfl⟩:=WV.iface;clear HH1;go_wp2_with fail;refine Bz.mono ?_;rintro e w2⟨u1,y1,rfl,x_,hd2,hy1,rfl⟩;obtain⟨tb1,xb1,rfl⟩:=x_.iface;clear Bz h hv hu
  cases x1 with
  |var n=>
   have HC:=LK HS hP hK hI (II.op n rfl) (VL.v n rfl) x_ hy1 hd2.op
   cases WV
   have E:=And.intro II.eq hd2.eq;clear II hd2 x_;go_wp2_with fail;refine HC.mono ?_;intro e w3 wR;have HQ:=wR.of E.1 E.2;obtain⟨ok,rfl,-⟩:=wR;clear HC
   go_wp2
   go_ret;exact HQ
  |aM c L=>
  cases y1 with
  |var n=>
   have HC:=LK HS hP hK hI (hd2.op n rfl) (hy1.v n rfl) WV VL II.op;have key:∃p q,ND=260/\NE=Av #[p,q]:=by cases WV;exact⟨_,_,rfl,rfl⟩
   obtain⟨p,q,rfl,rfl⟩:=key
   cases x_
   have E:=And.intro II.eq hd2.eq;clear II hd2 WV;go_wp2_with fail;refine HC.mono ?_;intro e w3 wR;have HQ:=wR.swap.of E.1 E.2;obtain⟨ok,rfl,-⟩:=wR;clear HC
   go_wp2
   go_ret;exact HQ
  |aM d L2=>
   cases WV with
   |aM _ _ sa sc vs hc aE hr=>
   cases x_ with
   |aM _ _ sa2 sc2 vs2 hc2 yX Eu=>
   have hc:=hc.resolve_right VL.w.1;have hc2:=hc2.resolve_right hy1.w.1;have E:=And.intro II.eq hd2.eq;clear II hd2;go_wp2_with fail;go_cut[11,12]from 40 (λv1 v2 wc=>pX w2 #[Sv<|pn c,Lv sa L.length sc] #[Sv<|pn d,Lv sa2 L2.length sc2] v1 v2 wc)
   case first=>
    clear ihf ihs hr Eu aE yX;go_region
    all_goals(
     go_wp2_with fail
     go_meet
     case rel=>first|exact pX.a w2 _ _ _ _|exact pX.b w2 _ _ _ _)
   case rest=>
    obtain⟨p,q,rfl,rfl,zp,zq,X1,X2,KC⟩:=hcut;obtain⟨c1,f1,z1⟩:=X1;obtain⟨c2,f2,z2⟩:=X2;by_cases hcd:c=d
    .subst hcd;by_cases hlen:L.length=L2.length
     .have XP:((L.length:Int) !=(L2.length:Int))=false:=bi;have aoi:L.length<=48:=by have:=GQ L;have:=VL.z;simp only[size]at this;omega
      have HE:=ai hlen;have T1:=show Bx wc p #[Sv<|pn c,Lv sa L.length sc]from⟨c1,f1,z1⟩;have T2:=show Bx wc q #[Sv<|pn c,Lv sa2 L2.length sc2]from⟨c2,f2,z2⟩;clear hlen
      go_wp2
      go_loopg[61] L.length (λgk c1 wr=>ai0 P b V K R L L2 p q #[Sv<|pn c,Lv sa L.length sc] #[Sv<|pn c,Lv sa2 L2.length sc2] w2 gk c1 wr)
      case atStart=>exact⟨0,K,R,rk,ai ah,qe _,rfl,Fr.of KC,HS.af KC,hK,hI,by simpa using nW.nil R,ai<|j7 ⟨rfl,rfl⟩,T1,T2⟩
      case round=>
       clear T1 T2 c1 c2 f1 f2 z1 z2;obtain⟨j,K1,R1,rk1,bE,hj,rfl,Ce,S1',hK1,hI1,XY,hL1,T1,T2⟩:=hrel;have hlen:=uh HE;by_cases aI:j<L.length
       .have hd:(j:Int)<(L.length:Int):=ae;have hd':(j:Int)<(L2.length:Int):=ae;have Xm:j<L2.length:=ae;obtain⟨g1,rfl,hg1,gS,acK⟩:=aE.resolve_left<|λe=>qBs;obtain⟨g2,rfl,JM,gC,acL⟩:=yX.resolve_left (λe=>by subst e;simp at Xm);have nb:∀i,P i->i<w2.heap.size->¬i=b:=λi hi _ e=>hP<|e▸hi;have a1:=(qp (a:=⟨g1,j,none⟩)<|Ce.block g1 gS<|nb g1 hg1 gS).trans<|acK j aI;have a2:=(qp (a:=⟨g2,j,none⟩)<|Ce.block g2 gC<|nb g2 JM gC).trans<|acL j Xm;have t1:=(hr j aI).fr Ce nb;have t2:=(Eu j Xm).fr Ce nb;have ih:alN P b V K1 R1 rk1 L[j] L2[j]:=by
         have hs1:size (sub R L[j])<=ak (ba R L):=by
          have:=mj (ba R L) j (by rw[dW];exact aI)
          rwa[TX R L j aI]at this
         have BU:=Hs;rw[<-E.1]at BU;simp only[sub,size]at BU;obtain⟨rfl,rfl⟩|aZ:=uh hL1
         .exact ihs (size<|sub R1 L[j]) ae K1 R1 rk1 L[j] L2[j] Hf (br _)
         .exact ihf (opL V K1) (by have:=Hf;omega) (size<|sub R1 L[j]) K1 R1 rk1 L[j] L2[j] (br _) (br _)
        have HC:=λ(W:World)(hb:Bq wr W)=>ih W (vs j) (vs2 j) (S1'.af hb) hK1 hI1 (VL.at j aI) (hy1.at j Xm) (t1.af hb)<|t2.af hb;have⟨tu1,xu1,e1⟩:=t1.iface;have⟨tu2,xu2,e2⟩:=t2.iface;rw[e1]at a1 HC;rw[e2]at a2 HC;have WU:=ai T1;have T2':=ai T2;obtain⟨c1,f1,z1⟩:=T1;obtain⟨c2,f2,z2⟩:=T2;clear ih t1 t2 hK1 hI1 acK acL hlen;go_wp2_with fail;go_cut[61,76]from 61 to 77 (λc3 v3 wd=>c3=Nv j/\∃ok,v3=.bool (!ok)/\cH P b V K1 R1 L[j] L2[j] wr (Rv<|.bool ok) wd)
        case first=>
         clear ihf ihs hr Eu aE yX XY hL1 bE HS hK hI hx hy Hf Hs E KC;go_region_with(go_at_call 314;refine(HC _ (qu _ _).drew).mono ?_;intro e w3 wR;have HQ:=ai wR;obtain⟨ok,rfl,-⟩:=wR)
         all_goals(
          go_wp2_with fail
          go_meet
          case rel=>exact⟨rfl,ok,rfl,HQ.up (qu _ _).drew⟩)
        case rest=>
         obtain⟨rfl,ok,rfl,HQ⟩:=hcut;have F2:=HQ.fr;have ze:=HQ.fr.size;have zr:=Ce.size;have U1:=ai (WU.fr F2 (λe=>by have:=HS.lt;omega));have U2:=ai (T2'.fr F2 (λe=>by have:=HS.lt;omega));have HF:=Ce.trans F2;clear F2 c1 f1 z1 c2 f2 z2 a1 a2 HC
         cases ok with
         |false=>
          go_wp2
          go_ret;refine cH.of ⟨false,rfl,HF,λh=>by(cases h),λ_ σ=>?_⟩ E.1 E.2;obtain⟨ok,q1,_,_,q4⟩:=HQ;have q4:=q4 (by injection q1 with q1;injection q1 with q1;exact q1.symm);rw[LN L j aI,LN L2 j Xm];exact XY.no bi q4 c c σ
         |true=>
          go_wp2
          go_roundg(L.length-(j+1))
          case measure=>rw[uh bE];omega
          case rel=>
           obtain⟨ok,q1,_,q3,_⟩:=HQ;have⟨K2,R2,rk2,r1,r2,r3,r4,r5⟩:=q3 (by injection q1 with q1;injection q1 with q1;exact q1.symm);refine⟨j+1,K2,R2,rk2,ai rfl,ae,d_,HF,r1,r2,r3,?_,ai ?_,U1,U2⟩
           .rw[ji aI,ji Xm];exact XY.snoc bi r4
           .exact hL1.trans r5
       .have hd:decide ((j:Int)<(L.length:Int))=false:=bi;have ej:j=L.length:=ae;subst ej;clear hlen
        go_wp2
        go_ret;refine cH.of ⟨true,rfl,Ce,λ_=>⟨K1,R1,rk1,S1',hK1,hI1,?_,hL1⟩,λh=>by(cases h)⟩ E.1 E.2;have hm:=XY;rw[jf,uh HE,jf]at hm;exact hm.aM c
     .have XP:((L.length:Int) !=(L2.length:Int))=true:=bi
      go_wp2
      go_ret;refine cH.of ⟨false,rfl,Fr.of KC,λh=>by(cases h),λ_ σ=>VP hlen⟩ E.1 E.2
    .have cJ:pn c≠pn d:=λe=>hcd<|afs hc hc2 e;have XP:¬(pn c).toList=(pn d).toList:=λe=>cJ<|toList_inj e;clear cJ
     go_wp2
     go_ret;refine cH.of ⟨false,rfl,Fr.of KC,λh=>by(cases h),λ_ σ=>N7 hcd⟩ E.1 E.2
end
namespace Un
def dl.yw{t'}(h:dl t' t)(hw:Whole t):bN t'=bN t:=by grind[dl,Whole,bN,sz,nY]
def dl.D8 t(hw:Whole t):dl (bN t) t:=(dl.refl t).cut hw
def LO n:bN (.var n)=.var n:=by simp[bN,sz]
def AG(h:size t<=48)(hw:Whole t):bN t=t:=by grind[size,Whole,bN,nY]
def jJ(hw:Whole t){C}(h:(vars [] t).length<=C)(hC:48<=C):size (bN t)<=1+C:=VQ h hC λq=>N_ q
end Un
section
variable {rk:Nat->Nat}
def LQ t n(h:n∈occs t):aG n t:=by
 have:n∈vars [] t:=by rw[dH];exact(gA n _ _).2 (j6 h)
 simpa using(cE t [] n).1 this
def acM(K:Nat->Option Ty)(R:Nat->Ty)(D:Nat->Option Ty):=∀n t,D n=some t->t=bN (R n)/\K n≠none
structure Bc(K:Nat->Option Ty)(R:Nat->Ty):Prop where
 whole:∀n,Whole<|R n
 len:∀n,(vars []<|R n).length<=1000
 small:∀n t,K n=some t->size t<=48
theorem Bc.size(h:Bc K R)n:size (bN<|R n)<=1001:=by have:=jJ (h.whole n) (h.len n) aA;omega
def Xn(hK:tN K R rk)(hF:Bc K R)(e:K n=some t):bN (sub (λm=>bN<|R m) t)=bN (R n):=by
 have h:dl (sub (λm=>bN<|R m) t) (R n):=by
  rw[hK.shut n t e];exact(dl.refl t).sub λm _=>dl.D8 _<|hF.whole m
 exact h.yw<|hF.whole n
abbrev Xo(B:Nat->Prop)n wb x:=(B x\/n<=x)/\x≠wb
def Uj(b wb:Nat)K R B(D:Nat->Option Ty)n w(e:Ending)w':=
 ∃u D',e=.returned u/\dA w' (Xo B w.heap.size wb) (bN<|R n) u/\fK w' (Xo B w.heap.size wb) wb D'/\acM K R D'/\(∀m,D m≠none->D' m≠none)/\(K n≠none->D' n≠none)/\Fr (λi=>i=wb) w w'
structure GZ b wb K R(B:Nat->Prop)D(w:World):Prop where
 lt:∀x,B x->x<w.heap.size
 nw:¬B wb
 wl:wb<w.heap.size
 bb:B b
 s:fK w B b K
 d:fK w B wb D
 g:acM K R D
def acN b wb K R n:=∀(w:World)(B:Nat->Prop)(D:Nat->Option Ty),GZ b wb K R B D w->
 Cq 323 #[Mv b,Mv wb,Nv n] w (Uj b wb K R B D n w)
def alO b wb sx wx K R(B:Nat->Prop)(D:Nat->Option Ty)(_:List Nat)B1 M1 W:=
 (M1=λi=>i=wb)/\(∀x,B x->B1 x)/\B1 sx/\B1 wx/\Bx W sx #[Mv b]/\Bx W wx #[Mv wb]/\∃D1,GZ b wb K R B1 D1 W/\∀m,D m≠none->D1 m≠none
variable {b wb sx wx:Nat} {B:Nat->Prop}
def acO(IH:acN b wb K R n){B1}(h1:Bx W sx #[Mv b])(h2:Bx W wx #[Mv wb])(h:GZ b wb K R B1 D1 W):
 Cq 328 #[Nv n,Pv sx,Pv wx] W (Uj b wb K R B1 D1 n W):=by
 obtain⟨c1,f1,z1⟩:=h1;obtain⟨c2,f2,z2⟩:=h2;have HC:=IH W B1 D1 h;go_enter func328,ntmps328;go_wp2_with fail;refine HC.mono ?_;intro e w1 hp;have HP:=ai hp;obtain⟨u,D',rfl,hu,-⟩:=hp;obtain⟨ta,xa,rfl⟩:=hu.iface
 go_wp2
 go_ret;exact HP
def aft(IH:∀n,aG n t->acN b wb K R n)(hsw:sx≠wb/\wx≠wb):Img 328 #[] #[Pv sx,Pv wx] (λm=>bN<|R m) (λ_ n=>aG n t) (alO b wb sx wx K R B D) where
 eg:=enters_of Tryz.func328 qkr rfl
 pL acc B1 M1 w w' h hz hk:=by
  obtain⟨rfl,h1,h2,h3,h4,h5,D1,h6,h7⟩:=h;refine⟨rfl,h1,h2,h3,h4.same hz<|hk _<|j7 h2,h5.same hz<|hk _<|j7 h3,D1,⟨λx p=>qd (h6.lt x p) hz,h6.nw,qd h6.wl hz,h6.bb,?_,?_,h6.g⟩,h7⟩
  .exact h6.s.move hz (hk b<|j7 h6.bb) (λx p _=>hk x<|j7 p) (λ_ p _=>p)
  .exact h6.d.move hz (hk wb<|j6 rfl) (λx p _=>hk x<|j7 p) (λ_ p _=>p)
 lt acc B1 M1 w h:=by
  obtain⟨rfl,h1,h2,h3,h4,h5,D1,h6,h7⟩:=h;rintro x(p|rfl)
  .exact h6.lt x p
  .exact h6.wl
 call acc B1 M1 w n h hN:=by
  obtain⟨rfl,h1,h2,h3,h4,h5,D1,h6,h7⟩:=h;refine(acO (IH n hN) h4 h5 h6).mono ?_;rintro e w'⟨u,D',rfl,hu,hd,hg,hm,_,F⟩;have wl:=h6.wl;have hz:=F.size;refine⟨u,λx=>B1 x\/(w.heap.size<=x/\x<w'.heap.size),_,rfl,hu.wide λx p=>⟨p.2,p.1⟩,⟨rfl,λx p=>j7<|h1 x p,j7 h2,j7 h3,h4.fr F hsw.1,h5.fr F hsw.2,D',⟨?_,?_,ae,j7 h6.bb,?_,?_,hg⟩,λm q=>hm m<|h7 m q⟩,?_,λx q=>j7 q,F⟩
  .rintro x(p|p)
   .have:=h6.lt x p;omega
   .exact p.2
  .rintro(p|p)
   .exact h6.nw p
   .omega
  .exact(h6.s.fr F (λe=>h6.nw<|e▸h6.bb)<|λx p _ e=>h6.nw<|e▸p).wide λx p=>j7 p
  .refine hd.low.wide λx p=>?_;obtain q|q:=p.1.1
   .exact j7 q
   .omega
  .grind
def afu(hK:tN K R rk)(hF:Bc K R)n(IH:∀t,K n=some t->∀m,aG m t->acN b wb K R m):acN b wb K R n:=by
 intro w B D h;have kb:Bq w ((w.alloc<|Cv #[Mv b] 456).alloc<|Cv #[Mv wb] 407):=(bw _).alloc ah _;have x1:Bx ((w.alloc<|Cv #[Mv b] 456).alloc<|Cv #[Mv wb] 407) w.heap.size #[Mv b]:=(xm w _ _).below<|bw _;have x2:Bx ((w.alloc<|Cv #[Mv b] 456).alloc<|Cv #[Mv wb] 407) (w.heap.size+1) #[Mv wb]:=by
  have:=xm (w.alloc<|Cv #[Mv b] 456) #[Mv wb] 407;simpa using this
 have bl:=h.lt b h.bb;have wl:=h.wl;obtain⟨c1,f1,z1⟩:=x1;obtain⟨c2,f2,z2⟩:=x2;have KB:=ai kb;have HH:=ai h;obtain⟨t,u,E1,h1,hl⟩|⟨E1,hl⟩:=(h.d.af kb).look iA n
 .obtain⟨ta,xa,rfl⟩:=h1.iface;have H1:=ai h1;go_enter func323,ntmps323
  go_wp2
  go_ret;have h:=uh HH;have nw:∀x,B x->Xo B w.heap.size wb x:=λx p=>⟨j7 p,λe=>h.nw<|e▸p⟩;obtain⟨rfl,_⟩:=h.g n t E1;exact⟨_,D,rfl,H1.wide nw,(h.d.af KB).wide nw,h.g,λm q=>q,λ_=>by rw[E1];simp,Fr.of KB⟩
 .obtain⟨t,u,e2,h1,Hm⟩|⟨e2,Hm⟩:=(h.s.af kb).look oT n
  .have E2:=ai e2;have hI:alO b wb w.heap.size (w.heap.size+1) K R B D [] (λx=>B x\/x=w.heap.size\/x=w.heap.size+1) (λi=>i=wb) ((w.alloc<|Cv #[Mv b] 456).alloc<|Cv #[Mv wb] 407):=by
    refine⟨rfl,λx p=>j7 p,j6<|j7 rfl,j6<|j6 rfl,⟨c1,f1,z1⟩,⟨c2,f2,z2⟩,D,⟨?_,?_,ae,j7 h.bb,(h.s.af kb).wide λx p=>j7 p,(h.d.af kb).wide λx p=>j7 p,h.g⟩,λm q=>q⟩
    .rintro x(p|rfl|rfl)
     .have:=h.lt x p;omega
     .omega
     .omega
    .rintro(p|p|p)
     .exact h.nw p
     .omega
     .omega
   have anu:=hF.small n t e2;have HC:=GU (aft (IH t e2) ae) t [] _ _ _ u B hI (λi hi=>?_) ae h1<|λx p _ q=>h.nw<|q▸p
   case refine_1=>exact LQ t _<|jx hi
   have kX:size (sub (λm=>bN<|R m) t)<=1000000000000:=by
    have:=ir (λm=>bN<|R m) 1001 t (λm _=>hF.size m) aA;have:1001*size t<=1001*48:=Nat.mul_le_mul_left _ anu;omega
   have HCL:=Xn hK hF e2;obtain⟨ta,xa,rfl⟩:=h1.iface;go_enter func323,ntmps323;go_wp2_with fail;refine HC.mono ?_;rintro e w1⟨u1,B1,M1,rfl,x_,⟨rfl,q1,q2,q3,q4,q5,D1,q6,q7⟩,hB1,hM1,xW⟩;obtain⟨tu,xu,rfl⟩:=x_.iface;have HCu:=acC x_ kX;have Q:=And.intro q6<|And.intro q7 hB1;have zf:=xW.size;obtain⟨c3,f3,z3⟩:=q4;obtain⟨c4,f4,z4⟩:=q5;go_wp2_with fail;refine HCu.mono ?_;rintro e w2⟨u2,rfl,Ir,K2⟩;rw[HCL]at Ir;obtain⟨tu2,xu2,rfl⟩:=Ir.iface;obtain⟨q6,HM,hB1⟩:=Q;have z2':=K2.size;have c5:=(Bx.below (show Bx w1 (w.heap.size+1) #[Mv wb]from⟨c4,f4,z4⟩) K2).c
   have hB3:∀x,B1 x->Xo B w.heap.size wb x:=λx p=>⟨by
    obtain  (r|r|r)|r:=hB1 x p
    .exact j7 r
    .exact j6 ae
    .exact j6 ae
    .simp only[cM]at r;exact j6 ae,λe=>q6.nw<|e▸p⟩
   have S2:=(q6.d.af K2).wide hB3
   have U2:=ai (Ir.wide (Q:=Xo B w.heap.size wb) λx p=>by
    obtain⟨p1,(p2|p2|p2)|p2⟩|p:=p
    .exact⟨j7 p2,p1⟩
    .exact⟨j6 ae,p1⟩
    .exact⟨j6 ae,p1⟩
    .simp only[cM]at p2;exact⟨j6 ae,p1⟩
    .exact⟨j6 (by simp only[cM]at zf;omega),by simp only[cM]at zf;omega⟩)
   have HG:=ai q6.g;go_wp2_with(refine kR iA rfl _ _ _ (j6 rfl) rfl S2 (λq=>q.2 rfl) U2 n rfl rfl ?_;intro w4 H' O';have S4:=ai H';have O4:=ai O';clear H' O');go_ret;have o:=uh O4;refine⟨_,dZ D1 n<|some<|bN<|R n,rfl,U2.move qAg (λx p _=>o.block x p.2)<|λ_ p _=>p,S4,λm s hs=>?_,λm hm=>?_,λ_=>by simp[dZ],?_⟩
   .by_cases q:m=n
    .simp only[dZ,q,if_true,Option.some.injEq]at hs;subst q;exact⟨hs.symm,by rw[uh E2];simp⟩
    .simp only[dZ,q,if_false]at hs;exact HG m s hs
   .by_cases q:m=n
    .simp[dZ,q]
    .simp only[dZ,q,if_false];exact HM m hm
   .exact(((Fr.of KB).trans xW).low<|K2|>.mono (by have:=KB.size;omega)).trans ⟨o.os,o.tape,o.output,qAg,λk _ hk=>o.block k hk⟩
  .have E2:=ai e2;go_enter func323,ntmps323
   go_wp2
   go_ret;have h:=uh HH;have nw:∀x,B x->Xo B w.heap.size wb x:=λx p=>⟨j7 p,λe=>h.nw<|e▸p⟩;refine⟨_,D,rfl,?_,(h.d.af KB).wide nw,h.g,λm q=>q,λq=>absurd E2 q,Fr.of KB⟩;rw[hK.open_ n<|uh E2,LO];exact .var n
def LU(hK:tN K R rk)(hF:Bc K R):∀(s r n:Nat),size (R n)<=s->rk n<=r->acN b wb K R n:=by
 intro s
 induction s using j9 with
 |ind s ihs=>
  intro r
  induction r using j9 with
  |ind r ihr=>
   intro n h1 h2;refine afu hK hF n λt e m hm=>?_;have q:=hK.shut n t e
   cases t with
   |var u=>
    simp only[aG]at hm;subst hm;have:=hK.ZX n u e;refine ihr (rk u) ae u ?_<|br _;rw[q]at h1;simpa[sub]using h1
   |aM c l=>
    have h3:=lM R m l (by simpa[aG]using hm);have h4:=congrArg size q;simp only[sub,size]at h4;exact ihs (size<|R m) ae (rk m) m (br _)<|br _
end
end
section
open Un
def tC.up{T}{ns'}{w:World}{e}(h:tC kb fb cb mb ns T ns' w0 e w')(hb:Bq w w0):tC kb fb cb mb ns T ns' w e w':=by
 obtain⟨u,h1,h2,h3,h4⟩:=h;exact⟨u,h1,h2.wide λb p=>j8 hb.size p,h3,(Fr.of hb).trans h4⟩
section
variable {w:World}
def NS s n f t a:OfC (.mk 16 s n [] f t a):=by
 intro w kb fb cb mb ns Q v h hp hQ hn;have e:eJ ns (.mk 16 s n [] f t a)=(.var<|ix s (pK s ns)+1,pK s ns):=by simp[eJ]
 rw[e]at hn⊢;have H8:ns.length<=2000:=by have:=LW s ns;simp at hn;omega
 cases hp with
 |var s n f t a x y hq hx hy=>
 clear hx hy;have b8:Bq w (w.alloc<|Cv #[Iv x,Iv y,Sv<|s.extract 1 s.size] 257):=bw _;have HC:=I7 (h.af b8) s hq H8;go_enter func290,ntmps290;go_wp2_with fail;refine HC.mono ?_;rintro e w1⟨rfl,N1,F1⟩
 go_wp2
 go_ret;exact⟨_,rfl,.var _,N1,(Fr.of b8).trans F1⟩
def Uo{p:Prop}(h:p:=by
 go_enter func290,ntmps290;go_wp2_with fail;refine HC.mono ?_;intro e w1 hp;have UP:=hp.up b8;obtain⟨u,rfl,_⟩:=hp
 go_wp2
 go_ret
 exact UP):p:=h
def acT{k T}{cn}(hk:k=17/\T=297/\cn=pH\/k=6/\T=301/\cn=o6)s n x y f t a(hx:OfC x)(hy:OfC y):OfC (.mk k s n [x,y] f t a):=by
 intro w kb fb cb mb ns Q v h hp hQ hn;have e:eJ ns (.mk k s n [x,y] f t a)=(.aM cn (bC ns [x,y]).1,(bC ns [x,y]).2):=by obtain⟨rfl,rfl,rfl⟩|⟨rfl,rfl,rfl⟩:=hk<;>simp[eJ,w_]
 rw[e]at hn⊢;obtain⟨x1,y1,va,vb,ha,hb,rfl⟩:∃x1 y1 va vb,PT w Q x va/\PT w Q y vb/\v=Fv T (Av #[Iv x1,Iv y1,va,vb]):=by obtain⟨rfl,rfl,rfl⟩|⟨rfl,rfl,rfl⟩:=hk<;>(cases hp;exact⟨_,_,_,_,qas,qas,rfl⟩)
 obtain⟨ta,xa,rfl⟩:=ha.cG;obtain⟨tb,xb,rfl⟩:=hb.cG;have aZ:=h.lt;have b8:Bq w ((w.alloc<|Cv #[Iv x1,Iv y1,Fv ta<|Av xa,Fv tb<|Av xb] T).alloc<|Cv #[Fv ta<|Av xa,Fv tb<|Av xb] 165):=(bw _).alloc ah _;have BR:=(xm (w.alloc<|Cv #[Iv x1,Iv y1,Fv ta<|Av xa,Fv tb<|Av xb] T) #[Fv ta<|Av xa,Fv tb<|Av xb] 165);have kX:(w.alloc<|Cv #[Iv x1,Iv y1,Fv ta<|Av xa,Fv tb<|Av xb] T).heap.size=w.heap.size+1:=ah;rw[kX]at BR
 have HC:=ai (Lu (Q:=λb=>Q b\/b=w.heap.size+1) cn (by obtain⟨-,-,rfl⟩|⟨-,-,rfl⟩:=hk;exact j7 rfl;exact j6<|j7 rfl) [x,y] (some ⟨w.heap.size+1,0,none⟩) 2 (λi=>if i=0 then Fv ta (Av xa)else Fv tb (Av xb)) ah (h.af b8) (λb q=>by obtain q|q:=q;exact hQ b q;omega)
  (j6 ⟨w.heap.size+1,rfl,j6 rfl,ah,λi hi=>by
   have BL:i=0\/i=1:=qAk;rw[BR.c i]
   obtain rfl|rfl:=BL<;>rfl⟩)
  (λi hi=>by
   have BL:i=0\/i=1:=qAk;obtain rfl|rfl:=BL
   .exact(ha.af b8).wide λb p=>j7 p
   .exact(hb.af b8).wide λb p=>j7 p)
  (λi hi=>by
   have BL:i=0\/i=1:=qAk;obtain rfl|rfl:=BL
   .exact hx
   .exact hy) hn)
 obtain⟨rfl,rfl,rfl⟩|⟨rfl,rfl,rfl⟩:=hk;all_goals
  first|rw[kE]at HC|rw[kF]at HC
  exact Uo
def alQ s n L f t a(hl:L.length<=1001)(hL:∀i(h:i<L.length),OfC L[i]):OfC (.mk 2 s n L f t a):=by
 intro w kb fb cb mb ns Q v h hp hQ hn;have e:eJ ns (.mk 2 s n L f t a)=(.aM s (bC ns L).1,(bC ns L).2):=by simp[eJ,w_]
 rw[e]at hn⊢
 cases hp with
 |up s n L f t at_ x y x' y' sa sc vs hu aE hr hx hy=>
 clear hx hy;have b8:Bq w (w.alloc<|Cv #[Iv x,Iv y,Iv x',Iv y',Sv s,Lv sa L.length sc] 299):=bw _
 have HC:=ai (Lu (Q:=Q) s (j6<|j6 hu) L sa sc vs hl (h.af b8) hQ
  (aE.imp id λq=>by
   obtain⟨g,q1,q2,q3,q4⟩:=q
   exact⟨g,q1,q2,bi,λi hi=>(qp (a:=⟨g,i,none⟩)<|b8.block g q3).trans<|q4 i hi⟩)
  (λi hi=>(hr i hi).af b8) hL hn)
 rw[fG hu]at HC;clear aE hr;exact Uo
def akm nd(h:Ll nd):OfC nd:=by
 induction h with
 |var s n f t a=>exact NS s n f t a|two k s n x y f t a hk hx hy tL Bu=>
  obtain rfl|rfl:=hk
  .exact acT (j7 ⟨rfl,rfl,rfl⟩) s n x y f t a tL Bu
  .exact acT (j6 ⟨rfl,rfl,rfl⟩) s n x y f t a tL Bu
 |up s n L f t a hw hl hL ih=>exact alQ s n L f t a hl ih
end
mutual
def nz:Nd->Nat
 |.mk _ _ _ L _ _ _=>1+nzL L
def nzL:List Nd->Nat
 |[]=>0|x::l=>nz x+nzL l
end
section
variable {w:World}
def nH:∀(L:List Ty)(i:Nat)(h:i<L.length),ak (L.take<|i+1)=ak (L.take i)+size L[i]
 |[],i,h=>xA|x::l,0,h=>by simp[ak]|x::l,i+1,h=>by simp only[ja,ak,jh];rw[nH l i xB];omega
def kZ:∀(L:List Ty)(i:Nat),ak (L.take i)<=ak L
 |[],i=>ah|x::l,0=>by simp[ak]|x::l,i+1=>by simp only[ja,ak];have:=kZ l i;omega
def tU:∀(L:List Ty),L.length<=ak L
 |[]=>ah|x::l=>by
  have h1:=tU l;have h2:1<=size x:=by cases x<;>simp[size]
  simp only[ak,de];omega
@[simp] theorem agR a b w:(qv (.iface 260<|.agg #[a,b]) 98 260 true).run qn w=.ok (.tuple #[.agg #[a,b],.bool true]) w:=qkr
end
section
variable {w:World}
def EH:Cq 47 #[] w λe w'=>e=.returned (.func (.func 86) #[] #[Pv w.heap.size])/\w'=w.alloc (.cells #[Iv 0] 3):=by
 go_enter func47,ntmps47
 go_wp2
 go_ret;exact⟨rfl,rfl⟩
def adX cb(hB:Bx w cb #[Iv 0]):Cq 289 #[.func (.func 86) #[] #[Pv cb]] w λe w'=>∃kb fb mb,e=.returned (nmV kb fb)/\NM w' kb fb cb mb []/\Bq w w'/\w.heap.size<=mb:=by
 have g_:= @run_makeMap Tryz.prog;have z:=hB.z;have HB:=ai hB;go_enter func289,ntmps289
 go_wp2
 go_ret;have b8:=(((qu w.heap.size w).alloc (br _)<|Cv #[.func (.func 86) #[] #[Pv cb]] 146).alloc ah<|.map #[] 0).alloc bi<|Cv #[Mv<|w.heap.size+1] 449;refine⟨w.heap.size+1+1,w.heap.size,w.heap.size+1,rfl,⟨?_,?_,?_,?_,ah,ah,ae⟩,b8,ae⟩
 .have:=xm ((w.alloc<|Cv #[.func (.func 86) #[] #[Pv cb]] 146).alloc<|.map #[] 0) #[Mv<|w.heap.size+1] 449;simpa using this
 .exact((xm w _ _).alloc _).alloc _
 .exact((HB.alloc _).alloc _).alloc _
 .have:=(MS.new Sv<|w.alloc<|Cv #[.func (.func 86) #[] #[Pv cb]] 146).below<|bw<|Cv #[Mv<|w.heap.size+1] 449;simpa[nmF]using this
end
end
end Go.Proofs.YtopmodaakdnliaaGreatDoor

import Derived.Laws.AppendOwnNone
import Derived.Shelf.SlMaps.Clone
import Derived.Test.YtfnkchdeheeiiaaGreatDoorQPf
import Derived.Test.YtfnkchdeheeiiaaGreatDoorQWj
import Derived.Test.YtfnkchdeheeiiaaGreatDoorQTo
set_option linter.all false
set_option maxRecDepth 100000
set_option maxHeartbeats 4000000
namespace Go.Proofs.YtfnkchdeheeiiaaGreatDoor
open _root_.List renaming getElem?_eq_getElem->ja,map_cons->jc,take_succ_cons->jd,take_length->jf,getElem_cons_succ->jh,take_succ_eq_append_getElem->ji,mem_cons_of_mem->jj,eq_nil_of_length_eq_zero->jk,append_assoc->jl,mem_cons->jm,nodup_cons->jo,mem_map_of_mem->jp,foldl_append->jq,getD_eq_getElem?_getD->jt,nodup_append->ju,getElem_mem->jv,map_append->jx,length_map->jy,foldl_cons->jz,map_nil->j5
open Or renaming inr->j6,inl->j7
open _root_.Nat renaming le_trans->j8,zero_le->j9,strongRecOn->qe,lt_of_lt_of_le->qf,mul_le_mul->qg
open Go.Proofs.Tryz renaming prog->qh,underlying98->qi,underlying171->qk
open Go.Instr renaming typeAssert->ql,lookup->qm,mapUpdate->qn,next->qp
open _root_.Array renaming replicate->qr,getElem?_setIfInBounds_ne->qs,getD_eq_getD_getElem?->qt,getElem?_eq_getElem->qu,getElem?_setIfInBounds->qv,toList_modify->qw
open Go.World renaming cell?_of_block->qx,ownsRow_nil->qy
open Go.RowKit.Below renaming heap_setCell->qz,refl->q9
open Go.Value renaming string->xc,iface->xd,int->xf,slice->xg
open Un renaming seen->xh
open Go.MapKept renaming heap_alloc->xi,run_setObj_map->xj
open Bx renaming new->xk
open Go.Result renaming andThen->xm
open Classical renaming propDecidable->xn
open _root_.ByteArray renaming toList->xo
open Go Go.RowKit Go.ChangeMaps Proofs.Tryz
variable {ops:Array Oper} {cs:Array Value} {c cn s:BA} {L:List (Int×Value)} {ns:List BA} {V acc l l':List Nat} {N:List Nat->Nat->Prop} {rest:List Oper} {xs:List Value} {base by_ cb fb g gb k kb mb n r:Nat} {D D1 K:Nat->Option Un.Ty} {P Q S:Nat->Prop} {R:Nat->Un.Ty} {nd:Nd} {o:Oper} {κ:Type} {e:TypeId} {i:TypeInfo} {T t x y:Un.Ty} {u z:Value} {W w' w0:World}
section
open Un
def tl(s:BA):BA:=s.extract 1 s.size
def QM(s:BA):=∃r,s.toList=39::r
def yj{r}(h:s.toList=39::r):(tl s).toList=r:=by
 rw[tl];rw[ByteArray.toList_eq]at h⊢;rw[ByteArray.data_extract];simp;rw[h];have:s.size=(39::r).length:=by rw[<-h];simp
 rw[this];simp
def ZR{t}(hs:QM s)(ht:QM t)(h:tl s=tl t):s=t:=by
 obtain⟨r,hr⟩:=hs;obtain⟨q,hq⟩:=ht;have:r=q:=by rw[<-yj hr,<-yj hq,h]
 exact toList_inj (by rw[hr,hq,this])
def ZS:Nat->List BA->List (BA×Value)
 |_,[]=>[]|i,a::l=>(tl a,Iv<|(i:Int)+1)::ZS (i+1) l
def JD(s:BA):∀l i,ZS i (l++[s])=ZS i l++[(tl s,Iv<|((i+l.length:Nat):Int)+1)]
 |[],i=>by simp[ZS]|a::l,i=>by
  simp only[List.cons_append,ZS,JD s l<|i+1];simp;omega
def ZT{s:BA}(hs:QM s):∀l i,(∀a∈l,QM a)->s∈l->aZ (tl s) (ZS i l)=some (Iv<|((i+ix s l:Nat):Int)+1)
 |[],i,_,h=>vR|a::l,i,h,hm=>by
  rw[ZS,aZ];by_cases e:tl a=tl s
  .have:a=s:=ZR (h a ag) hs e;subst this;simp[ix]
  .have df:¬s=a:=λq=>e (by rw[q]);have hx:ix s (a::l)=ix s l+1:=by
    show(if a.toList=s.toList then 0 else ix s l+1)=_;rw[if_neg<|λq=>df (toList_inj q).symm]
   rw[if_neg e,ZT hs l (i+1) (λb hb=>h b<|jj _ hb)<|(List.mem_cons.1 hm).resolve_left df,hx];congr 2;omega
def QN{s:BA}(hs:QM s):∀l i,(∀a∈l,QM a)->¬s∈l->aZ (tl s) (ZS i l)=none
 |[],i,_,_=>rfl|a::l,i,h,hm=>by
  rw[ZS,aZ];have e:¬tl a=tl s:=λq=>hm<|List.mem_cons.2<|j7 (ZR (h a ag) hs q).symm;rw[if_neg e];exact QN hs l (i+1) (λb hb=>h b<|jj _ hb)<|λq=>hm<|jj _ q
structure NM w kb fb cb mb(ns:List BA):Prop where
 bk:Bx w kb #[Mv mb]
 bf:Bx w fb #[.func (.func 47) #[] #[Pv cb]]
 bc:Bx w cb #[Nv ns.length]
 mp:MS xc w mb (ZS 0 ns)
 qo:∀a∈ns,QM a
 nd:ns.Nodup
 d1:cb≠kb/\cb≠fb/\cb≠mb/\mb≠kb/\mb≠fb
abbrev nmV(kb fb:Nat):Value:=.func (.func 46) #[] #[Pv kb,Pv fb]
def Two cb mb(b:Nat):=b=cb\/b=mb
def NM.fr{S}{w w'}{kb fb cb mb}{ns}(h:NM w kb fb cb mb ns)(hf:Fr S w w')(hS:∀b,S b->b≠kb/\b≠fb/\b≠cb/\b≠mb):NM w' kb fb cb mb ns:=
 ⟨h.bk.fr hf<|λq=>(hS _ q).1 rfl,h.bf.fr hf<|λq=>(hS _ q).2.1 rfl,h.bc.fr hf<|λq=>(hS _ q).2.2.1 rfl,h.mp.same<|hf.block mb h.mp.lt<|λq=>(hS _ q).2.2.2 rfl,h.qo,h.nd,h.d1⟩
def NM.af{w:World}(h:NM w kb fb cb mb ns)(hb:Bq w w'):NM w' kb fb cb mb ns:=h.fr (S:=λ_=>False) (Fr.of hb)<|λ_ q=>q.elim
def NM.set{w}{kb fb cb mb}{ns}(h:NM w kb fb cb mb ns){b}(hb:b≠kb/\b≠fb/\b≠cb/\b≠mb)j v:NM (w.setCell ⟨b,j,none⟩ v) kb fb cb mb ns:=
 h.fr (S:=λx=>x=b) ((Fr.refl (λx=>x=b) w).set (j7 rfl) j v) (λx q=>by subst q;exact hb)
section
variable {w:World}
def adu w:(zeroValue 98).run qh w=.ok (Iv 0) w:=qkr
def NJ n(hn:n<=1000)(h:Bx w cb #[Nv n]):Cq 47 #[Pv cb] w λe w'=>e=.returned (Iv<|(n:Int)+1)/\w'=w.setCell ⟨cb,0,none⟩ (Iv<|(n:Int)+1):=by
 obtain⟨c,f,z⟩:=h;go_enter func47,ntmps47
 go_wp2
 go_ret;exact⟨rfl,rfl⟩
def NK kb fb cb mb ns s w(e:Ending)w':=
 e=.returned (.iface 98<|Iv<|(ix s (qP s ns):Int)+1)/\NM w' kb fb cb mb (qP s ns)/\Fr (Two cb mb) w w'
def JF(h:NM w kb fb cb mb ns)s(hs:QM s)(hn:ns.length<=1000):Cq 46 #[.string<|tl s,Pv kb,Pv fb] w (NK kb fb cb mb ns s w):=by
 have hl:=h.mp.look (KL.str Tryz.underlying9) Tryz.underlying97 (adu w) (tl s) trivial (λ_ _=>trivial) true;have⟨c,f,z⟩:=h.bk;have⟨cf,ff,zf⟩:=h.bf;by_cases hm:s∈ns
 .rw[ZT hs ns 0 h.qo hm]at hl;simp at hl;go_enter func46,ntmps46
  go_wp2
  go_ret;rw[NK];rw[Px hm];exact⟨rfl,h,Fr.refl _ _⟩
 .have hg:=QN hs ns 0 h.qo hm;rw[hg]at hl;simp at hl;have hd:=h.d1;have qT:=c 0;have HM:=h.mp.uI hd.2.2.1.symm 0<|Iv<|(ns.length:Int)+1;have BK:=ai<|h.bk.bV hd.1.symm 0<|Iv<|(ns.length:Int)+1;have BF:=ai<|h.bf.bV hd.2.1.symm 0<|Iv<|(ns.length:Int)+1;have BC:=h.bc.aP 0 (Iv<|(ns.length:Int)+1) #[Iv<|(ns.length:Int)+1] rfl ag;have F1:=(Fr.refl (Two cb mb) w).set (b:=cb) (Or.inl<|Or.inl rfl) 0<|Iv<|(ns.length:Int)+1;have⟨c1,f1,z1⟩:=uh BK;go_enter func46,ntmps46;go_wp2_with(first|(go_at_call 47;refine(NJ ns.length ae h.bc).mono ?_;rintro e w'⟨rfl,rfl⟩)|(refine aV _ rfl _ _ _ _ (Or.inr rfl) (KL.str Tryz.underlying9) Tryz.underlying97 _ _ rfl HM (tl s) (Iv<|(ns.length:Int)+1) rfl rfl trivial (λ_ _=>trivial) ?_;intro w' H' O';have C5:=ai H';have O2:=ai O';clear H' O'));go_ret;have e1:=ZU hm;have e2:=QO hm;rw[NK];rw[e1,e2];have O:=uh O2;refine⟨rfl,⟨BK.one O hd.2.2.2.1.symm,BF.one O hd.2.2.2.2.symm,?_,?_,?_,?_,hd⟩,?_⟩
  .have:=BC.one O hd.2.2.1;simpa using this
  .have:=uh C5;rw[oS _ _ _ hg]at this;rw[JD];simpa using this
  .intro a ha;obtain q|q:=List.mem_append.1 ha
   .exact h.qo a q
   .simp at q;subst q;exact hs
  .rw[ju];refine⟨h.nd,ag,λa ha b hb=>?_⟩;simp at hb;subst hb;intro e;subst e;exact hm ha
  .have f1:=F1;exact⟨O.os.trans f1.os,O.tape.trans f1.tape,O.output.trans f1.output,by rw[O.size];exact f1.size,λk hk hn=>(O.block k<|λe=>hn<|j6 e).trans<|f1.block k hk hn⟩
end
def pn(c:BA):BA:=if c.toList=[62]then⟨#[45,62]⟩else c
def CN c:=c=qJ\/c=nO\/nY c
def kT:pn qJ=⟨#[45,62]⟩:=by simp_all[pn]
def kU:pn nO=⟨#[44]⟩:=by simp_all[pn]
def dd(h:nY c)x r(hx:Pu.Ei x.toNat=false):c.toList≠x::r:=by grind[nY]
def eS(h:nY c):pn c=c:=by rw[pn];rw[if_neg<|dd h 62 [] aH]
inductive dW(w:World)(P:Nat->Prop):Ty->Value->Prop where
 |var(n:Nat):dW w P (.var n) (.iface 98<|Nv n)
 |aK(c:BA)(L:List Ty)(sa:Option Addr)(sc:Nat)(vs:Nat->Value)(hc:CN c)(aN:L=[]\/∃g,sa=some ⟨g,0,none⟩/\P g/\g<w.heap.size/\∀i,i<L.length->w.cell? ⟨g,i,none⟩=some (vs i))(hr:∀i(h:i<L.length),dW w P L[i]<|vs i):
  dW w P (.aK c L) (.iface 169<|.agg #[.string<|pn c,.slice sa L.length sc])
def QP{p:Prop}(h:p:=by
 induction h with
 |var n=>exact .var n|aK c L sa sc vs hc aN hr ih=>
  refine .aK c L sa sc vs hc ?_ ih;obtain h0|⟨g,h1,hP,hz,hc⟩:=aN
  .exact j7 h0
  .refine j6 ⟨g,h1,hq g hP hz,qf hz hs,λi hi=>?_⟩;rw[qx (a:=⟨g,i,none⟩) (w:=w)<|hb g hP hz]
   exact hc i hi):p:=h
theorem dW.move{w:World}{v:Value}(h:dW w P t v)(hs:w.heap.size<=w'.heap.size)(hb:∀b,P b->b<w.heap.size->w'.heap[b]? =w.heap[b]?)(hq:∀b,P b->b<w.heap.size->Q b):dW w' Q t v:=by
 exact QP
def dW.af{w:World}{v:Value}(h:dW w P t v)(hb:Bq w w'):dW w' P t v:=h.move hb.size (λb _ hz=>hb.block b hz)<|λ_ p _=>p
def dW.wide{w:World}{v:Value}(h:dW w P t v)(hq:∀b,P b->Q b):dW w Q t v:=h.move (br _) (λ_ _ _=>rfl)<|λb p _=>hq b p
def dW.fr{w:World}{v:Value}(h:dW w P t v)(hf:Fr S w w')(hS:∀b,P b->b<w.heap.size->¬S b):dW w' P t v:=h.move hf.size (λb p z=>hf.block b z<|hS b p z)<|λ_ p _=>p
def dW.low{w:World}{v:Value}(h:dW w P t v):dW w (λb=>P b/\b<w.heap.size) t v:=h.move (br _) (λ_ _ _=>rfl)<|λ_ p z=>⟨p,z⟩
def dW.iface{w:World}{v:Value}(h:dW w P t v):∃a x,v=.iface a x:=by
 cases h<;>exact⟨_,_,rfl⟩
def PT.fr{w:World}{v:Value}(h:PT w P nd v)(hf:Fr S w w')(hS:∀b,P b->b<w.heap.size->¬S b):PT w' P nd v:=h.move hf.size (λb p z=>hf.block b z<|hS b p z)<|λ_ p _=>p
def PT.bQ{w:World}{a}{v:Value}(h:PT w P a v):∃t x,v=.iface t (.agg x):=by
 cases h<;>exact⟨_,_,rfl⟩
def Ad z n:madeCells #[z] n=qr n z:=by
 rw[madeCells];apply Array.ext
 .simp
 .grind
def QR{p:Prop}(h:p:=by
 rw[run_make w t e i z ht hi hz .i64 .i64 n n ae (Int.le_refl _) hb ae,hzc,h1]
 simp[Ad]):p:=h
def JH{p:Prop}(h:p:=by
 have h3:((by_*n:Nat):Int)<=281474976710656:=ae
 rwa[Int.natCast_mul]at h3):p:=h
def jZ{P}{t}(ht:P.underlying t=some (.slice e))(hi:P.info? e=some i)(hz:i.zero=some z)(hzc:z.cells=#[z])(h1:i.size=1)(h2:i.bytes=by_)(hby:by_<=16)n(hn:n<=1001)w:
 (Instr.makeSlice t (Nv n)<|Nv n).run P w=.ok (.slice (some ⟨w.heap.size,0,none⟩) n n) (w.alloc<|.cells (qr n z) e):=by
 have hb:(i.bytes:Int)*(n:Int)<=281474976710656:=by
  rw[h2];have:by_*n<=16*1001:=qg hby hn;exact JH
 exact QR
def gw:(Tryz.prog.info? 67).map (λi=>(i.zero,i.size,i.bytes))=some (some .nilIface,1,16):=qkr
def eF:Tryz.prog.underlying 167=some (.slice 67):=qkr
def tF kb fb cb mb(ns:List BA)T ns' w(e:Ending)w':=
 ∃u,e=.returned u/\dW w' (λb=>w.heap.size<=b) T u/\NM w' kb fb cb mb ns'/\Fr (Two cb mb) w w'
def OfC nd:=∀(w:World)(kb fb cb mb:Nat)(ns:List BA)(Q:Nat->Prop)(v:Value),NM w kb fb cb mb ns->PT w Q nd v->(∀b,Q b->b≠cb/\b≠mb)->(bt ns nd).2.length<=1000->
 Cq 44 #[v,nmV kb fb] w (tF kb fb cb mb ns (bt ns nd).1 (bt ns nd).2 w)
def NM.lt{w}{kb fb cb mb}{ns}(h:NM w kb fb cb mb ns):kb<w.heap.size/\fb<w.heap.size/\cb<w.heap.size/\mb<w.heap.size:=⟨h.bk.z,h.bf.z,h.bc.z,h.mp.lt⟩
def JI ns:∀(L:List Nd)(i:Nat)(h:i<L.length),(aF ns<|L.take<|i+1).1=(aF ns<|L.take i).1++[(bt (aF ns<|L.take i).2 L[i]).1]/\(aF ns<|L.take<|i+1).2=(bt (aF ns<|L.take i).2 L[i]).2:=by
 intro L
 induction L generalizing ns with
 |nil=>intro i h;simp at h|cons x l ih=>
  intro i h
  cases i with
  |zero=>simp[aF]|succ i=>
   have:=ih (bt ns x).2 i G_;simp only[jd,aF,this,jh];simp
def adv kb fb cb mb ns(L:List Nd)w gk v wr:=
 ∃(j:Nat)(C:Array Value),Hid (gk=L.length-j)/\j<=L.length/\v=Nv j/\NM wr kb fb cb mb (aF ns<|L.take j).2/\Fr (Two cb mb) w wr/\Bx wr w.heap.size C/\Hid (C.size=L.length)/\
  Hid (∀i(h:i<(aF ns<|L.take j).1.length),∃u,C[i]? =some u/\dW wr (λb=>w.heap.size<b/\b<wr.heap.size) (aF ns<|L.take j).1[i] u)
section
variable {w:World}
def Ae ns:∀(L:List Nd),(aF ns L).1.length=L.length:=by
 intro L
 induction L generalizing ns with
 |nil=>rfl|cons x l ih=>simp[aF,ih]
def B7 ns L i:(aF ns<|L.take i).2.length<=(aF ns L).2.length:=by
 induction L generalizing ns i with
 |nil=>simp|cons x l ih=>
  cases i with
  |zero=>simp only[List.take_zero];exact uS (x::l) ns|succ i=>simp only[jd,aF];exact ih _ i
def yk{p:Prop}(h:p:=by
 obtain h0|h0:=aN
 .subst h0;simp at bq
 .exact h0):p:=h
def JK c(Fb:CN c)L sa sc(vs:Nat->Value)(hL:L.length<=1001)(h:NM w kb fb cb mb ns)(hQ:∀b,Q b->b≠cb/\b≠mb)(aN:L=[]\/∃g,sa=some ⟨g,0,none⟩/\Q g/\g<w.heap.size/\∀i,i<L.length->w.cell? ⟨g,i,none⟩=some (vs i))(hr:∀i(h:i<L.length),PT w Q L[i]<|vs i)(IH:∀i(h:i<L.length),OfC L[i])(hn:(aF ns L).2.length<=1000):
 Cq 71 #[.string<|pn c,nmV kb fb,.slice sa L.length sc] w (tF kb fb cb mb ns (.aK c (aF ns L).1) (aF ns L).2 w):=by
 obtain⟨i0,yi,oh,m7,i_⟩:=info_parts gw;have WZ:=jZ (by_:=16) eF yi oh rfl m7 i_ aH L.length hL;have bz:=h.lt;go_enter func71,ntmps71
 go_wp2
 go_loopg[15] L.length (λgk v wr=>adv kb fb cb mb ns L w gk v wr)
 case atStart=>
  refine⟨0,qr L.length .nilIface,ai ag,j9 _,rfl,?_,Fr.of<|bw _,xk w _ _,ai ag,ai<|λi hi=>absurd hi<|by simp[aF]⟩;simpa[aF]using h.af (bw _)
 case round=>
  obtain⟨j,C,dv,hj,rfl,N1,F1,B1,hC,hT⟩:=hrel;have zw:=F1.size;have n1:=N1.lt;by_cases bq:j<L.length
  .have hd:(j:Int)<(L.length:Int):=ae;obtain⟨g,rfl,hg,lh,b8⟩:∃g,sa=some ⟨g,0,none⟩/\Q g/\g<w.heap.size/\∀i,i<L.length->w.cell? ⟨g,i,none⟩=some (vs i):=by
    exact yk
   have hQg:=hQ g hg;have cg:wr.cell? ⟨g,j,none⟩=some (vs j):=by
    rw[qx (a:=⟨g,j,none⟩) (w:=w)<|F1.block g lh (λq=>by obtain q|q:=q;exact hQg.1 q;exact hQg.2 q)];exact b8 j bq
   have PJ:=(hr j bq).fr F1 (λb p _ q=>by obtain q|q:=q;exact(hQ b p).1 q;exact(hQ b p).2 q);obtain⟨tv,xv,hv⟩:=PJ.bQ;obtain⟨mt1,mt2⟩:=JI ns L j bq;have hnj:(bt (aF ns<|L.take j).2 L[j]).2.length<=1000:=by rw[<-mt2];exact j8 (B7 ns L<|j+1) hn
   have HC:=IH j bq wr kb fb cb mb _ Q (vs j) N1 PJ hQ hnj;rw[hv]at cg HC;go_wp2_with fail;refine HC.mono ?_;rintro e w1⟨u,rfl,HU,PK,HF⟩;obtain⟨tu,xu,rfl⟩:=HU.iface;have hpb:¬Two cb mb w.heap.size:=λq=>by obtain q|q:=q<;>omega
   have B2:=B1.fr HF hpb;have wH:j<C.size:=qBh;have cj:=(B2.c j).trans<|qu wH;have fj:=B2.f j;have B3:=B2.aP j (.iface tu xu) (C.setIfInBounds j<|.iface tu xu) rfl wH;have Bi:=F1.trans HF;have z2:=HF.size
   go_wp2
   go_roundg(L.length-(j+1))
   case measure=>rw[uh dv];omega
   case rel=>
    have NN:(aF ns<|L.take j).1.length=j:=by rw[Ae];simp;omega
    refine⟨j+1,C.setIfInBounds j<|.iface tu xu,ai rfl,ae,jT,?_,?_,B3,ai (by simp;exact hC),ai<|λi hi=>?_⟩
    .rw[mt2];exact PK.set ae j _
    .exact Bi.set (j6<|br _) j _
    .have jU:∀b,w.heap.size<b->b<w1.heap.size->(w1.setCell ⟨w.heap.size,j,none⟩<|.iface tu xu).heap[b]? =w1.heap[b]? :=λb hb _=>qz _ _ _ _ (by show b≠w.heap.size;omega);have hss:(w1.setCell ⟨w.heap.size,j,none⟩<|.iface tu xu).heap.size=w1.heap.size:=C9;have oj:i<j+1:=by rw[mt1]at hi;simp[NN]at hi;omega
     by_cases e:i=j
     .subst e;refine⟨.iface tu xu,by simp[wH],?_⟩;have e1:(aF ns<|L.take<|i+1).1[i]'hi=(bt (aF ns<|L.take i).2 L[i]).1:=by
       have:(aF ns<|L.take<|i+1).1[i]? =some (bt (aF ns<|L.take i).2 L[i]).1:=by rw[mt1,List.getElem?_append_right ae];simp[NN]
       rw[ja hi]at this;exact Option.some.inj this
      rw[e1];refine HU.low.move ae (λb p z=>jU b (by have:wr.heap.size<=b:=p.1;have:=B1.z;omega) z) (λb p z=>⟨by have:wr.heap.size<=b:=p.1;have:=B1.z;omega,ae⟩)
     .have rS:i<(aF ns<|L.take j).1.length:=ae;obtain⟨u',wI,wJ⟩:=uh hT i rS;have e1:(aF ns<|L.take<|j+1).1[i]'hi=(aF ns<|L.take j).1[i]'rS:=by
       have:(aF ns<|L.take<|j+1).1[i]? =some ((aF ns<|L.take j).1[i]'rS):=by rw[mt1,List.getElem?_append_left rS,ja rS]
       rw[ja hi]at this;exact Option.some.inj this
      refine⟨u',by rw[qs ae];exact wI,?_⟩;rw[e1];have h3:=wJ.fr HF (λb p _ q=>by obtain q|q:=q<;>omega);exact h3.move ae (λb p z=>jU b p.1 z)<|λb p z=>⟨p.1,ae⟩
  .have hd:decide ((j:Int)<(L.length:Int))=false:=bP;have ej:j=L.length:=ae;subst ej
   go_wp2
   go_ret;refine⟨_,rfl,?_,?_,F1⟩
   .have ht:L.take L.length=L:=jf;rw[ht]at hT;have Y8:=Ae ns L;rw[<-Y8];refine .aK c _ _ _ (λi=>C.getD i .nilIface) Fb (j6 ⟨w.heap.size,rfl,br _,B1.z,λi hi=>?_⟩)<|λi hi=>?_
    .obtain⟨u,hu,_⟩:=uh hT i hi;rw[B1.c i,hu];simp[qt,hu]
    .obtain⟨u,hu,TB⟩:=uh hT i hi;have:C.getD i .nilIface=u:=qBm;rw[this];exact TB.wide λb p=>qAu
   .rw[jf]at N1;exact N1
end
@[simp] theorem ami a0 a1 a2 w:(ql (.iface 159<|.agg #[a0,a1,a2]) 92 159 true).run qh w=.ok (.tuple #[.agg #[a0,a1,a2],.bool true]) w:=qkr
@[simp] theorem amj a0 a1 a2 w:(ql (.iface 159<|.agg #[a0,a1,a2]) 92 161 true).run qh w=.ok (.tuple #[.agg #[Iv 0,Iv 0,.nilIface,.nilIface],.bool false]) w:=qkr
@[simp] theorem amk a0 a1 a2 w:(ql (.iface 159<|.agg #[a0,a1,a2]) 92 166 true).run qh w=.ok (.tuple #[.agg #[Iv 0,Iv 0,Iv 0,Iv 0,.string ⟨#[]⟩,.slice none 0 0],.bool false]) w:=qkr
@[simp] theorem aml a0 a1 a2 a3 w:(ql (.iface 161<|.agg #[a0,a1,a2,a3]) 92 159 true).run qh w=.ok (.tuple #[.agg #[Iv 0,Iv 0,.string ⟨#[]⟩],.bool false]) w:=qkr
@[simp] theorem amm a0 a1 a2 a3 w:(ql (.iface 161<|.agg #[a0,a1,a2,a3]) 92 161 true).run qh w=.ok (.tuple #[.agg #[a0,a1,a2,a3],.bool true]) w:=qkr
@[simp] theorem amn a0 a1 a2 a3 w:(ql (.iface 161<|.agg #[a0,a1,a2,a3]) 92 163 true).run qh w=.ok (.tuple #[.agg #[Iv 0,Iv 0,.nilIface,.nilIface],.bool false]) w:=qkr
@[simp] theorem amo a0 a1 a2 a3 w:(ql (.iface 161<|.agg #[a0,a1,a2,a3]) 92 166 true).run qh w=.ok (.tuple #[.agg #[Iv 0,Iv 0,Iv 0,Iv 0,.string ⟨#[]⟩,.slice none 0 0],.bool false]) w:=qkr
@[simp] theorem amp a0 a1 a2 a3 w:(ql (.iface 163<|.agg #[a0,a1,a2,a3]) 92 159 true).run qh w=.ok (.tuple #[.agg #[Iv 0,Iv 0,.string ⟨#[]⟩],.bool false]) w:=qkr
@[simp] theorem amq a0 a1 a2 a3 w:(ql (.iface 163<|.agg #[a0,a1,a2,a3]) 92 161 true).run qh w=.ok (.tuple #[.agg #[Iv 0,Iv 0,.nilIface,.nilIface],.bool false]) w:=qkr
@[simp] theorem amr a0 a1 a2 a3 w:(ql (.iface 163<|.agg #[a0,a1,a2,a3]) 92 163 true).run qh w=.ok (.tuple #[.agg #[a0,a1,a2,a3],.bool true]) w:=qkr
@[simp] theorem ams a0 a1 a2 a3 w:(ql (.iface 163<|.agg #[a0,a1,a2,a3]) 92 166 true).run qh w=.ok (.tuple #[.agg #[Iv 0,Iv 0,Iv 0,Iv 0,.string ⟨#[]⟩,.slice none 0 0],.bool false]) w:=qkr
@[simp] theorem amt a0 a1 a2 a3 a4 a5 w:(ql (.iface 166<|.agg #[a0,a1,a2,a3,a4,a5]) 92 159 true).run qh w=.ok (.tuple #[.agg #[Iv 0,Iv 0,.string ⟨#[]⟩],.bool false]) w:=qkr
@[simp] theorem amu a0 a1 a2 a3 a4 a5 w:(ql (.iface 166<|.agg #[a0,a1,a2,a3,a4,a5]) 92 161 true).run qh w=.ok (.tuple #[.agg #[Iv 0,Iv 0,.nilIface,.nilIface],.bool false]) w:=qkr
@[simp] theorem amv a0 a1 a2 a3 a4 a5 w:(ql (.iface 166<|.agg #[a0,a1,a2,a3,a4,a5]) 92 163 true).run qh w=.ok (.tuple #[.agg #[Iv 0,Iv 0,.nilIface,.nilIface],.bool false]) w:=qkr
@[simp] theorem amw a0 a1 a2 a3 a4 a5 w:(ql (.iface 166<|.agg #[a0,a1,a2,a3,a4,a5]) 92 166 true).run qh w=.ok (.tuple #[.agg #[a0,a1,a2,a3,a4,a5],.bool true]) w:=qkr
def tF.up{ns'}{w:World}{e}(h:tF kb fb cb mb ns T ns' w0 e w')(hb:Bq w w0):tF kb fb cb mb ns T ns' w e w':=by
 obtain⟨u,h1,h2,h3,h4⟩:=h;exact⟨u,h1,h2.wide λb p=>j8 hb.size p,h3,(Fr.of hb).trans h4⟩
section
variable {w:World}
def NO s n f t a:OfC (.mk 16 s n [] f t a):=by
 intro w kb fb cb mb ns Q v h hp hQ hn;have e:bt ns (.mk 16 s n [] f t a)=(.var<|ix s (qP s ns)+1,qP s ns):=by simp[bt]
 rw[e]at hn⊢;have IA:ns.length<=1000:=by have:=JM s ns;simp at hn;omega
 cases hp with
 |var s n f t a x y hq hx hy=>
 clear hx hy;have cz:Bq w (w.alloc<|Cv #[Iv x,Iv y,Sv<|s.extract 1 s.size] 159):=bw _;have HC:=JF (h.af cz) s hq IA;go_enter func44,ntmps44;go_wp2_with fail;refine HC.mono ?_;rintro e w1⟨rfl,N1,F1⟩
 go_wp2
 go_ret;exact⟨_,rfl,.var _,N1,(Fr.of cz).trans F1⟩
def yl{p:Prop}(h:p:=by
 go_enter func44,ntmps44;go_wp2_with fail;refine HC.mono ?_;intro e w1 hp;have hp2:=hp.up cz;obtain⟨u,rfl,_⟩:=hp
 go_wp2
 go_ret
 exact hp2):p:=h
def ZV{T}(hk:k=17/\T=161/\cn=qJ\/k=6/\T=163/\cn=nO)s n x y f t a(hx:OfC x)(hy:OfC y):OfC (.mk k s n [x,y] f t a):=by
 intro w kb fb cb mb ns Q v h hp hQ hn;have e:bt ns (.mk k s n [x,y] f t a)=(.aK cn (aF ns [x,y]).1,(aF ns [x,y]).2):=by obtain⟨rfl,rfl,rfl⟩|⟨rfl,rfl,rfl⟩:=hk<;>simp[bt,iR]
 rw[e]at hn⊢;obtain⟨x1,y1,va,vb,ha,hb,rfl⟩:∃x1 y1 va vb,PT w Q x va/\PT w Q y vb/\v=Fv T (Av #[Iv x1,Iv y1,va,vb]):=by obtain⟨rfl,rfl,rfl⟩|⟨rfl,rfl,rfl⟩:=hk<;>(cases hp;exact⟨_,_,_,_,qas,qas,rfl⟩)
 obtain⟨ta,xa,rfl⟩:=ha.bQ;obtain⟨tb,xb,rfl⟩:=hb.bQ;have bz:=h.lt;have cz:Bq w ((w.alloc<|Cv #[Iv x1,Iv y1,Fv ta<|Av xa,Fv tb<|Av xb] T).alloc<|Cv #[Fv ta<|Av xa,Fv tb<|Av xb] 92):=(bw _).alloc ag _;have BR:=(xk (w.alloc<|Cv #[Iv x1,Iv y1,Fv ta<|Av xa,Fv tb<|Av xb] T) #[Fv ta<|Av xa,Fv tb<|Av xb] 92);have fW:(w.alloc<|Cv #[Iv x1,Iv y1,Fv ta<|Av xa,Fv tb<|Av xb] T).heap.size=w.heap.size+1:=ag;rw[fW]at BR
 have HC:=ai (JK (Q:=λb=>Q b\/b=w.heap.size+1) cn (by obtain⟨-,-,rfl⟩|⟨-,-,rfl⟩:=hk;exact j7 rfl;exact j6<|j7 rfl) [x,y] (some ⟨w.heap.size+1,0,none⟩) 2 (λi=>if i=0 then Fv ta (Av xa)else Fv tb (Av xb)) ag (h.af cz) (λb q=>by obtain q|q:=q;exact hQ b q;omega)
  (j6 ⟨w.heap.size+1,rfl,j6 rfl,ag,λi hi=>by
   have rS:i=0\/i=1:=Hv;rw[BR.c i]
   obtain rfl|rfl:=rS<;>rfl⟩)
  (λi hi=>by
   have rS:i=0\/i=1:=Hv;obtain rfl|rfl:=rS
   .exact(ha.af cz).wide λb p=>j7 p
   .exact(hb.af cz).wide λb p=>j7 p)
  (λi hi=>by
   have rS:i=0\/i=1:=Hv;obtain rfl|rfl:=rS
   .exact hx
   .exact hy) hn)
 obtain⟨rfl,rfl,rfl⟩|⟨rfl,rfl,rfl⟩:=hk;all_goals
  first|rw[kT]at HC|rw[kU]at HC
  exact yl
def ajr s n L f t a(hl:L.length<=1001)(hL:∀i(h:i<L.length),OfC L[i]):OfC (.mk 2 s n L f t a):=by
 intro w kb fb cb mb ns Q v h hp hQ hn;have e:bt ns (.mk 2 s n L f t a)=(.aK s (aF ns L).1,(aF ns L).2):=by simp[bt,iR]
 rw[e]at hn⊢
 cases hp with
 |up s n L f t at_ x y x' y' sa sc vs hu aN hr hx hy=>
 clear hx hy;have cz:Bq w (w.alloc<|Cv #[Iv x,Iv y,Iv x',Iv y',Sv s,Lv sa L.length sc] 166):=bw _
 have HC:=ai (JK (Q:=Q) s (j6<|j6 hu) L sa sc vs hl (h.af cz) hQ
  (aN.imp id λq=>by
   obtain⟨g,q1,q2,q3,q4⟩:=q
   exact⟨g,q1,q2,bP,λi hi=>(qx (a:=⟨g,i,none⟩)<|cz.block g q3).trans<|q4 i hi⟩)
  (λi hi=>(hr i hi).af cz) hL hn)
 rw[eS hu]at HC;clear aN hr;exact yl
def ajs nd(h:yW nd):OfC nd:=by
 induction h with
 |var s n f t a=>exact NO s n f t a|two k s n x y f t a hk hx hy dR im=>
  obtain rfl|rfl:=hk
  .exact ZV (j7 ⟨rfl,rfl,rfl⟩) s n x y f t a dR im
  .exact ZV (j6 ⟨rfl,rfl,rfl⟩) s n x y f t a dR im
 |up s n L f t a hw hl hL ih=>exact ajr s n L f t a hl ih
end
section
variable {w:World}
def Ef:Cq 33 #[] w λe w'=>e=.returned (.func (.func 47) #[] #[Pv w.heap.size])/\w'=w.alloc (.cells #[Iv 0] 3):=by
 go_enter func33,ntmps33
 go_wp2
 go_ret;exact⟨rfl,rfl⟩
def adw cb(hB:Bx w cb #[Iv 0]):Cq 32 #[.func (.func 47) #[] #[Pv cb]] w λe w'=>∃kb fb mb,e=.returned (nmV kb fb)/\NM w' kb fb cb mb []/\Bq w w'/\w.heap.size<=mb:=by
 have jB:= @run_makeMap Tryz.prog;have z:=hB.z;have HB:=ai hB;go_enter func32,ntmps32
 go_wp2
 go_ret;have cz:=(((q9 w.heap.size w).alloc (br _)<|Cv #[.func (.func 47) #[] #[Pv cb]] 72).alloc ag<|.map #[] 0).alloc bP<|Cv #[Mv<|w.heap.size+1] 97;refine⟨w.heap.size+1+1,w.heap.size,w.heap.size+1,rfl,⟨?_,?_,?_,?_,ag,ag,ae⟩,cz,ae⟩
 .have:=xk ((w.alloc<|Cv #[.func (.func 47) #[] #[Pv cb]] 72).alloc<|.map #[] 0) #[Mv<|w.heap.size+1] 97;simpa using this
 .exact((xk w _ _).alloc _).alloc _
 .exact((HB.alloc _).alloc _).alloc _
 .have:=(MS.new Sv<|w.alloc<|Cv #[.func (.func 47) #[] #[Pv cb]] 72).below<|bw<|Cv #[Mv<|w.heap.size+1] 97;simpa[ZS]using this
end
def ZW:pn si=si:=by simp_all[pn,si]
inductive de(w:World)(P:Nat->Prop):Ty->Value->Prop where
 |var(n:Nat):de w P (.var n) (.iface 98<|Nv n)
 |aK(c:BA)(L:List Ty)(sa:Option Addr)(sc:Nat)(vs:Nat->Value)(hc:CN c\/c=si)(aN:L=[]\/∃g,sa=some ⟨g,0,none⟩/\P g/\g<w.heap.size/\∀i,i<L.length->w.cell? ⟨g,i,none⟩=some (vs i))(hr:∀i(h:i<L.length),de w P L[i]<|vs i):
  de w P (.aK c L) (.iface 169<|.agg #[.string<|pn c,.slice sa L.length sc])
theorem de.move{w}{v}(h:de w P t v)(hs:w.heap.size<=w'.heap.size)(hb:∀b,P b->b<w.heap.size->w'.heap[b]? =w.heap[b]?)(hq:∀b,P b->b<w.heap.size->Q b):de w' Q t v:=by
 exact QP
def de.af{w}{v}(h:de w P t v)(hb:Bq w w'):de w' P t v:=h.move hb.size (λb _ hz=>hb.block b hz)<|λ_ p _=>p
def de.wide{w}{v}(h:de w P t v)(hq:∀b,P b->Q b):de w Q t v:=h.move (br _) (λ_ _ _=>rfl)<|λb p _=>hq b p
def de.fr{w}{v}(h:de w P t v)(hf:Fr S w w')(hS:∀b,P b->b<w.heap.size->¬S b):de w' P t v:=h.move hf.size (λb p z=>hf.block b z<|hS b p z)<|λ_ p _=>p
def de.low{w}{v}(h:de w P t v):de w (λb=>P b/\b<w.heap.size) t v:=h.move (br _) (λ_ _ _=>rfl)<|λ_ p z=>⟨p,z⟩
def de.iface{w}{v}(h:de w P t v):∃a x,v=.iface a x:=by
 cases h<;>exact⟨_,_,rfl⟩
def dW.w{w}{v}(h:dW w P t v):de w P t v:=by
 induction h with
 |var n=>exact .var n|aK c L sa sc vs hc aN hr ih=>exact .aK c L sa sc vs (j7 hc) aN ih
def uT:∀{L:List Ty},kI L->∀i(h:i<L.length),Whole L[i]
 |[],_,i,h=>vR|t::l,h,0,_=>h.1|t::l,h,i+1,k=>by simpa using uT h.2 i (by simpa using k)
def de.v{w}{v}(h:de w P t v)(hw:Whole t):dW w P t v:=by
 induction h with
 |var n=>exact .var n|aK c L sa sc vs hc aN hr ih=>exact .aK c L sa sc vs (hc.resolve_right hw.1) aN λi hi=>ih i hi<|uT hw.2 i hi
mutual
def occs:Ty->List Nat
 |.var n=>[n]|.aK _ l=>gy l
def gy:List Ty->List Nat
 |[]=>[]|t::l=>occs t++gy l
end
mutual
def cD:∀(t:Ty)(a:List Nat),vars a t=(occs t).foldl xh a
 |.var n,a=>rfl|.aK c l,a=>by simpa[vars,occs]using Af l a
def Af:∀(l:List Ty)(a:List Nat),ba a l=(gy l).foldl xh a
 |[],a=>rfl|t::l,a=>by simp only[ba,gy,jq];rw[cD t a];exact Af l _
end
def Ag:∀(L:List Ty)(i:Nat)(h:i<L.length),gy (L.take<|i+1)=gy (L.take i)++occs L[i]
 |[],i,h=>vR|t::l,0,_=>by simp[gy]|t::l,i+1,h=>by
  have:=Ag l i G_;simp only[jd,gy,jh,this,jl]
def QS σ L i(h:i<L.length):(aT σ L)[i]'(by rw[eB];exact h)=sub σ L[i]:=by simp[iH]
def mE:∀(L:List Ty)(i:Nat)(h:i<L.length),size L[i]<=ah L:=by simp_all[size,ah,zC]
def Fu:∀L:List Ty,L.length<=ah L
 |[]=>br _|t::l=>by have:=Fu l;have:=size_pos t;simp only[ot,ah];omega
def QT{n:Nat}:∀(L:List Ty)(i:Nat)(h:i<L.length),aA n L[i]->bY n L
 |[],i,h,_=>vR|t::l,0,_,k=>j7 k|t::l,i+1,h,k=>j6 (QT l i G_<|by simpa using k)
def U9{P}{t}(ht:P.underlying t=some (.slice e))(hi:P.info? e=some i)(hz:i.zero=some z)(hzc:z.cells=#[z])(h1:i.size=1)(h2:i.bytes=by_)(hby:by_<=16)n(hn:n<=1000000000000)w:
 (Instr.makeSlice t (Nv n)<|Nv n).run P w=.ok (.slice (some ⟨w.heap.size,0,none⟩) n n) (w.alloc<|.cells (qr n z) e):=by
 have hb:(i.bytes:Int)*(n:Int)<=281474976710656:=by
  rw[h2];have:by_*n<=16*1000000000000:=qg hby hn;exact JH
 exact QR
@[simp] theorem ag2 n w:(ql (.iface 98<|Iv n) 67 98 true).run qh w=.ok (.tuple #[Iv n,.bool true]) w:=qkr
@[simp] theorem amx n w:(ql (.iface 98<|Iv n) 67 169 true).run qh w=.ok (.tuple #[.agg #[.string ⟨#[]⟩,.slice none 0 0],.bool false]) w:=qkr
@[simp] theorem ajt a b w:(ql (.iface 169<|.agg #[a,b]) 67 98 true).run qh w=.ok (.tuple #[Iv 0,.bool false]) w:=qkr
@[simp] theorem amy a b w:(ql (.iface 169<|.agg #[a,b]) 67 169 true).run qh w=.ok (.tuple #[.agg #[a,b],.bool true]) w:=qkr
abbrev ZX(B M:Nat->Prop)n b:=¬M b/\(B b\/n<=b)
abbrev I0:=List Nat->(Nat->Prop)->(Nat->Prop)->World->Prop
structure Img g bs cs(σ:Nat->Ty)(N:List Nat->Nat->Prop)(I:I0):Prop where
 eg:∀args w,(callFunc g args).run qh w=.ok (.enter g args) w
 od:∀acc B M w w',I acc B M w->w.heap.size<=w'.heap.size->(∀b,B b\/M b->w'.heap[b]? =w.heap[b]?)->I acc B M w'
 lt:∀acc B M w,I acc B M w->∀b,B b\/M b->b<w.heap.size
 call:∀acc B M w n,I acc B M w->N acc n->Cq g (bs++#[Nv n]++cs) w λe w'=>
  ∃u B' M',e=.returned u/\de w' (ZX B M' w.heap.size) (σ n) u/\I (acc++[n]) B' M' w'/\(∀b,B' b->B b\/w.heap.size<=b)/\(∀b,M' b->M b\/w.heap.size<=b)/\Fr M w w'
def Fr.gZ{M M'}{a b c}(h:Fr M a b)(k:Fr M' b c)(hm:∀x,M' x->M x\/a.heap.size<=x):Fr M a c:=
 ⟨k.os.trans h.os,k.tape.trans h.tape,k.output.trans h.output,j8 h.size k.size,λx hx hn=>(k.block x (qf hx h.size) (λq=>by obtain r|r:=hm x q;exact hn r;omega)).trans (h.block x hx hn)⟩
def QU σ(I:I0)acc B M t w(e:Ending)w':=
 ∃u B' M',e=.returned u/\de w' (ZX B M' w.heap.size) (sub σ t) u/\I (acc++occs t) B' M' w'/\(∀b,B' b->B b\/w.heap.size<=b)/\(∀b,M' b->M b\/w.heap.size<=b)/\Fr M w w'
def JN(N:List Nat->Nat->Prop)acc(l:List Nat):=∀i(h:i<l.length),N (acc++l.take i) l[i]
def JN.left(h:JN N acc (l++l')):JN N acc l:=λi hi=>by
 have:=h i bP
 rwa[List.take_append_of_le_length ae,List.getElem_append_left hi]at this
def JN.right(h:JN N acc (l++l')):JN N (acc++l) l':=λi hi=>by
 have:=h (l.length+i) bP;rw[List.take_length_add_append,<-jl]at this;simpa using this
def adx g bs cs σ N I t:=∀(acc:List Nat)(B M:Nat->Prop)(w:World)(v:Value)(Q:Nat->Prop),I acc B M w->JN N acc (occs t)->size t<=1000000000000->de w Q t v->(∀b,Q b->b<w.heap.size->¬M b)->
 Cq 326 #[v,.func (.func g) bs cs] w (QU σ I acc B M t w)
def ady σ(I:I0)acc B M(L:List Ty)TC w gk v wr:=
 ∃(j:Nat)(C:Array Value)(B' M':Nat->Prop),Hid (gk=L.length-j)/\j<=L.length/\v=Nv j/\I (acc++gy (L.take j)) B' M' wr/\Hid (∀b,B' b->B b\/w.heap.size+2<=b)/\Hid (∀b,M' b->M b\/w.heap.size+2<=b)/\Fr M w wr/\Bx wr w.heap.size TC/\Bx wr (w.heap.size+1) C/\Hid (C.size=L.length)/\
  Hid (∀i(h:i<L.length),i<j->∃u,C[i]? =some u/\de wr (λb=>ZX B M' (w.heap.size+2) b/\b<wr.heap.size) (sub σ L[i]) u)
def ZY L j(h:j<L.length):∃r,gy L=gy (L.take j)++(occs L[j]++r):=by
 induction L generalizing j with
 |nil=>simp at h|cons t l ih=>
  cases j with
  |zero=>exact⟨gy l,by simp[gy]⟩|succ j=>
   have⟨r,e⟩:=ih j G_;exact⟨r,by simp only[jd,gy,jh];rw[e];simp[jl]⟩
section
variable {bs:Array Value} {σ:Nat->Ty} {I:I0}
def adz(H:Img g bs cs σ N I)n:adx g bs cs σ N I (.var n):=by
 intro acc B M w v Q hI hN hz hv hQ
 cases hv
 have eg:=H.eg;have HC:=H.call acc B M w n hI (by simpa[occs]using hN 0 (by simp[occs]));go_enter func326,ntmps326;go_wp2_with(go_at_fn g;refine HC.mono ?_;rintro e w1⟨u,B',M',rfl,h2,h3,h4,h5,h6⟩;obtain⟨ta,xa,rfl⟩:=h2.iface;have X:=ai<|show QU σ I acc B M (.var n) w (Rv<|Fv ta xa) w1 from⟨_,B',M',rfl,h2,h3,h4,h5,h6⟩;clear h2 h3 h4 h5 h6);go_ret;exact X
def Fw{p:Prop}(h:p:=by
 obtain r|r:=uh hM1 _ q
 .have:=HB _<|j6 r;omega
 .omega):p:=h
def adA(H:Img g bs cs σ N I)c L(IH:∀i(h:i<L.length),adx g bs cs σ N I L[i]):adx g bs cs σ N I (.aK c L):=by
 intro acc B M w v Q HN HNN HZ hv HQ
 cases hv with
 |aK c L sa sc vs hc aN hr=>
 have hL:L.length<=1000000000000:=by have:=Fu L;simp only[size]at HZ;omega
 obtain⟨i0,yi,oh,m7,i_⟩:=info_parts gw;have WZ:=U9 (by_:=16) eF yi oh rfl m7 i_ aH L.length hL;have HB:=H.lt acc B M w HN;have HK:=ai H.od;go_enter func326,ntmps326
 go_wp2
 go_loopg[27] L.length (λgk v wr=>ady σ I acc B M L #[.string<|pn c,.slice sa L.length sc] w gk v wr)
 case atStart=>
  have b1:Bq w ((w.alloc<|.cells #[.string<|pn c,.slice sa L.length sc] 169).alloc<|.cells (qr L.length .nilIface) 67):=(bw _).alloc ag _;refine⟨0,qr L.length .nilIface,B,M,ai ag,j9 _,rfl,?_,ai<|λb hb=>j7 hb,ai<|λb hb=>j7 hb,Fr.of b1,?_,?_,ai ag,ai<|λi _ hi=>absurd hi ae⟩
  .simpa[gy]using HK _ _ _ _ _ HN b1.size (λb hb=>b1.block b<|HB b hb)
  .exact(xk w _ _).below (bw _)
  .have:=xk (w.alloc<|.cells #[.string<|pn c,.slice sa L.length sc] 169) (qr L.length .nilIface) 67;simpa using this
 case round=>
  obtain⟨j,C,B1,M1,dv,hj,rfl,Ez,hB1,hM1,F1,T1,P1,hC,hT⟩:=hrel;have zw:=F1.size;have tz:=T1.z;have pz:=P1.z;by_cases bq:j<L.length
  .have hd:(j:Int)<(L.length:Int):=ae;obtain⟨g1,rfl,hg,lh,b8⟩:∃g,sa=some ⟨g,0,none⟩/\Q g/\g<w.heap.size/\∀i,i<L.length->w.cell? ⟨g,i,none⟩=some (vs i):=by
    exact yk
   have cg:wr.cell? ⟨g1,j,none⟩=some (vs j):=by
    rw[qx (a:=⟨g1,j,none⟩) (w:=w)<|F1.block g1 lh<|HQ g1 hg lh];exact b8 j bq
   have PJ:=(hr j bq).low.fr F1<|λb p _=>HQ b p.1 p.2;obtain⟨tv,xv,hv⟩:=PJ.iface;obtain⟨rr,hrr⟩:=ZY L j bq;have hNj:JN N (acc++gy (L.take j)) (occs L[j]):=by
    have:=HNN;simp only[occs]at this;rw[hrr]at this;exact this.right.left
   have hQ1:∀b,(Q b/\b<w.heap.size)->b<wr.heap.size->¬M1 b:=λb p _ q=>by
    obtain r|r:=uh hM1 b q
    .exact HQ b p.1 p.2 r
    .omega
   have HC:=IH j bq _ B1 M1 wr (vs j) _ Ez hNj (by have:=mE L j bq;have:=HZ;simp only[size]at this;omega) PJ hQ1;rw[hv]at cg HC;obtain⟨tc,tf,_⟩:=T1;go_wp2_with fail;refine HC.mono ?_;rintro e w1⟨u,B2,M2,rfl,HU,PK,eA,C5,HF⟩;obtain⟨tu,xu,rfl⟩:=HU.iface;have hpb:¬M1 (w.heap.size+1):=λq=>by
    exact Fw
   have htb:¬M1 w.heap.size:=λq=>by
    exact Fw
   have P2:=P1.fr HF hpb;have T2:=(show Bx wr w.heap.size #[.string<|pn c,.slice (some ⟨g1,0,none⟩) L.length sc]from⟨tc,tf,tz⟩).fr HF htb;have wH:j<C.size:=qBh;have cj:=(P2.c j).trans<|qu wH;have fj:=P2.f j;have P3:=P2.aP j (.iface tu xu) (C.setIfInBounds j<|.iface tu xu) rfl wH;have T3:=T2.bV (show w.heap.size≠w.heap.size+1 by omega) j (.iface tu xu);have Bi:=F1.gZ HF (λx q=>by obtain r|r:=uh hM1 x q;exact j7 r;exact j6 ae);have z2:=HF.size
   go_wp2
   go_roundg(L.length-(j+1))
   case measure=>rw[uh dv];omega
   case rel=>
    have df:∀b,b≠w.heap.size+1->(w1.setCell ⟨w.heap.size+1,j,none⟩<|.iface tu xu).heap[b]? =w1.heap[b]? :=λb hb=>qz _ _ _ _ (by show b≠w.heap.size+1;exact hb);have hss:(w1.setCell ⟨w.heap.size+1,j,none⟩<|.iface tu xu).heap.size=w1.heap.size:=C9;have oJ:∀b,B2 b->B b\/w.heap.size+2<=b:=λb hb=>by
     obtain q|q:=eA b hb
     .exact hB1 b q
     .exact j6 ae
    have hm3:∀b,M2 b->M b\/w.heap.size+2<=b:=λb hb=>by
     obtain q|q:=C5 b hb
     .exact hM1 b q
     .exact j6 ae
    have hn3:∀b,(B b\/w.heap.size+2<=b)->b≠w.heap.size+1:=λb hb e=>by
     obtain q|q:=hb
     .have:=HB b<|j7 q;omega
     .omega
    have hn4:∀b,(M b\/w.heap.size+2<=b)->b≠w.heap.size+1:=λb hb e=>by
     obtain q|q:=hb
     .have:=HB b<|j6 q;omega
     .omega
    refine⟨j+1,C.setIfInBounds j<|.iface tu xu,B2,M2,ai rfl,ae,jT,?_,ai oJ,ai hm3,?_,T3,P3,ai (by simp;exact hC),ai<|λi hi hij=>?_⟩
    .rw[Ag L j bq,<-jl];exact HK _ _ _ _ _ PK ae (λb hb=>df b (by obtain q|q:=hb;exact hn3 b<|oJ b q;exact hn4 b<|hm3 b q))
    .exact Bi.set (j6 ae) j _
    .by_cases e:i=j
     .subst e;refine⟨.iface tu xu,by simp[wH],?_⟩
      have hL1:∀b,ZX B1 M2 wr.heap.size b->ZX B M2 (w.heap.size+2) b:=λb p=>⟨p.1,by
       obtain q|q:=p.2
       .exact hB1 b q
       .exact j6 ae⟩
      exact HU.move ae (λb p z=>df b<|hn3 b (hL1 b p).2)<|λb p z=>⟨hL1 b p,ae⟩
     .obtain⟨u',wI,wJ⟩:=uh hT i hi ae;refine⟨u',by rw[qs ae];exact wI,?_⟩;have h3:=wJ.fr HF<|λb p _=>p.1.1;refine h3.move ae (λb p z=>df b<|hn3 b p.1.2)<|λb p z=>⟨⟨λq=>?_,p.1.2⟩,ae⟩;obtain r|r:=C5 b q
      .exact p.1.1 r
      .have:=p.2;omega
  .have hd:decide ((j:Int)<(L.length:Int))=false:=bP;have ej:j=L.length:=ae;subst ej;obtain⟨tc,tf,_⟩:=T1
   go_wp2
   go_ret;refine⟨_,B1,M1,rfl,?_,?_,λb hb=>?_,λb hb=>?_,F1⟩
   .have Y8:=eB σ L;simp only[sub];rw[<-Y8];refine .aK c _ _ _ (λi=>C.getD i .nilIface) hc (j6 ⟨w.heap.size+1,rfl,⟨λq=>?_,j6 ae⟩,P1.z,λi hi=>?_⟩)<|λi hi=>?_
    .exact Fw
    .rw[Y8]at hi;obtain⟨u,hu,_⟩:=uh hT i hi hi;rw[P1.c i,hu];simp[qt,hu]
    .have oj:i<L.length:=by rw[Y8]at hi;exact hi
     obtain⟨u,hu,TB⟩:=uh hT i oj oj;have:C.getD i .nilIface=u:=qBm;rw[this,QS σ L i oj];exact TB.wide λb p=>⟨p.1.1,by obtain q|q:=p.1.2;exact j7 q;exact j6 ae⟩
   .simp only[occs];rw[<-jf (l:=L)];exact Ez
   .obtain q|q:=uh hB1 b hb
    .exact j7 q
    .exact j6 ae
   .obtain q|q:=uh hM1 b hb
    .exact j7 q
    .exact j6 ae
def zP(H:Img g bs cs σ N I):∀t,adx g bs cs σ N I t
 |.var n=>adz H n|.aK c L=>adA H c L λi h=>zP H L[i]
 termination_by t=>size t
 decreasing_by have:=mE L i h;simp only[size];omega
end
section
variable {w:World}
def sA:Cq 124 #[] w λe w'=>e=.returned (.iface 169<|.agg #[.string ry,.slice none 0 0])/\w'=w:=by
 go_enter func124,ntmps124
 go_wp2
 go_ret;exact⟨rfl,rfl⟩
def oD:Cq 125 #[] w λe w'=>e=.returned (.iface 169<|.agg #[.string kv,.slice none 0 0])/\w'=w:=by
 go_enter func125,ntmps125
 go_wp2
 go_ret;exact⟨rfl,rfl⟩
def yK:Cq 330 #[] w λe w'=>e=.returned (.iface 169<|.agg #[.string iZ,.slice none 0 0])/\w'=w:=by
 go_enter func330,ntmps330
 go_wp2
 go_ret;exact⟨rfl,rfl⟩
def mW:nY ry:=⟨73,[110,116],toList_mk _,aH⟩
def lq:nY kv:=⟨66,[111,111,108],toList_mk _,aH⟩
def sB:nY iZ:=⟨85,[110,105,116],toList_mk _,aH⟩
def Ie w P(h:nY c):de w P (.aK c []) (.iface 169<|.agg #[.string c,.slice none 0 0]):=by
 have:=de.aK (w:=w) (P:=P) c [] none 0 (λ_=>Zv) (j7<|j6<|j6 h) (j7 rfl) (λi hi=>by simp at hi);rw[eS h]at this;exact this
def mV c a b(w:World)(e:Ending)w':=
 e=.returned (.iface 169<|.agg #[.string<|pn c,.slice (some ⟨w.heap.size,0,none⟩) 2 2])/\w'=w.alloc (.cells #[a,b] 67)
def vU ta tb xa xb:Cq 350 #[.iface ta xa,.iface tb xb] w (mV qJ (.iface ta xa) (.iface tb xb) w):=by
 go_enter func350,ntmps350
 go_wp2
 go_ret;rw[mV];rw[kT];exact⟨rfl,rfl⟩
def Pl ta tb xa xb:Cq 351 #[.iface ta xa,.iface tb xb] w (mV nO (.iface ta xa) (.iface tb xb) w):=by
 go_enter func351,ntmps351
 go_wp2
 go_ret;rw[mV];rw[kU];exact⟨rfl,rfl⟩
def mV.ty(hc:CN c){a b}{va vb}(ha:de w Q a va)(hb:de w Q b vb)(hq:Q w.heap.size):
 de (w.alloc<|.cells #[va,vb] 67) Q (.aK c [a,b]) (.iface 169<|.agg #[.string<|pn c,.slice (some ⟨w.heap.size,0,none⟩) 2 2]):=by
 have⟨bl,bx⟩:=sd w #[va,vb] 67;refine de.aK c [a,b] (some ⟨w.heap.size,0,none⟩) 2 (λi=>if i=0 then va else vb) (j7 hc) (j6 ⟨w.heap.size,rfl,hq,bx.z,λi hi=>?_⟩) (λi hi=>?_)
 .have:=bx.c i;obtain _|_|i:=i
  .exact this
  .exact this
  .simp at hi;omega
 .obtain _|_|i:=i
  .exact ha.af bl
  .exact hb.af bl
  .simp at hi;omega
end
def Z3(h:CN c):pn c≠si:=by
 have e:si.toList=[116,111,111,32,108,97,114,103,101]:=toList_mk _;obtain rfl|rfl|h:=h
 .rw[kT];intro q;have:=congrArg xo q;rw[e,toList_mk]at this;simp at this
 .rw[kU];intro q;have:=congrArg xo q;rw[e,toList_mk]at this;simp at this
 .rw[eS h];intro q;subst q;exact dd h 116 _ aH e
def aju(L:List Ty)TC w gk(v s:Value)wr:=
 ∃(j:Nat),Hid (gk=L.length-j)/\j<=L.length/\v=Nv j/\s=.int .i64 ((1+rE (L.take j):Nat):Int)/\Bq w wr/\Bx wr w.heap.size TC
def Ah:∀(L:List Ty)(i:Nat)(h:i<L.length),rE (L.take<|i+1)=rE (L.take i)+sz L[i]
 |[],i,h=>vR|t::l,0,_=>by simp[rE]|t::l,i+1,h=>by
  have:=Ah l i G_;simp only[jd,rE,jh,this,Nat.add_assoc]
def wK:∀(L:List Ty)(i:Nat),rE (L.take i)<=rE L
 |[],i=>ag|t::l,0=>by simp[rE]|t::l,i+1=>by have:=wK l i;simp only[jd,rE];omega
section
variable {w:World}
def SzC t:=∀(w:World)(v:Value)(Q:Nat->Prop),de w Q t v->size t<=1000000000000->Cq 315 #[v] w λe w'=>e=.returned (Nv<|sz t)/\Bq w w'
def ag3 n:SzC (.var n):=by
 intro w v Q hv hz
 cases hv
 go_enter func315,ntmps315
 go_wp2
 go_ret;exact⟨by simp[sz],bw _⟩
def ag4 c L(IH:∀i(h:i<L.length),SzC L[i]):SzC (.aK c L):=by
 intro w v Q hv HZ
 cases hv with
 |aK c L sa sc vs hc aN hr=>
 by_cases ec:c=si
 .subst ec;rw[ZW];rw[si];go_enter func315,ntmps315
  go_wp2
  go_ret;exact⟨by simp[sz,si],bw _⟩
 .have df:pn c≠si:=by
   obtain h|h:=hc
   .exact Z3 h
   .exact absurd h ec
  have hd0:((pn c).toList==[116,111,111,32,108,97,114,103,101])=false:=by
   rw[<-Bool.not_eq_true,beq_iff_eq];intro q;exact df<|toList_inj<|q.trans (toList_mk [116,111,111,32,108,97,114,103,101]).symm
  go_enter func315,ntmps315
  go_wp2
  go_loopg[5,21] L.length (λgk s v wr=>aju L #[Sv<|pn c,Lv sa L.length sc] w gk v s wr)
  case atStart=>exact⟨0,ai ag,j9 _,rfl,by simp[rE],bw _,xk w _ _⟩
  case round=>
   obtain⟨j,dv,hj,rfl,rfl,BG,TD⟩:=hrel;have hZ:=HZ;by_cases bq:j<L.length
   .have hd:(j:Int)<(L.length:Int):=ae;obtain⟨g1,rfl,hg,lh,b8⟩:∃g,sa=some ⟨g,0,none⟩/\Q g/\g<w.heap.size/\∀i,i<L.length->w.cell? ⟨g,i,none⟩=some (vs i):=by
     exact yk
    have cg:wr.cell? ⟨g1,j,none⟩=some (vs j):=by
     rw[qx (a:=⟨g1,j,none⟩) (w:=w)<|BG.block g1 lh];exact b8 j bq
    have PJ:=(hr j bq).af BG;have⟨tv,xv,hv⟩:=PJ.iface;have hzj:=mE L j bq;simp only[size]at hZ;have hlen:=Fu L;have HC:=IH j bq wr (vs j) Q PJ ae;rw[hv]at cg HC;have hle:=wK L<|j+1;rw[Ah L j bq]at hle;have ajp:=MU L;have hs0:((1+rE (L.take j):Nat):Int)=1+(rE (L.take j):Int):=ae;generalize hA:rE (L.take j)=A at*;generalize hB:sz L[j]=B at*;go_wp2_with fail;refine HC.mono ?_;rintro e w1⟨rfl,Tu⟩
    go_wp2
    go_roundg(L.length-(j+1))
    case measure=>rw[uh dv];omega
    case rel=>
     have z1:=BG.size;refine⟨j+1,ai rfl,ae,jT,?_,BG.trans<|Tu.mono z1,TD.below Tu⟩;rw[Ah L j bq,hA,hB];go_num
   .have hd:decide ((j:Int)<(L.length:Int))=false:=bP;have ej:j=L.length:=ae;subst ej
    go_wp2
    go_ret;refine⟨?_,BG⟩;rw[jf];simp only[sz];rw[if_neg ec];rfl
def pV:∀t,SzC t
 |.var n=>ag3 n|.aK c L=>ag4 c L λi h=>pV L[i]
 termination_by t=>size t
 decreasing_by have:=mE L i h;simp only[size];omega
end
abbrev gG(w:World)e base v xs:=w.ownsRow base e 1 v xs.length xs
def gG.new(w:World)e C base(hb:base<=w.heap.size)(hl:C.length<=1000000000000)n(hn:n=C.length):gG (w.alloc<|.cells C.toArray e) e base (.slice (some ⟨w.heap.size,0,none⟩) n n) C:=by
 subst hn;exact⟨ag,.inr ⟨w.heap.size,C.length,C.toArray,rfl,hb,heap_alloc_new w _,br _,Yf,ag,ag⟩⟩
def JO{w:World}{b'}{size}{v:Value}(h:w.ownsRow b' e size v n xs)(hb:base<=b'):w.ownsRow base e size v n xs:=by
 obtain⟨h1,h2⟩:=h;obtain h2|⟨g,cap,l7,r1,r2,r3⟩:=h2
 .exact⟨h1,.inl h2⟩
 .exact⟨h1,.inr ⟨g,cap,l7,r1,j8 hb r2,r3⟩⟩
def xJ{P}w base t ty e i z size bytes(ht:P.underlying t=some (.slice e))(hi:P.info? e=some i)(hz:i.zero=some z)(Z8:i.size=size)(hby:i.bytes=bytes)(hzs:z.cells.size=size)(fW:0<size)v n xs(fS:w.ownsRow base e size v n xs)a m c news(hl:news.length=m*size)(QV:∀j u,news[j]? =some u->w.cell? (a.add j)=some u)(h1:∀u∈news,u.oneCell'=true)(h63:n+m<=maxLen)(NP:(n+m)*bytes<=140737488355328)(qW:base<=w.heap.size):
 ∃v' w',(Builtin.append_ #[t,t] ty #[v,.slice (some a) m c]).run P w=.ok v' w'/\w'.ownsRow base e size v' (n+m) (xs++news)/\w.grownBy w' v.ownBlock/\∀k,v'.ownBlock=some k->v.ownBlock=some k\/w.heap.size<=k:=by
 have afg:=fS;obtain⟨rfl,rfl⟩|⟨g,cap,l7,rfl,hbg,hg,hnc,LU,Mt,ajv⟩:=fS.2
 .have hx:=jk (by simpa using fS.1);subst hx;have⟨v',w',q1,q2,q3,_⟩:=run_append_own w w.heap.size t ty e i z size bytes ht hi hz Z8 hby hzs fW (Lv none 0 0) 0 [] (qy w _ e size) a m c news hl QV h1 h63 NP<|br _;exact⟨v',w',q1,JO q2 qW,q3,λk hk=>j6 (World.ownsRow.lt q2 k hk).1⟩
 .have⟨v',w',q1,q2,q3,_⟩:=run_append_own w base t ty e i z size bytes ht hi hz Z8 hby hzs fW _ n xs afg a m c news hl QV h1 h63 NP qW;refine⟨v',w',q1,q2,q3,?_⟩;subst Z8;by_cases afh:n+m<=cap
  .have alg:n*i.size+news.length<=l7.size:=by rw[hl,Mt,<-Nat.add_mul];exact Nat.mul_le_mul_right _ afh
   have hr:=run_append_room (P:=P) w t ty e i ht hi g n cap l7 hg a m c news hl QV h1 afh alg;rw[hr]at q1;injection q1 with q1 _;subst q1;exact λk hk=>j7 hk
  .have holds:=afg.cells (g:=g) rfl;have hr:=run_append_grow (P:=P) w t ty e i z ht hi hz ⟨g,0,none⟩ n cap xs fS.1 holds a m c news hl QV ae (by rw[maxLen]at h63;omega) (growslice_fits ae (by rw[hby];exact NP));rw[hr]at q1;injection q1 with q1 _;subst q1;intro k hk;simp[Value.ownBlock]at hk;exact j6 ae
def afi{T}(hT:Tryz.prog.underlying T=some (.slice e))(hI:(Tryz.prog.info? e).map (λi=>(i.zero,i.size,i.bytes))=some (some z,1,by_))(hzc:z.cells.size=1)(hby:by_<=16){w:World}{a}{Q}(hgd:o.guard=none)s x(ho:o.op=.call {callee:=.builtin .append,args:=#[s,x],argTypes:=#[T,T]}){b0}{v:Value}{news}(hs:a.eval s=v)(fS:gG w e base v xs)(hx:a.eval x=u)(hn:gG w e b0 u news)(h1:∀u∈news,u.oneCell'=true)(hz:xs.length+news.length<=1000000000000)(qW:base<=w.heap.size)(h:∀v' w',gG w' e base v' (xs++news)->w.grownBy w' v.ownBlock->(∀k,v'.ownBlock=some k->v.ownBlock=some k\/w.heap.size<=k)->wpList qh ops Q rest (a.put o.dst v') w'):wpList qh ops Q (o::rest) a w:=by
 have⟨i0,hi,oh,m7,i_⟩:=info_parts hI;have IA:=hn;obtain⟨hl,hc⟩:=hn;obtain⟨rfl,h0⟩|⟨g,cap,l7,rfl,hg,hh,r⟩:=hc
 .have e1:=jk h0;subst e1;refine wpList_append_own_none hgd s x T ho base e i0 1 hT hi v xs.length xs hs fS hx ?_;exact h v w (by simpa using fS) ⟨rfl,rfl,rfl,br _,λ_ _ _=>rfl⟩ (λk hk=>j7 hk)
 .refine wpList_plain hgd λK hK=>?_;have⟨v',w',hr,h2,h3,h4⟩:=xJ (P:=qh) w base T o.type e i0 _ 1 by_ hT hi oh m7 i_ hzc aH v xs.length xs fS ⟨g,0,none⟩ news.length cap news ae (λj z e=>IA.cells rfl j z e) h1 Yf (by have:(xs.length+news.length)*by_<=1000000000000*16:=qg hz hby;omega) qW;rw[Oper.wp,execOp];simp only[ho,resolve,invoke,builtin,Sem.run_bind,Sem.run_pure,Result.andThen_ok,List.map_toArray,jc,j5,hs,hx,hr];exact hK _ _ (h v' w' (by rw[gG];rw[ug];exact h2) h3 h4)
def iB{w:World}{v:Value}(h:gG w e base v xs)(hn:0<xs.length):∃g cp m,v=.slice (some ⟨g,0,none⟩) m cp/\base<=g/\g<w.heap.size/\Hid (m=xs.length):=by
 have h':=h;obtain⟨h1,h2⟩:=h;obtain⟨rfl,q⟩|⟨g,cp,l7,rfl,hg,hh,r⟩:=h2
 .omega
 .exact⟨g,cp,xs.length,rfl,hg,(World.ownsRow.lt h' g rfl).2,ai rfl⟩
def adB:(Tryz.prog.info? 98).map (λi=>(i.zero,i.size,i.bytes))=some (some<|Iv 0,1,8):=qkr
def Cp:Tryz.prog.underlying 464=some (.slice 98):=qkr
def lZ{w:World}{c}(h:gG w e base (.slice (some ⟨g,0,none⟩) n c) xs)j(hj:j<xs.length):w.cell? ⟨g,j,none⟩=some xs[j]:=by
 have e1:=World.ownsRow.cells h (g:=g) rfl j xs[j] (ja hj);have e2:(⟨g,0,none⟩:Addr).add j=⟨g,j,none⟩:=by
  rw[Addr.add];split
  .grind
  .simp
 rwa[e2]at e1
def iQ{w:World}{v:Value}(h:gG w e base v xs):∀k,v.ownBlock=some k->base<=k/\k<w.heap.size:=λk hk=>World.ownsRow.lt h k hk
def lC{w:World}{v:Value}(h:gG w e base v xs)(hb:∀k,v.ownBlock=some k->w'.heap[k]? =w.heap[k]?):gG w' e base v xs:=sY h hb
def ox(l:List Nat):List Value:=l.map λ(n:Nat)=>Nv n
def VI mb mm lb base(acc:List Nat)B M w:=
 ∃(L:List (Int×Value))(v:Value),(B=λb=>b=mb)/\(M=λb=>b=mm\/b=lb\/v.ownBlock=some b)/\Bx w mb #[Mv mm]/\MS (λn:Int=>Iv n) w mm L/\(∀n:Nat,aZ (n:Int) L=if n∈acc then some (Nv<|acc.count n)else none)/\Bx w lb #[v]/\gG w 98 base v (ox<|acc.foldl xh [])/\base<=w.heap.size
def NR acc(n m:Nat):(acc++[n]).count m=acc.count m+if n=m then 1 else 0:=xC
def yD w:(zeroValue 3).run qh w=.ok (Iv 0) w:=qkr
section
variable {w:World} {mm lb:Nat}
def JP{w}{row}{b}{C}(h:Bx w b C)(hg:w.grownBy w' row)(hn:row≠some b):Bx w' b C:=h.same hg.size<|hg.block b h.z<|λe=>hn e.symm
def ajw mb mm lb base acc(B M:Nat->Prop)n w(e:Ending)w':=
 e=.returned (.iface 98<|Nv n)/\∃B' M',VI mb mm lb base (acc++[n]) B' M' w'/\(∀b,B' b->B b\/w.heap.size<=b)/\(∀b,M' b->M b\/w.heap.size<=b)/\Fr M w w'
def dh:∀(acc l:List Nat),(acc.foldl xh l).length<=l.length+acc.length
 |[],l=>ag|a::acc,l=>by
  have:=dh acc<|xh l a;have h2:(xh l a).length<=l.length+1:=by rw[xh];split<;>simp
  simp only[jz,ot];omega
def gA(n:Nat):∀(acc l:List Nat),n∈acc.foldl xh l↔n∈l\/n∈acc
 |[],l=>ag|a::acc,l=>by
  simp only[jz,gA n acc,sN,jm];constructor
  .rintro((h|h)|h)
   .exact j7 h
   .exact j6 (j7 h)
   .exact j6 (j6 h)
  .rintro(h|h|h)
   .exact j7 (j7 h)
   .exact j7 (j6 h)
   .exact j6 h
def U_ acc B M(n:Nat)(amz:acc.length<1000000000000)(h:VI mb mm lb base acc B M w)(hd:mb≠mm/\mb≠lb/\mm≠lb)(hb:mb<base/\mm<base/\lb<base):
 Calls qh 332 #[.int .i64 (n:Int),.pointer<|some ⟨mb,0,none⟩,.pointer<|some ⟨lb,0,none⟩] w (ajw mb mm lb base acc B M n w):=by
 obtain⟨L,v,rfl,rfl,wF,jB,U',HL,HO,b4⟩:=h;obtain⟨d1,d2,d3⟩:=hd;obtain⟨b1,b2,b3⟩:=hb;have alh:acc.count n<=acc.length:=List.count_le_length;have hl:=jB.look (KL.num qi) qk (yD w) (n:Int) trivial (λ_ _=>trivial) false;rw[U' n]at hl;have hl':(qm 171 (.map<|some mm) (.int .i64 (n:Int)) false).run qh w=.ok (.int .i64 (acc.count n:Int)) w:=by
  by_cases hm:n∈acc
  .rw[if_pos hm]at hl;simpa using hl
  .rw[if_neg hm]at hl;rw[List.count_eq_zero_of_not_mem hm];simpa using hl
 have HG:∀m:Nat,aZ (m:Int) (bF (n:Int) (.int .i64<|(acc.count n:Int)+1) L)=if m∈acc++[n]then some (.int .i64 ((acc++[n]).count m:Int))else none:=by
  intro m;rw[aM,NR];by_cases e:n=m
  .subst e;simp
  .have e':¬(n:Int)=(m:Int):=ae;rw[if_neg e',U' m];simp[e,Ne.symm e]
 have JQ:∀w',MS (λn:Int=>xf .i64 n) w' mm (bF (n:Int) (.int .i64<|(acc.count n:Int)+1) L)->(qm 171 (.map<|some mm) (.int .i64 (n:Int)) false).run qh w'=.ok (.int .i64<|(acc.count n:Int)+1) w':=by
  intro w' hM;have hl:=hM.look (KL.num qi) qk (yD w') (n:Int) trivial (λ_ _=>trivial) false;rw[aM,if_pos rfl]at hl;simpa using hl
 have HV:=iQ HO;have HM:=ai jB;have HB:=ai wF;have HH:=ai JQ;obtain⟨c,f,z⟩:=wF;by_cases hm:n∈acc
 .have acG:=List.count_pos_iff.2 hm;have akV:((acc.count n:Int)+1==1)=false:=bP;go_enter func332,ntmps332;go_wp2_with(refine aV _ rfl _ _ _ _ (Or.inr rfl) (KL.num Tryz.underlying98) Tryz.underlying171 _ _ rfl HM (n:Int) (.int .i64<|(acc.count n:Int)+1) rfl rfl trivial (λ_ _=>trivial) ?_;intro w' H' O';have JQ:=uh HH w' H';obtain⟨c1,f1,z1⟩:=HB.one O' d1;have C5:=ai H';have O2:=ai O';clear H' O');go_ret;have O:=uh O2;refine⟨rfl,_,_,⟨_,v,rfl,rfl,⟨c1,f1,z1⟩,C5,HG,HL.one O d3.symm,?_,by rw[O.size];exact b4⟩,λb q=>Or.inl q,λb q=>Or.inl q,⟨O.os,O.tape,O.output,by rw[O.size];exact br _,λk _ hn=>O.block k<|λe=>hn<|Or.inl e⟩⟩;have es:(acc++[n]).foldl Un.seen []=acc.foldl Un.seen []:=by
   rw[jq];exact IP<|(gA n acc []).2<|j6 hm
  rw[es];exact lC HO λk hk=>O.block k (λe=>by have:=HV k hk;omega)
 .have h0:=List.count_eq_zero_of_not_mem hm;rw[h0]at hl' HG HH alh;have ES:(acc++[n]).foldl xh []=acc.foldl xh []++[n]:=by
   rw[jq];show xh _ n=_;rw[xh,if_neg<|λq=>hm<|by simpa using(gA n acc []).1 q]
  have yE:(ox<|acc.foldl xh []).length+[xf .i64 (n:Int)].length<=1000000000000:=by
   have hlen:=dh acc [];simp[ox]at hlen⊢;omega
  have ag5:∀u∈[Value.int .i64 (n:Int)],u.oneCell'=true:=qAn;have HA:∀w',gG w' 98 base v (ox<|acc.foldl Un.seen [])->Hid (gG (w'.alloc<|.cells #[.int .i64 (n:Int)] 98) 98 base v<|ox<|acc.foldl Un.seen []):=λw' ho=>ai<|lC ho λk hk=>(MapKept.heap_alloc _ _).2 k (iQ ho k hk).2;go_enter func332,ntmps332
  go_wp2_with(first
   |(refine aV _ rfl _ _ _ _ (j6 rfl) (KL.num qi) qk _ _ rfl HM (n:Int) (.int .i64 1) rfl rfl trivial (λ_ _=>trivial) ?_;intro w' H' O';have JQ:=uh HH w' H';obtain⟨c1,f1,z1⟩:=HB.one O' d1;obtain⟨cl,fl,zl⟩:=HL.one O' d3.symm;have OW:=ai (lC HO<|λk hk=>O'.block k (λe=>by have:=HV k hk;omega));have C5:=ai H';have O2:=ai O';have hz':w.heap.size<=w'.heap.size:=Nat.le_of_eq O'.size.symm;clear H' O')
   |(at_builtin;go_loud(refine afi Cp adB rfl aH rfl (.tmp 13) (.tmp 15) rfl rfl (uh<|HA w' OW) rfl (gG.new w' 98 [.int .i64 (n:Int)] 0 (j9 _) ag 1 rfl) ag5 yE (j8 b4<|j8 hz' ag) ?_);intro v2 w2 o2 g2 k2;obtain⟨g3,cp3,m3,rfl,_,_,M3⟩:=iB o2 ag;obtain⟨c2,f2,z2⟩:=JP (Bx.below (show Bx w' lb #[v]from⟨cl,fl,zl⟩)<|bw<|.cells #[.int .i64 (n:Int)] 98) g2 (λe=>by have:=HV lb e;omega);have OV:=ai o2;have GV:=ai g2;have KV:=ai k2;clear o2 g2 k2))
  go_ret;have O:=uh O2;have g:=uh GV;have o:=uh OV;have bl:Below w'.heap.size w' (w'.alloc<|.cells #[.int .i64 (n:Int)] 98):=bw _;have hzz:=g.size;have m7:=bl.size;have hv:=HV;have hold:∀k,k<w.heap.size->k≠mm->k≠lb->v.ownBlock≠some k->(w2.setCell ⟨lb,0,none⟩<|.slice (some ⟨g3,0,none⟩) m3 cp3).heap[k]? =w.heap[k]? :=λk h1 h2 h3 h4=>by
   rw[qz _ _ _ _ (by show k≠lb;exact h3),g.block k ae<|λe=>h4 e.symm,bl.block k ae,O.block k h2]
  have hss:(w2.setCell ⟨lb,0,none⟩<|.slice (some ⟨g3,0,none⟩) m3 cp3).heap.size=w2.heap.size:=C9;have ali:∀k,k<w.heap.size->k≠lb->v.ownBlock≠some k->(w2.setCell ⟨lb,0,none⟩<|.slice (some ⟨g3,0,none⟩) m3 cp3).heap[k]? =w'.heap[k]? :=λk h1 h3 h4=>by
   rw[qz _ _ _ _ (by show k≠lb;exact h3),g.block k ae<|λe=>h4 e.symm,bl.block k ae]
  have nb:∀k,k<base->v.ownBlock≠some k:=λk h e=>by have:=hv k e;omega
  have ho2:=iQ o;refine⟨rfl,_,_,⟨_,.slice (some ⟨g3,0,none⟩) m3 cp3,rfl,rfl,?_,?_,HG,?_,?_,ae⟩,λb q=>j7 q,λb q=>?_,⟨?_,?_,?_,ae,λk hk hn=>hold k hk (λe=>hn<|j7 e) (λe=>hn<|j6<|j7 e)<|λe=>hn<|j6<|j6 e⟩⟩
  .exact HB.same ae (hold mb z d1 d2<|nb mb b1)
  .exact C5.same (ali mm ae d3<|nb mm b2)
  .exact Bx.aP (C:=#[v]) ⟨c2,f2,z2⟩ 0 _ _ rfl ag
  .rw[ES];have e:ox (acc.foldl xh []++[n])=ox (acc.foldl xh [])++[.int .i64 (n:Int)]:=by simp[ox]
   rw[e];exact lC o λk hk=>qz _ _ _ _ (by show k≠lb;intro e;have:=(ho2 k hk).1;omega)
  .obtain q|q|q:=q
   .exact j7 (j7 q)
   .exact j7 (j6<|j7 q)
   .have:=(ho2 b q).1;by_cases hbw:b<w.heap.size
    .obtain r|r:=uh KV b q
     .exact j7 (j6<|j6 r)
     .exact absurd r bP
    .exact j6 ae
  .exact g.os.trans O.os
  .exact g.tape.trans O.tape
  .exact g.output.trans O.output
def adC acc B M w w'(h:VI mb mm lb base acc B M w)(hz:w.heap.size<=w'.heap.size)(hb:∀b,B b\/M b->w'.heap[b]? =w.heap[b]?):VI mb mm lb base acc B M w':=by
 obtain⟨L,v,rfl,rfl,wF,jB,U',hlb,fS,b4⟩:=h;exact⟨L,v,rfl,rfl,wF.same hz<|hb mb<|j7 rfl,jB.same<|hb mm<|j6<|j7 rfl,U',hlb.same hz<|hb lb<|j6<|j6<|j7 rfl,lC fS λk hk=>hb k<|j6<|j6<|j6 hk,j8 b4 hz⟩
def ajx acc B M w(h:VI mb mm lb base acc B M w):∀b,B b\/M b->b<w.heap.size:=by
 obtain⟨L,v,rfl,rfl,wF,jB,U',hlb,fS,b4⟩:=h;rintro b(rfl|rfl|rfl|q)
 .exact wF.z
 .exact jB.lt
 .exact hlb.z
 .exact(iQ fS b q).2
def Z9(hd:mb≠mm/\mb≠lb/\mm≠lb)(hb:mb<base/\mm<base/\lb<base):Img 332 #[] #[Pv mb,Pv lb] Ty.var (λacc _=>acc.length<1000000000000) (VI mb mm lb base) where
 eg:=enters_of Tryz.func332 qkr rfl
 od:=adC
 lt:=ajx
 call acc B M w n h hN:=(U_ acc B M n hN h hd hb).mono λe w'⟨h1,B',M',h2,h3,h4,h5⟩=>⟨_,B',M',h1,.var n,h2,h3,h4,h5⟩
end
mutual
def di:∀t:Ty,(occs t).length<=size t
 |.var n=>by simp[occs,size]|.aK c l=>by have:=Dn l;simp only[occs,size];omega
def Dn:∀l:List Ty,(gy l).length<=ah l
 |[]=>by simp[gy,ah]|t::l=>by have:=di t;have:=Dn l;simp only[gy,ah,ug];omega
end
def Va t w(e:Ending)w':=∃v,e=.returned v/\gG w' 98 w.heap.size v (ox<|vars [] t)/\Bq w w'
def fE{w:World}{v:Value}(h:de w Q t v)(hz:size t<=1000000000000):Cq 320 #[v] w (Va t w):=by
 obtain⟨ta,xa,rfl⟩:=h.iface;have bl:Bq w (((w.alloc<|Cv #[Lv none 0 0] 464).alloc<|.map #[] 0).alloc<|Cv #[Mv<|w.heap.size+1] 171):=((bw _).alloc ag _).alloc bP _;have hI:VI (w.heap.size+2) (w.heap.size+1) w.heap.size (w.heap.size+3) [] (λb=>b=w.heap.size+2) (λb=>b=w.heap.size+1\/b=w.heap.size\/(Lv none 0 0).ownBlock=some b) (((w.alloc<|Cv #[Lv none 0 0] 464).alloc<|.map #[] 0).alloc<|Cv #[Mv<|w.heap.size+1] 171):=by
  refine⟨[],Lv none 0 0,rfl,rfl,?_,?_,λn=>by simp[aZ],?_,qy _ _ _ _,ag⟩
  .have:=xk ((w.alloc<|Cv #[Lv none 0 0] 464).alloc<|.map #[] 0) #[Mv<|w.heap.size+1] 171;simpa using this
  .have:=(MS.new (λn:Int=>Iv n)<|w.alloc<|Cv #[Lv none 0 0] 464).below<|bw<|Cv #[Mv<|w.heap.size+1] 171;simpa using this
  .exact((xk w #[Lv none 0 0] 464).below<|bw _).below (bw _)
 have HC:=zP (Z9 (mb:=w.heap.size+2) (mm:=w.heap.size+1) (lb:=w.heap.size) (base:=w.heap.size+3) ae ae) t [] _ _ _ _ (λb=>Q b/\b<w.heap.size) hI (λi hi=>by have:=di t;simp;omega) hz (h.low.af bl) (λb q _ r=>by obtain r|r|r:=r;omega;omega;cases r);have HB:=ai bl;have jB:= @run_makeMap Tryz.prog;go_enter func320,ntmps320;go_wp2_with fail;refine HC.mono ?_;rintro e w1⟨u,B',M',rfl,hU,⟨L,v,rfl,rfl,wF,jB,U',hlb,HO,b4⟩,hB,hM,F⟩;have z1:=F.size;have HF:=ai F;obtain⟨c2,f2,z2⟩:=hlb
 go_wp2
 go_ret;refine⟨v,rfl,?_,?_⟩
 .have e:List.foldl xh [] ([]++occs t)=vars [] t:=by rw[cD];rfl
  rw[<-e];exact JO HO ae
 .have F:=uh HF;have b:=uh HB;exact⟨F.os.trans b.os,F.tape.trans b.tape,F.output.trans b.output,j8 b.size F.size,λi hi=>(F.block i (qf hi b.size) (λq=>by obtain q|q|q:=q;omega;omega;cases q)).trans (b.block i hi)⟩
def Vb:(Tryz.prog.info? 67).map (λi=>(i.zero,i.size,i.bytes))=some (some .nilIface,1,16):=qkr
def Fx(l:List Nat):List Value:=l.map λ(n:Nat)=>xd 98<|Nv n
def ag6 l w1 V gk v wr:=
 ∃(j:Nat)(u:Value),Hid (gk=l.length-j)/\j<=l.length/\v=Nv j/\Bq w1 wr/\w1.heap.size+1<=wr.heap.size/\Bx wr w1.heap.size #[.string ⟨#[116,111,111,32,108,97,114,103,101]⟩,u]/\gG wr 98 (w1.heap.size+1) V (ox l)/\gG wr 67 (w1.heap.size+1) u (Fx<|l.take j)/\Hid (∀k,u.ownBlock=some k->V.ownBlock≠some k)
def dP{w:World}{v:Value}(h:gG w e base v xs)(hn:xs.length=n):∃va vc,v=.slice va n vc:=by
 subst hn;obtain⟨h1,h2⟩:=h;obtain⟨rfl,q⟩|⟨g,cp,l7,rfl,_⟩:=h2
 .exact⟨none,0,by rw[q]⟩
 .exact⟨_,_,rfl⟩
def Z_(l:List Nat)j(h:j<l.length):Fx (l.take<|j+1)=Fx (l.take j)++[xd 98<|Nv<|l[j]]:=by
 rw[Fx];rw[ji h,jx];rfl
section
variable {w:World}
def ag7{b}{wr}(h:gG wr 67 b u (Fx l))(hl:l≠[])(hP:∀k,b<=k->P k):∃sa sc,u=.slice sa l.length sc/\de wr P (.aK si<|l.map Ty.var) (.iface 169<|.agg #[.string si,u]):=by
 have hln:0<(Fx l).length:=by simp[Fx];exact Nat.pos_of_ne_zero<|λe=>hl<|jk e
 obtain⟨g,cp,m,rfl,hg,lh,hm⟩:=iB h hln;have hm:=uh hm;simp only[Fx,jy]at hm;subst hm;refine⟨_,_,rfl,?_⟩;have:=de.aK (w:=wr) (P:=P) si (l.map Ty.var) (some ⟨g,0,none⟩) cp (λi=>(Fx l).getD i Zv) (j6 rfl) (j6 ⟨g,rfl,hP g hg,lh,λi hi=>?_⟩)<|λi hi=>?_
 .rw[ZW,jy]at this;exact this
 .have oj:i<(Fx l).length:=by simpa[Fx]using hi
  rw[lZ h i oj,jt,ja oj];rfl
 .have oj:i<(Fx l).length:=by simpa[Fx]using hi
  rw[jt,ja oj];simp only[Fx,List.getElem_map,Option.getD_some];exact .var _
def QW t(Q:Nat->Prop)w(e:Ending)w':=∃u,e=.returned u/\de w' (λb=>Q b\/w.heap.size<=b) (bK t) u/\Bq w w'
def JT{p:Prop}(h:p:=by
 rw[cD];have:=dh (occs t) [];have:=di t;simp at*
 omega):p:=h
def Z'{v:Value}(h:de w Q t v)(hz:size t<=1000000000000):Calls qh 325 #[v] w (QW t Q w):=by
 obtain⟨ta,xa,rfl⟩:=h.iface;have HS:=pV t w _ Q h ae;have hsl:=aeY t;have HT:=ai h;clear h;by_cases hs:sz t<=48
 .have hd:(sz t:Int)<=48:=ae;go_enter func325,ntmps325;go_wp2_with fail;refine HS.mono ?_;rintro e w1⟨rfl,HB⟩;clear HS
  go_wp2
  go_ret;unfold QW bK;rw[if_pos hs];exact⟨_,rfl,((uh HT).af HB).wide λb q=>j7 q,HB⟩
 .have hd:¬(sz t:Int)<=48:=ae;have HV:=λ(W:World)(hb:Below w.heap.size w W)=>fE ((uh HT).af hb) hz;go_enter func325,ntmps325;go_wp2_with fail;refine HS.mono ?_;rintro e w1⟨rfl,b1⟩;have HB:=ai b1;have z1:=b1.size;clear b1 HS;have HC:=HV (w1.alloc<|.cells #[.string ⟨#[116,111,111,32,108,97,114,103,101]⟩,.slice none 0 0] 169)<|HB.alloc ae _;clear HV;go_wp2_with fail;refine HC.mono ?_;rintro e w2⟨V,rfl,HO,b2⟩;have yE:(vars [] t).length<=1000000000000:=by
   exact JT
  generalize Cn:vars [] t=l at*;clear HC;obtain⟨va,vc,rfl⟩:=dP HO (n:=l.length) (by simp[ox]);have eA:=ai b2;clear b2
  go_wp2
  go_loopg[14] l.length (λgk v wr=>ag6 l w1 (.slice va l.length vc) gk v wr)
  case atStart=>
   have b2:=uh eA;have b1:Below w1.heap.size w1 (w1.alloc<|.cells #[.string ⟨#[116,111,111,32,108,97,114,103,101]⟩,.slice none 0 0] 169):=bw _;have i_:=b2.size;have hz3:(w1.alloc<|.cells #[.string ⟨#[116,111,111,32,108,97,114,103,101]⟩,.slice none 0 0] 169).heap.size=w1.heap.size+1:=ag;rw[hz3]at i_;exact⟨0,.slice none 0 0,ai ag,j9 _,rfl,b1.trans<|b2.mono b1.size,i_,(xk w1 _ _).below b2,by simpa using HO,qy _ _ _ _,ai<|λk hk=>by cases hk⟩
  case round=>
   obtain⟨j,u,dv,hj,rfl,F1,zz,T1,O1,O2,hdj⟩:=hrel;by_cases bq:j<l.length
   .have hd:(j:Int)<(l.length:Int):=ae;have hjv:j<(ox l).length:=by simpa[ox]using bq
    obtain⟨gv,cpv,mv,hv,hgv,lh,_⟩:=iB O1 ae;injection hv with Mk Tx hv3;subst Mk;have cg:=lZ O1 j hjv;rw[show(ox l)[j]=xf .i64 (l[j]:Int) by simp[ox]]at cg;obtain⟨sa,sc,rfl⟩:=dP O2 (n:=j) (by simp[Fx];omega);generalize hx:l[j]=x at*;have BG:=ai F1;have O1':=ai O1;have O2':=ai O2;have TD:=ai T1;have ag5:∀u∈[xd 98<|.int .i64 (x:Int)],u.oneCell'=true:=qAn;have hlen:(Fx<|l.take j).length+[xd 98<|.int .i64 (x:Int)].length<=1000000000000:=by simp[Fx];omega
    have HA:Hid (gG (wr.alloc<|.cells #[.iface 98<|.int .i64 (x:Int)] 67) 67 (w1.heap.size+1) (.slice sa j sc)<|Fx<|l.take j):=ai<|lC O2 λk hk=>(xi _ _).2 k (iQ O2 k hk).2;obtain⟨tc,tf,tz⟩:=T1;clear F1 O1 O2 Tx hv3;go_wp2_with(at_builtin;go_loud(refine afi eF Vb rfl aH rfl (.tmp 19) (.tmp 22) rfl rfl HA rfl (gG.new wr 67 [.iface 98<|.int .i64 (x:Int)] 0 (j9 _) ag 1 rfl) ag5 hlen (j8 zz ag) ?_);intro v2 w3 o2 g2 k2;obtain⟨g3,cp3,m3,rfl,_,_,M3⟩:=iB o2 ag;obtain⟨c2,f2,z2⟩:=JP (Bx.below TD<|bw<|.cells #[.iface 98<|.int .i64 (x:Int)] 67) g2 (λe=>by have:=(iQ O2' _ e).1;omega);have OV:=ai o2;have GV:=ai g2;have KV:=ai k2;clear o2 g2 k2);go_roundg(l.length-(j+1))
    case measure=>rw[uh dv];omega
    case rel=>
     have g:=uh GV;have o:=uh OV;have f1:=uh BG;have o1:=uh O1';have ho2:=iQ o;have bl:Below wr.heap.size wr (wr.alloc<|.cells #[.iface 98<|.int .i64 (x:Int)] 67):=bw _;have m7:=bl.size;have hzz:=g.size;have hss:(w3.setCell ⟨w1.heap.size,1,none⟩<|.slice (some ⟨g3,0,none⟩) m3 cp3).heap.size=w3.heap.size:=C9;have fS:∀k,(xg sa j sc).ownBlock=some k->w1.heap.size+1<=k:=λk hk=>(iQ (uh O2') k hk).1;have hold:∀k,k<wr.heap.size->k≠w1.heap.size->(xg sa j sc).ownBlock≠some k->(w3.setCell ⟨w1.heap.size,1,none⟩<|.slice (some ⟨g3,0,none⟩) m3 cp3).heap[k]? =wr.heap[k]? :=λk h1 h3 h4=>by
      rw[qz _ _ _ _ (by show k≠w1.heap.size;exact h3),g.block k ae<|λe=>h4 e.symm,bl.block k ae]
     refine⟨j+1,.slice (some ⟨g3,0,none⟩) m3 cp3,ai rfl,ae,jT,⟨?_,?_,?_,?_,λk hk=>?_⟩,ae,?_,?_,?_,ai<|λk hk mY=>?_⟩
     .exact g.os.trans f1.os
     .exact g.tape.trans f1.tape
     .exact g.output.trans f1.output
     .have:=f1.size;omega
     .have:=f1.size;exact(hold k ae ae (λe=>by have:=fS k e;omega)).trans (f1.block k hk)
     .exact Bx.aP (C:=#[.string ⟨#[116,111,111,32,108,97,114,103,101]⟩,.slice sa j sc]) ⟨c2,f2,z2⟩ 1 _ _ rfl ag
     .exact lC o1 λk hk=>hold k (iQ o1 k hk).2 (λe=>by have:=(iQ o1 k hk).1;omega)<|λe=>uh hdj k e hk
     .rw[Z_ l j bq,hx];exact lC o λk hk=>qz _ _ _ _ (by show k≠w1.heap.size;intro e;have:=(ho2 k hk).1;omega)
     .obtain r|r:=uh KV k hk
      .exact uh hdj k r mY
      .have:=(iQ o1 k mY).2;omega
   .have hd:decide ((j:Int)<(l.length:Int))=false:=bP;have ej:j=l.length:=ae;subst ej;obtain⟨tc,tf,tz⟩:=T1;have O2':=ai O2;have BG:=ai F1;clear O1 O2 F1
    go_wp2
    go_ret;have f1:=uh BG;have o2:=uh O2';rw[jf]at o2;refine⟨_,rfl,?_,HB.trans<|f1.mono z1⟩;have hc:bK t=.aK si (l.map Ty.var):=by unfold bK;rw[if_neg hs,Cn]
    rw[hc];by_cases hl:l=[]
    .subst hl;obtain⟨q1,q2⟩:=o2;obtain⟨sa,sc,rfl⟩:=dP (uh O2') (n:=0) (by simp[Fx]);have:=de.aK (w:=wr) (P:=λb=>Q b\/w.heap.size<=b) si [] sa sc (λ_=>.nilIface) (j6 rfl) (j7 rfl) (λi hi=>by simp at hi);rw[ZW]at this;exact this
    .obtain⟨_,_,_,h⟩:=ag7 o2 hl (P:=λb=>Q b\/w.heap.size<=b)<|λk hk=>j6 ae;exact h
end
end
section
open Go.MapKept
section
variable {enc:κ->Value}
def MG(enc:κ->Value)(w:World)(b:Nat)(L:List (κ×Value)):=∃es clock,w.heap[b]? =some (.map es clock)/\es.toList.map (λe=>(e.key,e.val))=L.map (λp=>(enc p.1,p.2))/\(es.toList.map (·.born)).Nodup/\(∀e∈es.toList,e.born<clock)/\(L.map (·.1)).Nodup
variable {w:World} {b:Nat} {L:List (κ×Value)} {P:Program} {k t:TypeId}
def MG.ms(h:MG enc w b L):MS enc w b L:=by grind[MG,MS]
def MG.same(h:MG enc w b L)(hb:w'.heap[b]? =w.heap[b]?):MG enc w' b L:=by grind[MG]
def MG.new(enc:κ->Value)(w:World):MG enc (w.alloc<|.map #[] 0) w.heap.size []:=⟨#[],0,(xi w _).1,rfl,ag,ag,ag⟩
def MG.nodup(h:MG enc w b L):(L.map (·.1)).Nodup:=by grind[MG]
def ajy{es:List MapEntry}(h:es.map (λe=>(e.key,e.val))=L.map (λp=>(enc p.1,p.2))):es.map (·.key)=(L.map (·.1)).map enc:=by
 have:=congrArg (List.map Prod.fst) h;simpa[List.map_map,Function.comp_def]using this
def IG(enc:κ->Value)(w:World)(r gb:Nat)(L:List (κ×Value))(done:List κ)cnt:=∃(es:Array MapEntry)(clock since:Nat)(seen:Array Nat)(c0:Nat),w.heap[gb]? =some (.map es clock)/\es.toList.map (λe=>(e.key,e.val))=L.map (λp=>(enc p.1,p.2))/\(es.toList.map (·.born)).Nodup/\(∀e∈es.toList,e.born<since)/\since<=c0/\since<=clock/\w.heap[r]? =some (.mapIter (some gb) since seen c0)/\(L.map (·.1)).Nodup/\(leftOf es seen).size=cnt/\∀e∈es.toList,∀x,e.key=enc x->(seen.contains e.born=true↔x∈done)
def IG.same{cnt}{done}(h:IG enc w r gb L done cnt)(h1:w'.heap[gb]? =w.heap[gb]?)(h2:w'.heap[r]? =w.heap[r]?):IG enc w' r gb L done cnt:=by
 obtain⟨es,clock,since,seen,c0,a1,a2,a3,a4,a5,a6,a7,a8⟩:=h;exact⟨es,clock,since,seen,c0,h1.trans a1,a2,a3,a4,a5,a6,h2.trans a7,a8⟩
def IG.lt{cnt}{done}(h:IG enc w r gb L done cnt):gb<w.heap.size/\r<w.heap.size/\gb≠r:=by grind[cnt,IG]
def MG.range(h:MG enc w b L)(ht:P.underlying t=some (.map k e)):∃o cnt,(Instr.range t<|Mv b).run P w=.ok (Pv w.heap.size) (w.alloc o)/\IG enc (w.alloc o) w.heap.size b L [] cnt:=by
 obtain⟨es,clock,a1,a2,a3,a4,a5⟩:=h;have bz:=(Array.getElem?_eq_some_iff.1 a1).1;refine⟨_,_,run_range_map w t _ _ b es clock ht a1,es,clock,clock,#[],clock,((xi w _).2 _ bz).trans a1,a2,a3,a4,br _,br _,heap_alloc_new w _,a5,rfl,λe he x hx=>ag⟩
def MG.one{c}(h:MG enc w b L)(o:One c w w')(hn:b≠c):MG enc w' b L:=h.same<|o.block b hn
end
section
variable [DecidableEq κ] {enc:κ->Value}
variable {w:World} {b:Nat} {L:List (κ×Value)} {P:Program} {k t:TypeId}
def MG.lt(h:MG enc w b L):b<w.heap.size:=h.ms.lt
def MG.af(h:MG enc w b L)(hb:Bq w w'):MG enc w' b L:=h.same<|hb.block b h.lt
def MG.fr(h:MG enc w b L)(hf:Fr S w w')(hn:¬S b):MG enc w' b L:=h.same<|hf.block b h.lt hn
def tG(l:List MapEntry)j f(hf:∀e,(f e).born=e.born):(l.modify j f).map (·.born)=l.map (·.born):=by
 induction l generalizing j with
 |nil=>cases j<;>simp|cons e r ih=>grind
def JU{x y:κ}{v:Value}:∀{L:List (κ×Value)},y∈(bF x v L).map (·.1)->y=x\/y∈L.map (·.1)
 |[],h=>by simpa[bF]using h|p::l,h=>by
  rw[bF]at h;split at h
  .rename_i e;simp only[jc,jm]at h⊢;obtain h|h:=h
   .exact j7 h
   .exact j6 (j6 h)
  .simp only[jc,jm]at h⊢;obtain h|h:=h
   .exact j6 (j7 h)
   .obtain q|q:=JU h
    .exact j7 q
    .exact j6 (j6 q)
def rT{x:κ}{v:Value}:∀{L:List (κ×Value)},(L.map (·.1)).Nodup->((bF x v L).map (·.1)).Nodup
 |[],_=>by simp[bF]|p::l,h=>by
  simp only[jc,jo]at h;rw[bF];split
  .rename_i e;simp only[jc,jo];rw[<-e];exact h
  .rename_i e;simp only[jc,jo];refine⟨λq=>?_,rT h.2⟩;obtain r|r:=JU q
   .exact e r
   .exact h.1 r
def MG.put(K:KL P k enc (λ_ _=>True))(h:MG enc w b L)(ht:P.underlying t=some (.map k e))x v:∃o,(qn t (Mv b) (enc x) v).run P w=.ok () (setBlock w b o)/\MG enc (setBlock w b o) b (bF x v L):=by
 obtain⟨es,clock,hb,m9,hn,hk,hd⟩:=h;have hf:=K.fin x L es.toList w trivial (λ_ _=>trivial) m9;rw[qn];simp only[Sem.run_bind,run_underlying ht,xm,MapKept.run_getObj_map hb,K.chk,hf]
 cases yd:yc x L 0 with
 |none=>
  refine⟨.map (es.push {key:=enc x,val:=v,born:=clock})<|clock+1,by rw[yd]at hf;simp[hf,xm];exact xj _ hb,_,_,(heap_setBlock_same hb _),?_,?_,?_,rT hd⟩
  .rw[oS x v L<|oU x L 0 yd];simp[m9]
  .simp only[Array.toList_push,jx,jc,j5];rw[ju];refine⟨hn,ag,?_⟩;intro a ha c hc;obtain⟨e,he,rfl⟩:=List.mem_map.1 ha;simp only[List.mem_singleton]at hc;have:=hk e he;omega
  .grind
 |some p=>
  obtain⟨j,u⟩:=p;have⟨_,e0,h2,h3,h4⟩:=EH (enc:=enc) x v L es.toList 0 j u m9 yd;have Ek:es[j]? =some e0:=by simpa using h2
  refine⟨.map (es.modify j λe=>{e with key:=enc x,val:=v}) clock,?_,_,_,(heap_setBlock_same hb _),by simpa using h4,?_,?_,rT hd⟩
  .rw[yd]at hf;simp[hf,xm,Ek,h3,Instr.keyThatStays,K.bit];exact xj _ hb
  .rw[qw,tG es.toList j (λe=>{e with key:=enc x,val:=v}) (λ_=>rfl)];exact hn
  .intro e he;have:e.born∈(es.modify j λe=>{e with key:=enc x,val:=v}).toList.map (·.born):=jp he;rw[qw,tG es.toList j (λe=>{e with key:=enc x,val:=v}) (λ_=>rfl)]at this;have⟨e',h1,h2⟩:=List.mem_map.1 this;rw[<-h2];exact hk e' h1
def cu(K:KL P k enc (λ_ _=>True))(ht:P.underlying t=some (.map k e)){a}{Q}(hg:o.guard=none)m x v(r_:o.op=Op.insert t m x v\/o.op=Op.mapUpdate t m x v)(hm:a.eval m=Mv b)(hM:MG enc w b L)key val(hx:a.eval x=enc key)(hv:a.eval v=val)(hK:∀w',MG enc w' b (bF key val L)->One b w w'->wpList P ops Q rest (a.put o.dst undef) w'):
 wpList P ops Q (o::rest) a w:=by
 refine wpList_plain hg λK' hK'=>?_;have⟨ob,lN,r1⟩:=hM.put K ht key val;rw[Oper.wp];obtain r_|r_:=r_<;>
 .simp[execOp,r_,hm,hx,hv,lN,xm];exact hK' _ _<|hK _ r1<|One.set w b ob
def tH{x:κ}:∀{L:List (κ×Value)},(aZ x L).isSome=true↔x∈L.map (·.1)
 |[]=>by simp[aZ]|p::l=>by
  rw[aZ];split
  .rename_i e;simp[e]
  .rename_i e;rw[tH (L:=l)];simp only[jc,jm];exact⟨j6,λq=>q.elim (λq=>absurd q.symm e) id⟩
def QX{x:κ}{v:Value}:∀{L:List (κ×Value)},(L.map (·.1)).Nodup->(x,v)∈L->aZ x L=some v
 |[],_,h=>vR|p::l,hn,h=>by
  simp only[jc,jo]at hn;rw[aZ];obtain rfl|h:=List.mem_cons.1 h
  .simp
  .have:p.1≠x:=λe=>hn.1 (by rw[e];exact jp (f:=(·.1)) h);rw[if_neg this];exact QX hn.2 h
def qA{x:κ}{v:Value}:∀{L:List (κ×Value)},aZ x L=some v->(x,v)∈L
 |[],h=>qBg|p::l,h=>by
  rw[aZ]at h;split at h
  .rename_i e;simp only[Option.some.injEq]at h;subst e h;simp
  .exact jj _ (qA h)
def ajz enc P w r gb L(done:List κ)(cnt:Nat):=((∀x v,aZ x L=some v->x∈done)/\(qp (Pv r) false 0).run P w=.ok (.tuple #[.bool false]) w)\/
    ∃x v w1 aE,x∉done/\aZ x L=some v/\(qp (Pv r) false 0).run P w=.ok (.tuple #[.bool true,enc x,v]) w1/\IG enc w1 r gb L (x::done) aE/\aE<cnt/\Fr (λb=>b=r) w w1/\w1.heap.size=w.heap.size/\(Instr.entry<|Pv r).run P w1=.ok (.tuple #[enc x,v]) w1
def IG.next(alj:∀x y,enc x=enc y->x=y){cnt}{done}(h:IG enc w r gb L done cnt):ajz enc P w r gb L done cnt:=by
 have⟨hg1,hr1,df⟩:=h.lt;obtain⟨es,clock,since,seen,c0,a1,a2,a3,a4,a5,a6,a7,a8,a10,a11⟩:=h;have YH:=ajy a2;rcases run_next_at (P:=P) w 0 r gb since c0 seen es clock a7 a1 a4 a5 with⟨h0,lN⟩|⟨e,he,w1,xW,lN⟩
 .left;refine⟨λx v hx=>?_,lN⟩;have ru:=tH.1 (by rw[hx];rfl);have:enc x∈es.toList.map (·.key):=xC;have⟨e,he,hk⟩:=List.mem_map.1 this;exact(a11 e he x hk).1 (all_seen es seen h0 e he)
 .right;have⟨WO,he2⟩:=mem_left he;obtain⟨x,hx,hxL⟩:∃x,e.key=enc x/\(x,e.val)∈L:=by
   have:(e.key,e.val)∈es.toList.map (λe=>(e.key,e.val)):=jp (f:=λe:MapEntry=>(e.key,e.val)) WO;rw[a2]at this;have⟨p,hp,q⟩:=List.mem_map.1 this;obtain⟨px,pv⟩:=p;simp only[Prod.mk.injEq]at q;exact⟨px,q.1.symm,by rw[<-q.2];exact hp⟩
  have Bk:x∉done:=λq=>by
   have:=(a11 e WO x hx).2 q;rw[he2]at this;cases this
  have M7:w1.heap=w.heap:=by obtain rfl|rfl:=xW<;>rfl
  have b1:∀k,k≠r->(setBlock w1 r<|.mapIter (some gb) since (seen.push e.born) clock).heap[k]? =w.heap[k]? :=λk hk=>by
   have:(setBlock w1 r<|.mapIter (some gb) since (seen.push e.born) clock).heap[k]? =w1.heap[k]? :=by simp[setBlock,qv,Ne.symm hk]
   rw[this,M7]
  have b2:(setBlock w1 r<|.mapIter (some gb) since (seen.push e.born) clock).heap[r]? =some (.mapIter (some gb) since (seen.push e.born) clock):=by
   have WL:r<w1.heap.size:=by rw[M7];exact hr1
   simp[setBlock,qv,WL]
  have fW:(setBlock w1 r<|.mapIter (some gb) since (seen.push e.born) clock).heap.size=w.heap.size:=by simp[setBlock,M7]
  have hnk:(es.toList.map (·.key)).Nodup:=xC;refine⟨x,e.val,_,_,Bk,QX a8 hxL,by rw[lN,hx],⟨es,clock,since,seen.push e.born,clock,(b1 gb df).trans a1,a2,a3,a4,a6,a6,b2,a8,rfl,λe' he' y hy=>?_⟩,by rw[<-a10];exact left_shrinks es seen e he,⟨by obtain rfl|rfl:=xW<;>rfl,by obtain rfl|rfl:=xW<;>rfl,by obtain rfl|rfl:=xW<;>rfl,by rw[fW];exact br _,λk _ hk=>b1 k hk⟩,fW,?_⟩
  .rw[contains_push];simp only[Bool.or_eq_true,beq_iff_eq,jm];constructor
   .rintro(q|q)
    .grind
    .have:e'=e:=born_inj a3 he' WO q;rw[this,hx]at hy;exact j7 (alj _ _ hy).symm
   .rintro(q|q)
    .right;have:e'=e:=by
      have hk:e'.key=e.key:=by rw[hy,hx,q]
      exact entry_eq_of_key (by rw[List.Nodup,List.pairwise_map]at hnk;exact hnk) he' WO hk
     rw[this]
    .grind
  .have:=run_entry_at (P:=P) (setBlock w1 r<|.mapIter (some gb) since (seen.push e.born) clock) r gb since seen es clock e b2 ((b1 gb df).trans a1) WO a3;rw[hx]at this;exact this
end
end
section
open Go.MapKept Un
abbrev qI:Int->Value:=λn=>Iv n
def JV:∀x y,qI x=qI y->x=y:=λx y h=>by injection h
abbrev KLV:KL qh 98 qI (λ_ _=>True):=KL.num qi
def fh w P b(D:Nat->Option Ty):=
 ∃L,MG qI w b L/\(∀n:Nat,aZ (n:Int) L=none->D n=none)/\(∀(n:Nat)u,aZ (n:Int) L=some u->∃t,D n=some t/\de w P t u)/\∀x u,aZ x L=some u->∃n:Nat,x=(n:Int)
def D7(D:Nat->Option Ty)n:=(D n).getD<|.var n
section
variable {w:World} {b:Nat}
theorem fh.move(h:fh w P b D)(hs:w.heap.size<=w'.heap.size)(hb:w'.heap[b]? =w.heap[b]?)(hp:∀x,P x->x<w.heap.size->w'.heap[x]? =w.heap[x]?)(hq:∀x,P x->x<w.heap.size->Q x):fh w' Q b D:=by
 obtain⟨L,h1,h2,h3,h4⟩:=h;exact⟨L,h1.same hb,h2,λn u hu=>by have⟨t,e,ht⟩:=h3 n u hu;exact⟨t,e,ht.move hs hp hq⟩,h4⟩
def fh.lt(h:fh w P b D):b<w.heap.size:=qAr
def fh.af(h:fh w P b D)(hb:Bq w w'):fh w' P b D:=h.move hb.size (hb.block b h.lt) (λx _ hx=>hb.block x hx)<|λ_ p _=>p
def fh.fr(h:fh w P b D)(hf:Fr S w w')(hb:¬S b)(hS:∀x,P x->x<w.heap.size->¬S x):fh w' P b D:=h.move hf.size (hf.block b h.lt hb) (λx p z=>hf.block x z<|hS x p z)<|λ_ p _=>p
def fh.wide(h:fh w P b D)(hq:∀x,P x->Q x):fh w Q b D:=h.move (br _) rfl (λ_ _ _=>rfl) (λx p _=>hq x p)
def fh.low(h:fh w P b D):fh w (λx=>P x/\x<w.heap.size) b D:=h.move (br _) rfl (λ_ _ _=>rfl) (λx p z=>⟨p,z⟩)
def fh.new(w:World)P:fh (w.alloc<|.map #[] 0) P w.heap.size (λ_=>none):=⟨[],MG.new qI w,λ_ _=>rfl,λn u h=>qBg,λx u h=>qBg⟩
def adD w:(zeroValue 67).run qh w=.ok .nilIface w:=qkr
def fh.look(h:fh w P b D){tm}(ht:Tryz.prog.underlying tm=some (.map 98 67))n:(∃t u,D n=some t/\de w P t u/\(qm tm (Mv b) (Nv n) true).run qh w=.ok (.tuple #[u,.bool true]) w)\/
 (D n=none/\(qm tm (Mv b) (Nv n) true).run qh w=.ok (.tuple #[.nilIface,.bool false]) w):=by
 obtain⟨L,h1,h2,h3,h4⟩:=h;have hl:=h1.ms.look KLV ht (adD w) (n:Int) trivial (λ_ _=>trivial) true
 cases hg:aZ (n:Int) L with
 |none=>grind|some u=>grind
def iC:Tryz.prog.underlying 457=some (.map 98 67):=qkr
def pw:Tryz.prog.underlying 498=some (.map 98 67):=qkr
def ed:Tryz.prog.underlying 216=some (.map 9 467):=qkr
def adE(h:fh w P b D)n:Cq 327 #[Mv b,Nv n] w λe w'=>∃u,e=.returned u/\de w P (D7 D n) u/\w'=w:=by
 obtain⟨t,u,e1,H1,hl⟩|⟨e1,hl⟩:=h.look iC n
 .obtain⟨ta,xa,rfl⟩:=H1.iface;have E1:=ai e1;go_enter func327,ntmps327
  go_wp2
  go_ret;exact⟨_,rfl,by rw[D7];rw[uh E1];exact H1,rfl⟩
 .have E1:=ai e1;go_enter func327,ntmps327
  go_wp2
  go_ret;exact⟨_,rfl,by rw[D7];rw[uh E1];exact .var n,rfl⟩
def ImI(P:Nat->Prop)n0 b D(_:List Nat)(B M:Nat->Prop)w:=(B=λx=>P x/\x<n0)/\(M=λ_=>False)/\fh w (λx=>P x/\x<n0) b D/\n0<=w.heap.size
def Vc(hb:P b){n0:Nat}(hn:b<n0):Img 327 #[Mv b] #[] (D7 D) (λ_ _=>True) (ImI P n0 b D) where
 eg:=enters_of Tryz.func327 qkr rfl
 od acc B M w w' h hz hk:=by
  obtain⟨rfl,rfl,h1,h2⟩:=h;exact⟨rfl,rfl,h1.move hz (hk b<|j7 ⟨hb,hn⟩) (λx p _=>hk x<|j7 p)<|λ_ p _=>p,j8 h2 hz⟩
 lt acc B M w h:=by
  obtain⟨rfl,rfl,h1,h2⟩:=h;rintro x(p|p)
  .omega
  .exact p.elim
 call acc B M w n h _:=by
  obtain⟨rfl,rfl,h1,h2⟩:=h;refine(adE h1 n).mono ?_;rintro e w'⟨u,rfl,hu,rfl⟩;exact⟨u,_,_,rfl,hu.wide λx p=>⟨λq=>q,j7 p⟩,⟨rfl,rfl,h1,h2⟩,λx p=>j7 p,λx p=>j7 p,Fr.refl _ _⟩
def QY t(P:Nat->Prop)w(e:Ending)w':=∃u,e=.returned u/\de w' (λx=>P x\/w.heap.size<=x) t u/\Bq w w'
def Fr.none(h:Fr S w w')(hS:∀b,¬S b):Bq w w':=⟨h.os,h.tape,h.output,h.size,λk hk=>h.block k hk<|hS k⟩
def Ih(h:fh w P b D)(hb:P b){v}(ht:de w Q t v)(hz:size t<=1000000000000)(i_:size (sub (D7 D) t)<=1000000000000):Cq 314 #[Mv b,v] w (QY (bK<|sub (D7 D) t) P w):=by
 have HC:=zP (Vc (D:=D) hb h.lt) t [] _ _ w v Q ⟨rfl,rfl,h.low,br _⟩ (λi hi=>trivial) hz ht<|λx _ _=>id;obtain⟨ta,xa,rfl⟩:=ht.iface;go_enter func314,ntmps314;go_wp2_with fail;refine HC.mono ?_;rintro e w1⟨u,B',M',rfl,hU,_,_,_,F⟩;obtain⟨tu,xu,rfl⟩:=hU.iface;have b1:=F.none<|λ_ q=>q;have HB:=ai b1;have HK:=Z' hU i_;go_wp2_with fail;refine HK.mono ?_;rintro e w2⟨u2,rfl,HU,eA⟩;obtain⟨tu2,xu2,rfl⟩:=HU.iface
 go_wp2
 go_ret;have b1:=uh HB;refine⟨_,rfl,HU.wide λx p=>?_,b1.trans<|eA.mono b1.size⟩;obtain p|p:=p
 .obtain q|q:=p.2
  .exact j7 q.1
  .exact j6 q
 .exact j6 (j8 b1.size p)
end
section
variable {w:World} {b:Nat}
def Fy{κ:Type}enc(L:List (κ×Value))(w:World)(e:Ending)(w':World):=e=.returned (Mv w.heap.size)/\MG enc w' w.heap.size L/\Bq w w'/\w'.heap.size=w.heap.size+1
def Vd{enc}{L:List (κ×Value)}{es:Array MapEntry}{clock:Nat}(h:es.toList.map (λe=>(e.key,e.val))=L.map (λp=>(enc p.1,p.2))/\(es.toList.map (·.born)).Nodup/\(∀e∈es.toList,e.born<clock)/\(L.map (·.1)).Nodup):Fy enc L w (.returned<|Mv w.heap.size) (w.alloc<|.map es clock):=
 ⟨rfl,⟨es,clock,(xi w _).1,h⟩,bw _,ag⟩
def cS:Tryz.prog.underlying 220=some (.map 9 116):=qkr
def Fz{p:Prop}(h:p:=by
 simp only[xm];rw[Oper.upon_value]
 go_wp2
 go_ret
 exact Vd HR):p:=h
def aaa(h:MG qI w b L):Cq 356 #[Mv b] w (Fy qI L w):=by
 obtain⟨es,clock,hb,HR⟩:=h;have hq:=λw=>run_eql_map_nil_sl (P:=Tryz.prog) w 457 _ _ (some b) iC;go_enter func356,ntmps356;go_wp2_with fail;rw[run_callFunc_extern Tryz.func357 qkr qkr qkr (e:=Extern.MapsClone.clone) qkr,run_maps_clone_sl w 457 hb];simp only[Result.andThen];rw[Oper.upon_value];go_wp2_with fail;rw[run_typeAssert_map_sl _ 457 _ _ _ _ iC];exact Fz
def Xi{L}(h:MG xc w b L):Cq 347 #[Mv b] w (Fy xc L w):=by
 obtain⟨es,clock,hb,HR⟩:=h;have hq:=λw=>run_eql_map_nil_sl (P:=Tryz.prog) w 216 _ _ (some b) ed;go_enter func347,ntmps347;go_wp2_with fail;rw[run_callFunc_extern Tryz.func357 qkr qkr qkr (e:=Extern.MapsClone.clone) qkr,run_maps_clone_sl w 216 hb];simp only[Result.andThen];rw[Oper.upon_value];go_wp2_with fail;rw[run_typeAssert_map_sl _ 216 _ _ _ _ ed];exact Fz
def aab{L}(h:MG xc w b L):Cq 394 #[Mv b] w (Fy xc L w):=by
 obtain⟨es,clock,hb,HR⟩:=h;have hq:=λw=>run_eql_map_nil_sl (P:=Tryz.prog) w 220 _ _ (some b) cS;go_enter func394,ntmps394;go_wp2_with fail;rw[run_callFunc_extern Tryz.func357 qkr qkr qkr (e:=Extern.MapsClone.clone) qkr,run_maps_clone_sl w 220 hb];simp only[Result.andThen];rw[Oper.upon_value];go_wp2_with fail;rw[run_typeAssert_map_sl _ 220 _ _ _ _ cS];exact Fz
theorem fh.bF(h2:∀m:Nat,aZ (m:Int) L=none->D m=none)(h3:∀(m:Nat)v,aZ (m:Int) L=some v->∃t,D m=some t/\de w P t v)(h4:∀x v,aZ x L=some v->∃m:Nat,x=(m:Int))(ht:de w P t u)(hP:¬P b)(o:One b w w')(hM:MG qI w' b (Go.Proofs.YtfnkchdeheeiiaaGreatDoor.bF (n:Int) u L)):fh w' P b (eh D n<|some t):=by
 have mv:∀{t v},de w P t v->de w' P t v:=λh=>h.move LS (λx p _=>o.block x<|λe=>hP<|e▸p)<|λ_ p _=>p;refine⟨_,hM,λm hm=>?_,λm v hm=>?_,λx v hx=>?_⟩
 .rw[aM]at hm;by_cases e:(n:Int)=(m:Int)
  .grind
  .rw[if_neg e]at hm;have e':¬m=n:=λq=>e (by rw[q]);simp only[eh,e',if_false];exact h2 m hm
 .rw[aM]at hm;by_cases e:(n:Int)=(m:Int)
  .rw[if_pos e]at hm;injection hm with hm;have e':m=n:=ae;subst hm;simp only[eh,e',if_true];exact⟨t,rfl,mv ht⟩
  .rw[if_neg e]at hm;have e':¬m=n:=λq=>e (by rw[q]);simp only[eh,e',if_false];have⟨t',q1,q2⟩:=h3 m v hm;exact⟨t',q1,mv q2⟩
 .rw[aM]at hx;by_cases e:(n:Int)=x
  .exact⟨n,e.symm⟩
  .grind
def lp{tm}(htm:Tryz.prog.underlying tm=some (.map 98 67)){a}{Q}(hg:o.guard=none)m x v(r_:o.op=Op.insert tm m x v\/o.op=Op.mapUpdate tm m x v)(hm:a.eval m=Mv b)(h:fh w P b D)(hP:¬P b)(ht:de w P t u)n(hx:a.eval x=Nv n)(hv:a.eval v=u)(hK:∀w',fh w' P b (eh D n<|some t)->One b w w'->wpList qh ops Q rest (a.put o.dst undef) w'):
 wpList qh ops Q (o::rest) a w:=by
 obtain⟨L,h1,h2,h3,h4⟩:=h;exact cu KLV htm hg m x v r_ hm h1 (n:Int) u hx hv λw' hM o=>hK w' (fh.bF h2 h3 h4 ht hP o hM) o
def thD(D1 D2:Nat->Option Ty)(done:List Int)(n:Nat):Option Ty:=if(n:Int)∈done then(match D1 n with|some t=>some (bK<|sub (D7 D2) t)|none=>D2 n)else D2 n
def Ai(D1 D2:Nat->Option Ty)n:=match D1 n with|some t=>some (bK<|sub (D7 D2) t)|none=>D2 n
def ThR(P:Nat->Prop)b1 D1 D2 L w gk wr:=
 ∃done,IG qI wr (w.heap.size+1) b1 L done gk/\fh wr (λx=>(P x/\x<w.heap.size)\/w.heap.size+2<=x) w.heap.size (thD D1 D2 done)/\Bq w wr
def aac(P:Nat->Prop)D1 D2 w(e:Ending)w':=
 ∃b3,e=.returned (Mv b3)/\w.heap.size<=b3/\fh w' (λx=>P x\/w.heap.size<=x) b3 (Ai D1 D2)/\Bq w w'
def adF{b1 b2}{D2}(h1:fh w P b1 D1)(h2:fh w P b2 D2)(hp2:P b2)(hz:∀n t,D1 n=some t->size t<=1000000000000/\size (sub (D7 D2) t)<=1000000000000):
 Cq 346 #[Mv b1,Mv b2] w (aac P D1 D2 w):=by
 have H2:=ai h2;have l1:=h1.lt;have l2:=h2.lt;obtain⟨L1,M1,q12,q13,q14⟩:=h1;obtain⟨L2,m2,q22,q23,q24⟩:=h2;have HC:=aaa m2;have Q1:=And.intro q12<|And.intro q13 q14;have Q2:=And.intro q22<|And.intro q23 q24;go_enter func346,ntmps346;go_wp2_with fail;refine HC.mono ?_;rintro e w1⟨rfl,m3,k1,zz⟩;have⟨o,cnt,hrg,lY⟩:=(M1.af k1).range iC;rw[zz]at hrg lY;have k2:Bq w (w1.alloc o):=k1.alloc (by rw[zz];omega) _;have HI:=ai lY;have HK:=ai k2;have S0:Hid (fh (w1.alloc o) (λx=>(P x/\x<w.heap.size)\/w.heap.size+2<=x) w.heap.size D2):=by
  obtain⟨r1,r2,r3⟩:=Q2;refine ai ⟨L2,m3.af<|bw _,r1,λn u hu=>?_,r3⟩;have⟨t,e,ht⟩:=r2 n u hu;exact⟨t,e,ht.move k2.size (λx _ hx=>k2.block x hx)<|λx p z=>j7 ⟨p,z⟩⟩
 go_wp2
 go_loopg[] cnt (λgk wr=>ThR P b1 D1 D2 L1 w gk wr)
 case atStart=>
  refine⟨[],HI,?_,HK⟩;have e:thD D1 D2 []=D2:=by funext n;simp[thD]
  rw[e];exact S0
 case round=>
  obtain⟨done,HI,HS,HB⟩:=hrel;have Xh:=HI.lt;have zr:=HB.size;rcases HI.next (P:=qh) JV with⟨ha,DX⟩|⟨x,u,w2,aE,hxd,Pc,DX,WQ,bz,xS,fW,hen⟩
  .go_wp2
   go_ret;refine⟨w.heap.size,rfl,br _,?_,HB⟩;have e:thD D1 D2 done=Ai D1 D2:=by
    funext n;unfold thD Ai;by_cases q:(n:Int)∈done
    .rw[if_pos q]
    .rw[if_neg q];have:D1 n=none:=by
      cases hg:aZ (n:Int) L1 with
      |none=>exact Q1.1 n hg|some v=>exact absurd (ha _ v hg) q
     rw[this]
   rw[<-e];exact HS.wide λx p=>by obtain p|p:=p;exact j7 p.1;exact j6 ae
  .obtain⟨r1,r2,r3⟩:=Q1;obtain⟨n,rfl⟩:=r3 x u Pc;have⟨t,E1,ht⟩:=r2 n u Pc;have⟨m7,i_⟩:=hz n t E1;obtain⟨ta,xa,rfl⟩:=ht.iface;have F1:=xS;have kb:∀i,i<w.heap.size->w2.heap[i]? =w.heap[i]? :=λi hi=>(F1.block i ae ae).trans<|HB.block i hi;have eA:Bq w w2:=⟨F1.os.trans HB.os,F1.tape.trans HB.tape,F1.output.trans HB.output,ae,kb⟩;have HC:=Ih (H2.low.move eA.size (kb b2 l2) (λx p _=>kb x p.2)<|λx p _=>p) (⟨hp2,l2⟩:P b2/\b2<w.heap.size) (ht.af eA) m7 i_;have S2:=HS.fr F1 ae (λx p _=>by obtain p|p:=p<;>omega);go_wp2_with fail;refine HC.mono ?_;rintro e w3⟨u3,rfl,hU,k3⟩;obtain⟨tu,xu,rfl⟩:=hU.iface;have z3:=k3.size;have S3:=S2.af k3;have U3:=hU.wide (Q:=λx=>(P x/\x<w.heap.size)\/w.heap.size+2<=x) λx p=>by obtain p|p:=p;exact j7 p;exact j6 ae
   have I3:=WQ.same (k3.block b1 ae)<|k3.block _ ae;have K3:=eA.trans<|k3.mono ae;go_wp2_with(refine lp iC rfl _ _ _ (j6 rfl) rfl S3 ae U3 n rfl rfl ?_;intro w4 H' O';have S4:=ai H';have O4:=ai O';clear H' O');go_roundg aE
   case measure=>exact bz
   case rel=>
    have o:=uh O4;refine⟨(n:Int)::done,I3.same (o.block b1 ae)<|o.block _ ae,?_,?_⟩
    .have e:thD D1 D2 ((n:Int)::done)=eh (thD D1 D2 done) n (some<|bK<|sub (D7 D2) t):=by
      funext m;unfold eh;by_cases q:m=n
      .subst q;unfold thD;rw[if_pos ag,if_pos rfl,E1]
      .have:¬(m:Int)=(n:Int):=ae;unfold thD;simp[q,this]
     rw[e];exact S4
    .have k:=K3;exact⟨o.os.trans k.os,o.tape.trans k.tape,o.output.trans k.output,by rw[o.size];exact k.size,λi hi=>(o.block i ae).trans<|k.block i hi⟩
end
def xK(rk:Nat->Nat):Ty->Nat
 |.var n=>rk n+1|.aK _ _=>0
structure ajA(K:Nat->Option Ty)R t t1:Prop where
 eq:sub R t1=sub R t
 op:∀n,t1=.var n->K n=none
def ajB(J:Ty->Prop)(K:Nat->Option Ty)R rk P t w gk v wr:=
 ∃t1,Hid (gk=xK rk t1)/\wr=w/\de w P t1 v/\Hid (J t1)/\Hid (sub R t1=sub R t)
section
variable {w:World} {b:Nat} {rk:Nat->Nat}
def aad(J:Ty->Prop)(hJ:∀n t,K n=some t->J t)(h:fh w P b K)(hK:uk K R rk){v}(ht:de w P t v)(h0:J t):Cq 361 #[Mv b,v] w λe w'=>∃u t1,e=.returned u/\de w P t1 u/\ajA K R t t1/\J t1/\w'=w:=by
 obtain⟨ta,xa,rfl⟩:=ht.iface;go_enter func361,ntmps361
 go_wp2
 go_loopg[1] (xK rk t) (λgk v wr=>ajB J K R rk P t w gk v wr)
 case atStart=>exact⟨t,ai rfl,rfl,ht,ai h0,ai rfl⟩
 case round=>
  obtain⟨t1,dv,rfl,hT,hJ1,hE⟩:=hrel
  cases hT with
  |var n=>
   obtain⟨t2,u,e1,H2,hl⟩|⟨e1,hl⟩:=h.look pw n
   .obtain⟨tu,xu,rfl⟩:=H2.iface;have E1:=ai e1
    go_wp2
    go_roundg(xK rk t2)
    case measure=>
     rw[uh dv]
     cases t2 with
     |var m=>have:=hK.Yp n m E1;simp only[xK];omega|aK c l=>simp only[xK];omega
    case rel=>exact⟨t2,ai rfl,rfl,H2,ai<|hJ n t2 E1,ai (by rw[<-uh hE];exact(hK.shut n t2 E1).symm)⟩
   .have E1:=ai e1
    go_wp2
    go_ret;exact⟨_,.var n,rfl,.var n,⟨hE,λm hm=>by cases hm;exact E1⟩,hJ1,rfl⟩
  |aK c L sa sc vs hc aN hr=>
   go_wp2
   go_ret;exact⟨_,.aK c L,rfl,.aK c L sa sc vs hc aN hr,⟨hE,λm hm=>by cases hm⟩,uh hJ1,rfl⟩
end
def NS g cs(l:List Nat)(p:Nat->Bool)w:=∀(W:World)(n:Nat),n∈l->Bq w W->Cq g (#[Nv n]++cs) W λe w'=>e=.returned (.bool<|p n)/\Bq W w'
def IxV(l:List Nat)(p:Nat->Bool)k:=(k= -1/\∀n∈l,p n=false)\/∃i,∃h:i<l.length,k=(i:Int)/\p l[i]=true/\∀j(hj:j<l.length),j<i->p l[j]=false
def ajC(l:List Nat)(p:Nat->Bool)w gk v wr:=
 ∃j:Nat,Hid (gk=l.length-j)/\j<=l.length/\v=Nv j/\Bq w wr/\Hid (∀i(hi:i<l.length),i<j->p l[i]=false)
section
variable {w:World} {v:Value} {p:Nat->Bool}
def eZ l:(ox l).length=l.length:=by simp[ox]
def oA(eg:∀args w,(callFunc g args).run qh w=.ok (.enter g args) w)(ho:gG w 98 base v (ox l))(hl:l.length<=1000000000000)(hp:NS g cs l p w):
 Cq 370 #[v,.func (.func g) #[] cs] w λe w'=>∃k,e=.returned (Iv k)/\IxV l p k/\Bq w w':=by
 obtain⟨va,vc,rfl⟩:=dP ho (n:=l.length)<|eZ l;go_enter func370,ntmps370
 go_wp2
 go_loopg[8] l.length (λgk v wr=>ajC l p w gk v wr)
 case atStart=>exact⟨0,ai ag,j9 _,rfl,q9 _ _,ai<|λi _ hi=>absurd hi ae⟩
 case round=>
  obtain⟨j,dv,hj,rfl,HK,nM⟩:=hrel;by_cases bq:j<l.length
  .have hd:(j:Int)<(l.length:Int):=ae;have hjv:j<(ox l).length:=by rw[eZ];exact bq
   have⟨gv,cpv,mv,hv,hgv,lh,_⟩:=iB ho ae;injection hv with Mk Tx hv3;subst Mk;have cg0:=lZ ho j hjv;rw[show(ox l)[j]=Nv (l[j]) by simp[ox]]at cg0;have cg:=(qx (a:=⟨gv,j,none⟩)<|HK.block gv lh).trans cg0;have HC:=hp wr l[j] (jv bq) HK;clear cg0 Tx hv3
   cases hpj:p l[j]with
   |true=>
    rw[hpj]at HC;generalize hx:l[j]=x at*;go_wp2_with(go_at_fn g;refine HC.mono ?_;rintro e w1⟨rfl,k1⟩;have HK1:=ai k1;clear k1);go_ret;have k:=HK;exact⟨j,rfl,j6 ⟨j,bq,rfl,by rw[hx];exact hpj,nM⟩,k.trans<|HK1.mono k.size⟩
   |false=>
    rw[hpj]at HC;generalize hx:l[j]=x at*;go_wp2_with(go_at_fn g;refine HC.mono ?_;rintro e w1⟨rfl,k1⟩;have HK1:=ai k1;clear k1);go_roundg(l.length-(j+1))
    case measure=>rw[uh dv];omega
    case rel=>
     have k:=HK;refine⟨j+1,ai rfl,ae,jT,k.trans<|HK1.mono k.size,ai<|λi hi hij=>?_⟩;by_cases e:i=j
     .subst e;rw[hx];exact hpj
     .exact nM i hi ae
  .have hd:decide ((j:Int)<(l.length:Int))=false:=bP;have ej:j=l.length:=ae;subst ej
   go_wp2
   go_ret;refine⟨-1,rfl,j7 ⟨rfl,λn hn=>?_⟩,HK⟩;obtain⟨i,hi,rfl⟩:=List.getElem_of_mem hn;exact nM i hi hi
def IxV.any{k}(h:IxV l p k):decide (0<=k)=l.any p:=by grind[IxV]
def Aj(eg:∀args w,(callFunc g args).run qh w=.ok (.enter g args) w)(ho:gG w 98 base v (ox l))(hl:l.length<=1000000000000)(hp:NS g cs l p w):
 Cq 371 #[v,.func (.func g) #[] cs] w λe w'=>e=.returned (.bool<|l.any p)/\Bq w w':=by
 have HC:=oA eg ho hl hp;obtain⟨va,vc,rfl⟩:=dP ho (n:=l.length)<|eZ l;go_enter func371,ntmps371;go_wp2_with fail;refine HC.mono ?_;rintro e w1⟨k,rfl,hk,HK⟩;have HA:=hk.any
 go_wp2
 go_ret;refine⟨?_,HK⟩;rw[<-HA];rfl
end
section
variable {b:Nat} {rk:Nat->Nat}
open Classical in
noncomputable def Ak (R:Nat->Ty) (v:Nat) (n:Nat):Bool:=decide (aA v<|R n)
open Classical in
def JW R v t:(vars [] t).any (Ak R v)=decide (aA v<|sub R t):=by
 have h:∀n,n∈vars [] t↔aA n t:=λn=>by simpa using bE t [] n
 by_cases q:aA v (sub R t)
 .rw[decide_eq_true q,List.any_eq_true];have⟨m,h1,h2⟩:=(Go.Proofs.YtfnkchdeheeiiaaGreatDoor.Un.l9 t).1 q;exact⟨m,(h m).2 h1,by simp[Ak,h2]⟩
 .rw[decide_eq_false q,List.any_eq_false];intro m hm;simp only[Ak,decide_eq_true_eq];exact λr=>q<|(Go.Proofs.YtfnkchdeheeiiaaGreatDoor.Un.l9 t).2 ⟨m,(h m).1 hm,r⟩
def QZ P b K R v t:=∀(w:World)(x:Value),fh w P b K->de w P t x->size t<=1000000000000->
 Cq 367 #[Mv b,x,Nv v] w λe w'=>e=.returned (.bool<|(vars [] t).any<|Ak R v)/\Bq w w'
def Q0{p:Prop}(h:p:=by
 rw[hb]at HC;go_enter func372,ntmps372;go_wp2_with fail;refine HC.mono ?_;rintro e w1⟨rfl,HK⟩
 go_wp2
 go_ret
 exact⟨rfl,HK⟩):p:=h
def NT(hK:uk K R rk)(hs:∀n t,K n=some t->size t<=1000000000000){v:Nat}(hv:K v=none)n(IH:∀t,K n=some t->QZ P b K R v t){sb vb}(h:fh W P b K)(h1:Bx W sb #[Mv b])(h2:Bx W vb #[Nv v]):
 Cq 372 #[Nv n,Pv sb,Pv vb] W λe w'=>e=.returned (.bool<|Ak R v n)/\Bq W w':=by
 obtain⟨c1,f1,z1⟩:=h1;obtain⟨c2,f2,z2⟩:=h2;obtain⟨t,u,e1,ht,hl⟩|⟨e1,hl⟩:=h.look pw n
 .obtain⟨tu,xu,rfl⟩:=ht.iface;have df:n≠v:=λq=>by rw[q,hv]at e1;cases e1
  have hd:((n:Int)==(v:Int))=false:=bP;have HC:=IH t e1 W _ h ht<|hs n t e1;have eo:(vars [] t).any (Ak R v)=Ak R v n:=by
   rw[JW,Ak,hK.shut n t e1]
  rw[eo]at HC
  cases hb:Ak R v n with
  |true=>
   exact Q0
  |false=>
   exact Q0
 .have eo:Ak R v n=decide (n=v):=by
   exact decide_eq_decide.2 (by rw[hK.open_ n e1];simp[aA])
  rw[eo];by_cases hnv:n=v
  .subst hnv;go_enter func372,ntmps372
   go_wp2
   go_ret;exact⟨ag,q9 _ _⟩
  .have hd:((n:Int)==(v:Int))=false:=bP;go_enter func372,ntmps372
   go_wp2
   go_ret;exact⟨by simp[hnv],q9 _ _⟩
def Ve(hK:uk K R rk)(hs:∀n t,K n=some t->size t<=1000000000000){v:Nat}(hv:K v=none)t(IH:∀n,aA n t->∀t',K n=some t'->QZ P b K R v t'):QZ P b K R v t:=by
 intro w x HH ht hz;have kb:Bq w ((w.alloc<|Cv #[Mv b] 498).alloc<|Cv #[Nv v] 98):=(bw _).alloc ag _;have b1:Bx ((w.alloc<|Cv #[Mv b] 498).alloc<|Cv #[Nv v] 98) w.heap.size #[Mv b]:=(xk w _ _).below<|bw _;have B2:Bx ((w.alloc<|Cv #[Mv b] 498).alloc<|Cv #[Nv v] 98) (w.heap.size+1) #[Nv v]:=by
  have:=xk (w.alloc<|Cv #[Mv b] 498) #[Nv v] 98;simpa using this
 have HV:=fE (ht.af kb) hz;obtain⟨ta,xa,rfl⟩:=ht.iface;have hlen:(vars [] t).length<=1000000000000:=by
  exact JT
 have KB:=ai kb;have B1:=ai b1;go_enter func367,ntmps367;go_wp2_with fail;refine HV.mono ?_;rintro e w1⟨V,rfl,ho,k1⟩;have⟨va,vc,hva⟩:=dP ho (n:=(vars [] t).length)<|eZ _;have hT:NS 372 #[Pv w.heap.size,Pv<|w.heap.size+1] (vars [] t) (Ak R v) w1:=λW n hn hb=>
  have kW:=(KB.trans<|k1.mono KB.size).trans<|hb.mono<|j8 KB.size k1.size
  NT hK hs hv n (λt' ht'=>IH n (by simpa using(bE t [] n).1 hn) t' ht') (HH.af kW) ((B1.below k1).below hb) ((B2.below k1).below hb)
 have HC:=Aj (enters_of Tryz.func372 qkr rfl) ho hlen hT;have K1:=ai k1;subst hva;go_wp2_with fail;refine HC.mono ?_;rintro e w2⟨rfl,K2⟩
 go_wp2
 go_ret;have kb:=uh KB;have k1:=uh K1;exact⟨rfl,(kb.trans<|k1.mono kb.size).trans<|K2.mono<|j8 kb.size k1.size⟩
def aae(hK:uk K R rk)(hs:∀n t,K n=some t->size t<=1000000000000){v:Nat}(hv:K v=none):∀(s f:Nat)(t:Ty),size (sub R t)<=s->xK rk t<=f->QZ P b K R v t:=by
 intro s
 induction s using qe with
 |ind s ihs=>
  intro f
  induction f using qe with
  |ind f ihf=>
   intro t h1 h2;refine Ve hK hs hv t λn hn t' ht'=>?_;have e:=hK.shut n t' ht'
   cases t with
   |var m=>
    simp only[aA]at hn;subst hn;simp only[sub]at h1;rw[e]at h1;simp only[xK]at h2;refine ihf (xK rk t') ?_ t' h1<|br _
    cases t' with
    |var u=>have:=hK.Yp m u ht';simp only[xK];omega|aK c l=>simp only[xK];omega
   |aK c l=>
    have h3:=jX R n l qBx;simp only[sub,size]at h1;exact ihs (size<|sub R t') (by rw[<-e];omega) (xK rk t') t' (br _)<|br _
end
structure TyI(V:List Nat)t:Prop where
 v:∀m,aA m t->m∈V
 z:size t<=48
 w:Whole t
def B_ V(K:Nat->Option Ty):=∀n t,K n=some t->n∈V/\TyI V t
def opL(V:List Nat)(K:Nat->Option Ty):Nat:=(V.filter λn=>(K n).isNone).length
def ag8(h:n∈V)(e:K n=none):opL V (eh K n<|some t)<opL V K:=by
 refine filter_lt (m:=n) (λi hi=>?_) h Us (by simp[eh]);by_cases q:i=n
 .simp[eh,q]at hi
 .simpa[eh,q]using hi
def JX V K K'(R R':Nat->Ty):=(K'=K/\R'=R)\/opL V K'<opL V K
def cP P b V K R x y w(e:Ending)w':=
 ∃ok:Bool,e=.returned (.bool ok)/\Fr (λi=>i=b) w w'/\
  (ok=true->∃K' R' PY,fh w' P b K'/\uk K' R' PY/\B_ V K'/\Made R R' x y/\JX V K K' R R')/\
  (ok=false->∀σ,sub σ (sub R x)≠sub σ (sub R y))
section
variable {w:World} {b:Nat} {rk:Nat->Nat}
def B_.pN(h:B_ V K):∀n t,K n=some t->size t<=1000000000000:=λn t e=>by have:=(h n t e).2.z;omega
def Q3{p:Prop}(h:p:=by
 go_enter func362,ntmps362;go_wp2_with fail;refine HC.mono ?_;rintro e w1⟨rfl,K1⟩;have S1:=HS.af K1;have T1:=ht.af K1;go_wp2_with(refine lp pw rfl _ _ _ (Or.inr rfl) rfl S1 hP T1 n rfl rfl ?_;intro w4 H' O';have S4:=ai H';have O4:=ai O';clear H' O');go_ret;have o:=uh O4
 exact⟨true,rfl,(Fr.of K1).trans ⟨o.os,o.tape,o.output,LS,λk _ hk=>o.block k hk⟩,λ_=>HY HO _ S4,λh=>by(cases h)⟩):p:=h
def Q4{p:Prop}(h:p:=by
 go_enter func362,ntmps362;go_wp2_with fail;refine HC.mono ?_;rintro e w1⟨rfl,K1⟩
 go_wp2
 go_ret
 exact⟨false,rfl,Fr.of K1,λh=>by(cases h),λ_ σ=>HN σ HO⟩):p:=h
def JY(h:fh w P b K)(hP:¬P b)(hK:uk K R rk)(hI:B_ V K)(hn:K n=none)(hnV:n∈V){x}(ht:de w P t x)(hti:TyI V t)(hh:∀u,t=.var u->K u=none):
 Cq 362 #[Mv b,Nv n,x] w (cP P b V K R (.var n) t w):=by
 have HS:=ai h;by_cases aaf:t=.var n
 .subst aaf
  cases ht
  have h1:=ag2;go_enter func362,ntmps362
  go_wp2
  go_ret;exact⟨true,rfl,Fr.refl _ _,λ_=>⟨K,R,rk,HS,hK,hI,Made.refl rfl,j7 ⟨rfl,rfl⟩⟩,λh=>Mo⟩
 .have HC:=aae (P:=P) (b:=b) hK hI.pN hn (size<|sub R t) (xK rk t) t (br _) (br _) w x h ht (by have:=hti.z;omega);rw[JW]at HC;have HN:∀σ,aA n (sub R t)->sub σ (sub R<|.var n)≠sub σ (sub R t):=λσ ho=>by
   cases t with
   |var u=>
    have:=hK.open_ u<|hh u rfl;simp[sub,this,aA]at ho;exact absurd (by rw[ho]) aaf
   |aK c l=>exact ac2 hK hn ho σ
  have HY:¬aA n (sub R t)->∀w',fh w' P b (eh K n<|some t)->∃K' R' PY,fh w' P b K'/\uk K' R' PY/\B_ V K'/\Made R R' (.var n) t/\JX V K K' R R':=λho w' hw=>by
   have⟨PY,gY⟩:=hK.bind hn ho hh;refine⟨_,_,PY,hw,gY,λm s e=>?_,Made.bind hK hn ho,j6<|ag8 hnV hn⟩;by_cases q:m=n
   .simp only[eh,q,if_true,Option.some.injEq]at e;subst e q;exact⟨hnV,hti⟩
   .simp only[eh,q,if_false]at e;exact hI m s e
  obtain⟨ta,xa,rfl⟩:=ht.iface;have key:(∃m,ta=98/\xa=Iv m/\(m==(n:Int))=false)\/∃p q,ta=169/\xa=Av #[p,q]:=by
   cases ht with
   |var m=>exact j7 ⟨m,rfl,rfl,by simp;intro e;exact aaf<|by rw[show m=n by omega]⟩|aK c L sa sc vs hc aN hr=>exact j6 ⟨_,_,rfl,rfl⟩
  cases ho:(@decide (aA n<|sub R t)<|xn _)with
  |true=>
   rw[ho]at HC;have HO:= @of_decide_eq_true _ (xn _) ho;obtain⟨m,rfl,rfl,hm⟩|⟨p,q,rfl,rfl⟩:=key
   .have h1:=ag2;exact Q4
   .have h1:=ajt;exact Q4
  |false=>
   rw[ho]at HC;have HO:= @of_decide_eq_false _ (xn _) ho;obtain⟨m,rfl,rfl,hm⟩|⟨p,q,rfl,rfl⟩:=key
   .have h1:=ag2;exact Q3
   .have h1:=ajt;exact Q3
end
@[simp] theorem ama a b w:(ql (.iface 169<|.agg #[a,b]) 67 169 false).run qh w=.ok (.agg #[a,b]) w:=qkr
def aX(w:World)o:(w.alloc o).heap.size=w.heap.size+1:=ag
def qY w C1 C2 v1 v2 wc:=∃p q,v1=Pv p/\v2=Pv q/\w.heap.size<=p/\w.heap.size<=q/\Bx wc p C1/\Bx wc q C2/\Bq w wc
theorem qY.a w C1 C2 t1 t2:qY w C1 C2 (Pv w.heap.size) (Pv<|w.heap.size+1) ((w.alloc<|.cells C1 t1).alloc<|.cells C2 t2).drew:=by
 refine⟨_,_,rfl,rfl,br _,Nat.le_succ _,((xk w C1 t1).below<|bw _).kL,?_,((bw _).alloc ag _).drew⟩;have:=xk (w.alloc<|Cv C1 t1) C2 t2;simp only[aX]at this;exact this.kL
def qY.b w C1 C2 t1 t2:qY w C1 C2 (Pv<|w.heap.size+1) (Pv w.heap.size) ((w.alloc<|.cells C2 t2).alloc<|.cells C1 t1).drew:=by grind[qY,qY.a]
def ag9 P b V K R(L L2:List Ty)p q C0 C1 w gk c wr:=
 ∃(j:Nat)(K':Nat->Option Ty)(R':Nat->Ty)(PY:Nat->Nat),Hid (gk=L.length-j)/\j<=L.length/\c=Nv j/\Fr (λi=>i=b) w wr/\fh wr P b K'/\uk K' R' PY/\B_ V K'/\oQ R R' (L.take j) (L2.take j)/\Hid (JX V K K' R R')/\Bx wr p C0/\Bx wr q C1
def Q5{p:Prop}(h:p:=by
 rw[kT,kU]at h;have:=congrArg xo h;rw[e1,e2]at this;simp at this):p:=h
def adG{d}(hc:CN c)(hd:CN d)(h:pn c=pn d):c=d:=by
 have e1:(⟨#[45,62]⟩:BA).toList=[45,62]:=toList_mk _;have e2:(⟨#[44]⟩:BA).toList=[44]:=toList_mk _;obtain rfl|rfl|hc:=hc<;>obtain rfl|rfl|hd:=hd
 .rfl
 .exact Q5
 .rw[kT,eS hd]at h;exact absurd (by rw[<-h,e1])<|dd hd 45 [62] aH
 .exact Q5
 .rfl
 .rw[kU,eS hd]at h;exact absurd (by rw[<-h,e2])<|dd hd 44 [] aH
 .rw[kT,eS hc]at h;exact absurd (by rw[h,e1])<|dd hc 45 [62] aH
 .rw[kU,eS hc]at h;exact absurd (by rw[h,e2])<|dd hc 44 [] aH
 .rw[eS hc,eS hd]at h;exact h
def TyI.at{V}{c}{L}(h:TyI V (.aK c L))i(hi:i<L.length):TyI V L[i]:=
 ⟨λm hm=>h.v m<|QT L i hi hm,by have:=mE L i hi;have:=h.z;simp only[size]at this;omega,uT h.w.2 i hi⟩
section
variable {b:Nat}
def ajD P b V K R rk x y:=∀(w:World)(v u:Value),fh w P b K->uk K R rk->B_ V K->TyI V x->TyI V y->de w P x v->de w P y u->
 Cq 354 #[Mv b,v,u] w (cP P b V K R x y w)
def cP.fr{w:World}{e:Ending}(h:cP P b V K R x y w e w'):Fr (λi=>i=b) w w':=by grind[cP]
def cP.up{w:World}{e:Ending}(h:cP P b V K R x y w0 e w')(hb:Bq w w0):cP P b V K R x y w e w':=by
 obtain⟨ok,h1,h2,h3,h4⟩:=h;exact⟨ok,h1,(Fr.of hb).trans h2,h3,h4⟩
def JX.trans{K1 K2}{R1 R2}(h:JX V K K1 R R1)(k:JX V K1 K2 R1 R2):JX V K K2 R R2:=by grind[JX]
def cP.of{x' y'}{w:World}{e:Ending}(h:cP P b V K R x' y' w e w')(hx:sub R x'=sub R x)(hy:sub R y'=sub R y):cP P b V K R x y w e w':=by
 obtain⟨ok,h1,h2,h3,h4⟩:=h;refine⟨ok,h1,h2,λe=>?_,λe σ=>by rw[<-hx,<-hy];exact h4 e σ⟩;have⟨K',R',PY,q1,q2,q3,q4,q5⟩:=h3 e;exact⟨K',R',PY,q1,q2,q3,q4.ac1 hx hy,q5⟩
def cP.swap{K}{R}{x y}{w}{e}{w'}(h:cP P b V K R x y w e w'):cP P b V K R y x w e w':=by
 obtain⟨ok,h1,h2,h3,h4⟩:=h;refine⟨ok,h1,h2,λe=>?_,λe σ q=>h4 e σ q.symm⟩;have⟨K',R',PY,q1,q2,q3,q4,q5⟩:=h3 e;exact⟨K',R',PY,q1,q2,q3,q4.swap,q5⟩
def aag(hP:¬P b):∀(f s:Nat)(K:Nat->Option Ty)(R:Nat->Ty)(rk:Nat->Nat)(x y:Ty),opL V K<=f->size (sub R x)<=s->ajD P b V K R rk x y:=by
 intro f
 induction f using qe with
 |_ f ihf=>
 intro s
 induction s using qe with
 |_ s ihs=>
  intro K R rk x y Hf Hs w v u h hK hI hx hy hv hu;have HS:=ai h;have HH1:=aad (TyI V) (λn t e=>(hI n t e).2) h hK hv hx;have Bs:=aad (TyI V) (λn t e=>(hI n t e).2) h hK hu hy;obtain⟨ta,xa,rfl⟩:=hv.iface;obtain⟨tb,xb,rfl⟩:=hu.iface;go_enter func354,ntmps354;go_wp2_with fail;refine HH1.mono ?_;rintro e w1⟨v1,x1,rfl,Mk,MN,Vf,rfl⟩;obtain⟨yI,yJ,rfl⟩:=Mk.iface;clear HH1;go_wp2_with fail;refine Bs.mono ?_;rintro e w2⟨u1,y1,rfl,wI,hd2,hy1,rfl⟩;obtain⟨tb1,xb1,rfl⟩:=wI.iface;clear Bs h hv hu
  cases x1 with
  |var n=>
   have HC:=JY HS hP hK hI (MN.op n rfl) (Vf.v n rfl) wI hy1 hd2.op
   cases Mk
   have E:=And.intro MN.eq hd2.eq;clear MN hd2 wI;go_wp2_with fail;refine HC.mono ?_;intro e w3 wL;have HQ:=wL.of E.1 E.2;obtain⟨ok,rfl,-⟩:=wL;clear HC
   go_wp2
   go_ret;exact HQ
  |aK c L=>
  cases y1 with
  |var n=>
   have HC:=JY HS hP hK hI (hd2.op n rfl) (hy1.v n rfl) Mk Vf MN.op;have key:∃p q,yI=169/\yJ=Av #[p,q]:=by cases Mk;exact⟨_,_,rfl,rfl⟩
   obtain⟨p,q,rfl,rfl⟩:=key
   cases wI
   have E:=And.intro MN.eq hd2.eq;clear MN hd2 Mk;go_wp2_with fail;refine HC.mono ?_;intro e w3 wL;have HQ:=wL.swap.of E.1 E.2;obtain⟨ok,rfl,-⟩:=wL;clear HC
   go_wp2
   go_ret;exact HQ
  |aK d L2=>
   cases Mk with
   |aK _ _ sa sc vs hc aN hr=>
   cases wI with
   |aK _ _ sa2 sc2 vs2 hc2 zV WL=>
   have hc:=hc.resolve_right Vf.w.1;have hc2:=hc2.resolve_right hy1.w.1;have E:=And.intro MN.eq hd2.eq;clear MN hd2;go_wp2_with fail;go_cut[11,12]from 40 (λv1 v2 wc=>qY w2 #[Sv<|pn c,Lv sa L.length sc] #[Sv<|pn d,Lv sa2 L2.length sc2] v1 v2 wc)
   case first=>
    clear ihf ihs hr WL aN zV;go_region
    all_goals(
     go_wp2_with fail
     go_meet
     case rel=>first|exact qY.a w2 _ _ _ _|exact qY.b w2 _ _ _ _)
   case rest=>
    obtain⟨p,q,rfl,rfl,zp,zq,X1,X2,KC⟩:=hcut;obtain⟨c1,f1,z1⟩:=X1;obtain⟨c2,f2,z2⟩:=X2;by_cases hcd:c=d
    .subst hcd;by_cases hlen:L.length=L2.length
     .have hd0:((L.length:Int) !=(L2.length:Int))=false:=bP;have amA:L.length<=48:=by have:=Fu L;have:=Vf.z;simp only[size]at this;omega
      have HE:=ai hlen;have T1:=show Bx wc p #[Sv<|pn c,Lv sa L.length sc]from⟨c1,f1,z1⟩;have T2:=show Bx wc q #[Sv<|pn c,Lv sa2 L2.length sc2]from⟨c2,f2,z2⟩;clear hlen
      go_wp2
      go_loopg[61] L.length (λgk c1 wr=>ag9 P b V K R L L2 p q #[Sv<|pn c,Lv sa L.length sc] #[Sv<|pn c,Lv sa2 L2.length sc2] w2 gk c1 wr)
      case atStart=>exact⟨0,K,R,rk,ai ag,j9 _,rfl,Fr.of KC,HS.af KC,hK,hI,by simpa using oQ.nil R,ai<|j7 ⟨rfl,rfl⟩,T1,T2⟩
      case round=>
       clear T1 T2 c1 c2 f1 f2 z1 z2;obtain⟨j,K1,R1,rk1,dv,hj,rfl,BG,S1',hK1,hI1,HM1,hL1,T1,T2⟩:=hrel;have hlen:=uh HE;by_cases bq:j<L.length
       .have hd:(j:Int)<(L.length:Int):=ae;have UF:(j:Int)<(L2.length:Int):=ae;have Vg:j<L2.length:=ae;obtain⟨g1,rfl,hg1,m7,aah⟩:=aN.resolve_left<|λe=>qBs;obtain⟨g2,rfl,Vh,i_,aai⟩:=zV.resolve_left (λe=>by subst e;simp at Vg);have nb:∀i,P i->i<w2.heap.size->¬i=b:=λi hi _ e=>hP<|e▸hi;have a1:=(qx (a:=⟨g1,j,none⟩)<|BG.block g1 m7<|nb g1 hg1 m7).trans<|aah j bq;have a2:=(qx (a:=⟨g2,j,none⟩)<|BG.block g2 i_<|nb g2 Vh i_).trans<|aai j Vg;have t1:=(hr j bq).fr BG nb;have t2:=(WL j Vg).fr BG nb;have ih:ajD P b V K1 R1 rk1 L[j] L2[j]:=by
         have hs1:size (sub R L[j])<=ah (aT R L):=by
          have:=mE (aT R L) j (by rw[eB];exact bq)
          rwa[QS R L j bq]at this
         have Bl:=Hs;rw[<-E.1]at Bl;simp only[sub,size]at Bl;obtain⟨rfl,rfl⟩|bz:=uh hL1
         .exact ihs (size<|sub R1 L[j]) ae K1 R1 rk1 L[j] L2[j] Hf (br _)
         .exact ihf (opL V K1) (by have:=Hf;omega) (size<|sub R1 L[j]) K1 R1 rk1 L[j] L2[j] (br _) (br _)
        have HC:=λ(W:World)(hb:Bq wr W)=>ih W (vs j) (vs2 j) (S1'.af hb) hK1 hI1 (Vf.at j bq) (hy1.at j Vg) (t1.af hb)<|t2.af hb;have⟨tu1,xu1,e1⟩:=t1.iface;have⟨tu2,xu2,e2⟩:=t2.iface;rw[e1]at a1 HC;rw[e2]at a2 HC;have TD:=ai T1;have T2':=ai T2;obtain⟨c1,f1,z1⟩:=T1;obtain⟨c2,f2,z2⟩:=T2;clear ih t1 t2 hK1 hI1 aah aai hlen;go_wp2_with fail;go_cut[61,76]from 61 to 77 (λc3 v3 wd=>c3=Nv j/\∃ok,v3=.bool (!ok)/\cP P b V K1 R1 L[j] L2[j] wr (Rv<|.bool ok) wd)
        case first=>
         clear ihf ihs hr WL aN zV HM1 hL1 dv HS hK hI hx hy Hf Hs E KC;go_region_with(go_at_call 354;refine(HC _ (q9 _ _).drew).mono ?_;intro e w3 wL;have HQ:=ai wL;obtain⟨ok,rfl,-⟩:=wL)
         all_goals(
          go_wp2_with fail
          go_meet
          case rel=>exact⟨rfl,ok,rfl,HQ.up (q9 _ _).drew⟩)
        case rest=>
         obtain⟨rfl,ok,rfl,HQ⟩:=hcut;have F2:=HQ.fr;have ze:=HQ.fr.size;have zr:=BG.size;have U1:=ai (TD.fr F2 (λe=>by have:=HS.lt;omega));have U2:=ai (T2'.fr F2 (λe=>by have:=HS.lt;omega));have HF:=BG.trans F2;clear F2 c1 f1 z1 c2 f2 z2 a1 a2 HC
         cases ok with
         |false=>
          go_wp2
          go_ret;refine cP.of ⟨false,rfl,HF,λh=>by(cases h),λ_ σ=>?_⟩ E.1 E.2;obtain⟨ok,q1,_,_,q4⟩:=HQ;have q4:=q4 (by injection q1 with q1;injection q1 with q1;exact q1.symm);rw[JZ L j bq,JZ L2 j Vg];exact HM1.no bP q4 c c σ
         |true=>
          go_wp2
          go_roundg(L.length-(j+1))
          case measure=>rw[uh dv];omega
          case rel=>
           obtain⟨ok,q1,_,q3,_⟩:=HQ;have⟨K2,R2,rk2,r1,r2,r3,r4,r5⟩:=q3 (by injection q1 with q1;injection q1 with q1;exact q1.symm);refine⟨j+1,K2,R2,rk2,ai rfl,ae,jT,HF,r1,r2,r3,?_,ai ?_,U1,U2⟩
           .rw[ji bq,ji Vg];exact HM1.snoc bP r4
           .exact hL1.trans r5
       .have hd:decide ((j:Int)<(L.length:Int))=false:=bP;have ej:j=L.length:=ae;subst ej;clear hlen
        go_wp2
        go_ret;refine cP.of ⟨true,rfl,BG,λ_=>⟨K1,R1,rk1,S1',hK1,hI1,?_,hL1⟩,λh=>by(cases h)⟩ E.1 E.2;have hm:=HM1;rw[jf,uh HE,jf]at hm;exact hm.aK c
     .have hd0:((L.length:Int) !=(L2.length:Int))=true:=bP
      go_wp2
      go_ret;refine cP.of ⟨false,rfl,Fr.of KC,λh=>by(cases h),λ_ σ=>TX hlen⟩ E.1 E.2
    .have df:pn c≠pn d:=λe=>hcd<|adG hc hc2 e;have hd0:¬(pn c).toList=(pn d).toList:=λe=>df<|toList_inj e;clear df
     go_wp2
     go_ret;refine cP.of ⟨false,rfl,Fr.of KC,λh=>by(cases h),λ_ σ=>MP hcd⟩ E.1 E.2
end
namespace Un
def dD.Q6{t'}(h:dD t' t)(hw:Whole t):bK t'=bK t:=by grind[dD,Whole,bK,sz,oR]
def dD.afj t(hw:Whole t):dD (bK t) t:=(dD.refl t).cut hw
def J4 n:bK (.var n)=.var n:=by simp[bK,sz]
def yM(h:size t<=48)(hw:Whole t):bK t=t:=by grind[size,Whole,bK,oR]
def fq(hw:Whole t){C}(h:(vars [] t).length<=C)(hC:48<=C):size (bK t)<=1+C:=T0 h hC λq=>MW q
end Un
section
variable {rk:Nat->Nat}
def J6 t n(h:n∈occs t):aA n t:=by
 have:n∈vars [] t:=by rw[cD];exact(gA n _ _).2 (j6 h)
 simpa using(bE t [] n).1 this
def aaj(K:Nat->Option Ty)(R:Nat->Ty)(D:Nat->Option Ty):=∀n t,D n=some t->t=bK (R n)/\K n≠none
structure Al(K:Nat->Option Ty)(R:Nat->Ty):Prop where
 whole:∀n,Whole<|R n
 len:∀n,(vars []<|R n).length<=1000
 small:∀n t,K n=some t->size t<=48
theorem Al.size(h:Al K R)n:size (bK<|R n)<=1001:=by have:=fq (h.whole n) (h.len n) aH;omega
def Vi(hK:uk K R rk)(hF:Al K R)(e:K n=some t):bK (sub (λm=>bK<|R m) t)=bK (R n):=by
 have h:dD (sub (λm=>bK<|R m) t) (R n):=by
  rw[hK.shut n t e];exact(dD.refl t).sub λm _=>dD.afj _<|hF.whole m
 exact h.Q6<|hF.whole n
abbrev Vk(B:Nat->Prop)n wb x:=(B x\/n<=x)/\x≠wb
def Q7(b wb:Nat)K R B(D:Nat->Option Ty)n w(e:Ending)w':=
 ∃u D',e=.returned u/\de w' (Vk B w.heap.size wb) (bK<|R n) u/\fh w' (Vk B w.heap.size wb) wb D'/\aaj K R D'/\(∀m,D m≠none->D' m≠none)/\(K n≠none->D' n≠none)/\Fr (λi=>i=wb) w w'
structure FC b wb K R(B:Nat->Prop)D(w:World):Prop where
 lt:∀x,B x->x<w.heap.size
 nw:¬B wb
 wl:wb<w.heap.size
 bb:B b
 s:fh w B b K
 d:fh w B wb D
 g:aaj K R D
def aak b wb K R n:=∀(w:World)(B:Nat->Prop)(D:Nat->Option Ty),FC b wb K R B D w->
 Cq 363 #[Mv b,Mv wb,Nv n] w (Q7 b wb K R B D n w)
def ajE b wb sx wx K R(B:Nat->Prop)(D:Nat->Option Ty)(_:List Nat)B1 M1 W:=
 (M1=λi=>i=wb)/\(∀x,B x->B1 x)/\B1 sx/\B1 wx/\Bx W sx #[Mv b]/\Bx W wx #[Mv wb]/\∃D1,FC b wb K R B1 D1 W/\∀m,D m≠none->D1 m≠none
variable {b wb sx wx:Nat} {B:Nat->Prop}
def aal(IH:aak b wb K R n){B1}(h1:Bx W sx #[Mv b])(h2:Bx W wx #[Mv wb])(h:FC b wb K R B1 D1 W):
 Cq 368 #[Nv n,Pv sx,Pv wx] W (Q7 b wb K R B1 D1 n W):=by
 obtain⟨c1,f1,z1⟩:=h1;obtain⟨c2,f2,z2⟩:=h2;have HC:=IH W B1 D1 h;go_enter func368,ntmps368;go_wp2_with fail;refine HC.mono ?_;intro e w1 hp;have HP:=ai hp;obtain⟨u,D',rfl,hu,-⟩:=hp;obtain⟨ta,xa,rfl⟩:=hu.iface
 go_wp2
 go_ret;exact HP
def adH(IH:∀n,aA n t->aak b wb K R n)(hsw:sx≠wb/\wx≠wb):Img 368 #[] #[Pv sx,Pv wx] (λm=>bK<|R m) (λ_ n=>aA n t) (ajE b wb sx wx K R B D) where
 eg:=enters_of Tryz.func368 qkr rfl
 od acc B1 M1 w w' h hz hk:=by
  obtain⟨rfl,h1,h2,h3,h4,h5,D1,h6,h7⟩:=h;refine⟨rfl,h1,h2,h3,h4.same hz<|hk _<|j7 h2,h5.same hz<|hk _<|j7 h3,D1,⟨λx p=>qf (h6.lt x p) hz,h6.nw,qf h6.wl hz,h6.bb,?_,?_,h6.g⟩,h7⟩
  .exact h6.s.move hz (hk b<|j7 h6.bb) (λx p _=>hk x<|j7 p) (λ_ p _=>p)
  .exact h6.d.move hz (hk wb<|j6 rfl) (λx p _=>hk x<|j7 p) (λ_ p _=>p)
 lt acc B1 M1 w h:=by
  obtain⟨rfl,h1,h2,h3,h4,h5,D1,h6,h7⟩:=h;rintro x(p|rfl)
  .exact h6.lt x p
  .exact h6.wl
 call acc B1 M1 w n h hN:=by
  obtain⟨rfl,h1,h2,h3,h4,h5,D1,h6,h7⟩:=h;refine(aal (IH n hN) h4 h5 h6).mono ?_;rintro e w'⟨u,D',rfl,hu,hd,hg,hm,_,F⟩;have wl:=h6.wl;have hz:=F.size;refine⟨u,λx=>B1 x\/(w.heap.size<=x/\x<w'.heap.size),_,rfl,hu.wide λx p=>⟨p.2,p.1⟩,⟨rfl,λx p=>j7<|h1 x p,j7 h2,j7 h3,h4.fr F hsw.1,h5.fr F hsw.2,D',⟨?_,?_,ae,j7 h6.bb,?_,?_,hg⟩,λm q=>hm m<|h7 m q⟩,?_,λx q=>j7 q,F⟩
  .rintro x(p|p)
   .have:=h6.lt x p;omega
   .exact p.2
  .rintro(p|p)
   .exact h6.nw p
   .omega
  .exact(h6.s.fr F (λe=>h6.nw<|e▸h6.bb)<|λx p _ e=>h6.nw<|e▸p).wide λx p=>j7 p
  .refine hd.low.wide λx p=>?_;obtain q|q:=p.1.1
   .exact j7 q
   .omega
  .grind
def adI(hK:uk K R rk)(hF:Al K R)n(IH:∀t,K n=some t->∀m,aA m t->aak b wb K R m):aak b wb K R n:=by
 intro w B D h;have kb:Bq w ((w.alloc<|Cv #[Mv b] 498).alloc<|Cv #[Mv wb] 457):=(bw _).alloc ag _;have x1:Bx ((w.alloc<|Cv #[Mv b] 498).alloc<|Cv #[Mv wb] 457) w.heap.size #[Mv b]:=(xk w _ _).below<|bw _;have x2:Bx ((w.alloc<|Cv #[Mv b] 498).alloc<|Cv #[Mv wb] 457) (w.heap.size+1) #[Mv wb]:=by
  have:=xk (w.alloc<|Cv #[Mv b] 498) #[Mv wb] 457;simpa using this
 have bl:=h.lt b h.bb;have wl:=h.wl;obtain⟨c1,f1,z1⟩:=x1;obtain⟨c2,f2,z2⟩:=x2;have KB:=ai kb;have HH:=ai h;obtain⟨t,u,E1,h1,hl⟩|⟨E1,hl⟩:=(h.d.af kb).look iC n
 .obtain⟨ta,xa,rfl⟩:=h1.iface;have H1:=ai h1;go_enter func363,ntmps363
  go_wp2
  go_ret;have h:=uh HH;have nw:∀x,B x->Vk B w.heap.size wb x:=λx p=>⟨j7 p,λe=>h.nw<|e▸p⟩;obtain⟨rfl,_⟩:=h.g n t E1;exact⟨_,D,rfl,H1.wide nw,(h.d.af KB).wide nw,h.g,λm q=>q,λ_=>by rw[E1];simp,Fr.of KB⟩
 .obtain⟨t,u,e2,h1,JQ⟩|⟨e2,JQ⟩:=(h.s.af kb).look pw n
  .have E2:=ai e2;have hI:ajE b wb w.heap.size (w.heap.size+1) K R B D [] (λx=>B x\/x=w.heap.size\/x=w.heap.size+1) (λi=>i=wb) ((w.alloc<|Cv #[Mv b] 498).alloc<|Cv #[Mv wb] 457):=by
    refine⟨rfl,λx p=>j7 p,j6<|j7 rfl,j6<|j6 rfl,⟨c1,f1,z1⟩,⟨c2,f2,z2⟩,D,⟨?_,?_,ae,j7 h.bb,(h.s.af kb).wide λx p=>j7 p,(h.d.af kb).wide λx p=>j7 p,h.g⟩,λm q=>q⟩
    .rintro x(p|rfl|rfl)
     .have:=h.lt x p;omega
     .omega
     .omega
    .rintro(p|p|p)
     .exact h.nw p
     .omega
     .omega
   have alk:=hF.small n t e2;have HC:=zP (adH (IH t e2) ae) t [] _ _ _ u B hI (λi hi=>?_) ae h1<|λx p _ q=>h.nw<|q▸p
   case refine_1=>exact J6 t _<|jv hi
   have fW:size (sub (λm=>bK<|R m) t)<=1000000000000:=by
    have:=iI (λm=>bK<|R m) 1001 t (λm _=>hF.size m) aH;have:1001*size t<=1001*48:=Nat.mul_le_mul_left _ alk;omega
   have HCL:=Vi hK hF e2;obtain⟨ta,xa,rfl⟩:=h1.iface;go_enter func363,ntmps363;go_wp2_with fail;refine HC.mono ?_;rintro e w1⟨u1,B1,M1,rfl,wI,⟨rfl,q1,q2,q3,q4,q5,D1,q6,q7⟩,hB1,hM1,Bv⟩;obtain⟨tu,xu,rfl⟩:=wI.iface;have HCu:=Z' wI fW;have Q:=And.intro q6<|And.intro q7 hB1;have zf:=Bv.size;obtain⟨c3,f3,z3⟩:=q4;obtain⟨c4,f4,z4⟩:=q5;go_wp2_with fail;refine HCu.mono ?_;rintro e w2⟨u2,rfl,wJ,K2⟩;rw[HCL]at wJ;obtain⟨tu2,xu2,rfl⟩:=wJ.iface;obtain⟨q6,HM,hB1⟩:=Q;have z2':=K2.size;have c5:=(Bx.below (show Bx w1 (w.heap.size+1) #[Mv wb]from⟨c4,f4,z4⟩) K2).c
   have Pd:∀x,B1 x->Vk B w.heap.size wb x:=λx p=>⟨by
    obtain  (r|r|r)|r:=hB1 x p
    .exact j7 r
    .exact j6 ae
    .exact j6 ae
    .simp only[aX]at r;exact j6 ae,λe=>q6.nw<|e▸p⟩
   have S2:=(q6.d.af K2).wide Pd
   have U2:=ai (wJ.wide (Q:=Vk B w.heap.size wb) λx p=>by
    obtain⟨p1,(p2|p2|p2)|p2⟩|p:=p
    .exact⟨j7 p2,p1⟩
    .exact⟨j6 ae,p1⟩
    .exact⟨j6 ae,p1⟩
    .simp only[aX]at p2;exact⟨j6 ae,p1⟩
    .exact⟨j6 (by simp only[aX]at zf;omega),by simp only[aX]at zf;omega⟩)
   have HG:=ai q6.g;go_wp2_with(refine lp iC rfl _ _ _ (j6 rfl) rfl S2 (λq=>q.2 rfl) U2 n rfl rfl ?_;intro w4 H' O';have S4:=ai H';have O4:=ai O';clear H' O');go_ret;have o:=uh O4;refine⟨_,eh D1 n<|some<|bK<|R n,rfl,U2.move LS (λx p _=>o.block x p.2)<|λ_ p _=>p,S4,λm s hs=>?_,λm hm=>?_,λ_=>by simp[eh],?_⟩
   .by_cases q:m=n
    .simp only[eh,q,if_true,Option.some.injEq]at hs;subst q;exact⟨hs.symm,by rw[uh E2];simp⟩
    .simp only[eh,q,if_false]at hs;exact HG m s hs
   .by_cases q:m=n
    .simp[eh,q]
    .simp only[eh,q,if_false];exact HM m hm
   .exact(((Fr.of KB).trans Bv).low<|K2|>.mono (by have:=KB.size;omega)).trans ⟨o.os,o.tape,o.output,LS,λk _ hk=>o.block k hk⟩
  .have E2:=ai e2;go_enter func363,ntmps363
   go_wp2
   go_ret;have h:=uh HH;have nw:∀x,B x->Vk B w.heap.size wb x:=λx p=>⟨j7 p,λe=>h.nw<|e▸p⟩;refine⟨_,D,rfl,?_,(h.d.af KB).wide nw,h.g,λm q=>q,λq=>absurd E2 q,Fr.of KB⟩;rw[hK.open_ n<|uh E2,J4];exact .var n
def J7(hK:uk K R rk)(hF:Al K R):∀(s r n:Nat),size (R n)<=s->rk n<=r->aak b wb K R n:=by
 intro s
 induction s using qe with
 |ind s ihs=>
  intro r
  induction r using qe with
  |ind r ihr=>
   intro n h1 h2;refine adI hK hF n λt e m hm=>?_;have q:=hK.shut n t e
   cases t with
   |var u=>
    simp only[aA]at hm;subst hm;have:=hK.Yp n u e;refine ihr (rk u) ae u ?_<|br _;rw[q]at h1;simpa[sub]using h1
   |aK c l=>
    have h3:=jX R m l (by simpa[aA]using hm);have h4:=congrArg size q;simp only[sub,size]at h4;exact ihs (size<|R m) ae (rk m) m (br _)<|br _
end
end
section
open Un
mutual
def m0:Nd->Ty
 |.mk k s _ L _ _ _=>.aK (iR k s)<|W4 L
def W4:List Nd->List Ty
 |[]=>[]|x::l=>m0 x::W4 l
end
def ym:∀L,(W4 L).length=L.length
 |[]=>rfl|_::l=>by simp[W4,ym l]
def Q8:∀(L:List Nd)(i:Nat)(h:i<L.length),(W4 L)[i]'(by rw[ym];exact h)=m0 L[i]
 |x::l,0,_=>rfl|x::l,i+1,h=>by simp only[W4,jh];exact Q8 l i G_
inductive N0:Nd->Prop where
 |two(k:Nat)(s:BA)(n:Nat)(x y:Nd)(f t a:Nat)(hk:k=17\/k=6)(hx:N0 x)(hy:N0 y):N0 (.mk k s n [x,y] f t a)
 |up(s:BA)(n:Nat)(L:List Nd)(f t a:Nat)(hl:L.length<=1001)(hL:∀i(h:i<L.length),N0 L[i]):N0 (.mk 2 s n L f t a)
def FD:∀(L:List Nd),(∀i(h:i<L.length),∀ns,(∀n,¬aA n (bt ns<|es L[i]).1)->size (bt ns<|es L[i]).1<=1000->N0 L[i]/\bt ns (es L[i])=(m0 L[i],ns))->∀ns,(∀n,¬bY n (aF ns<|fZ L).1)->ah (aF ns<|fZ L).1<=1000->
 (∀i(h:i<L.length),N0 L[i])/\aF ns (fZ L)=(W4 L,ns)/\L.length<=1000
 |[],_,ns,_,_=>⟨λi h=>absurd h ag,rfl,ag⟩|x::l,H,ns,ho,hz=>by
  simp only[fZ,aF,bY,ah,not_or]at ho hz;have⟨h1,h2⟩:=H 0 ag ns (λn=>(ho n).1)<|j8 (Nat.le_add_right _ _) hz;have h2:bt ns (es x)=(m0 x,ns):=h2;rw[h2]at ho hz;have hz:size (m0 x)+ah (aF ns<|fZ l).1<=1000:=hz;have⟨h3,h4,h5⟩:=FD l (λi hi=>H (i+1) bP) ns (λn=>(ho n).2) ae;have h6:1<=size (m0 x):=by cases x with|mk k s n L f t a=>simp only[m0,size];omega
  have h7:∀(l:List Ty),l.length<=ah l:=by
   intro l
   induction l with
   |nil=>simp
   |cons t l ih=>simp only[ot,ah];have:1<=size t:=by cases t<;>simp[size]
                 omega
  have h8:=h7<|W4 l;rw[h4]at hz;rw[ym]at h8;refine⟨λi hi=>?_,?_,?_⟩
  .cases i with
   |zero=>exact h1|succ i=>exact h3 i qBl
  .simp[fZ,aF,h2,h4,W4]
  .simp only at hz;simp only[ot];omega
def afk{w:World}{v}(h:PT w Q nd v):∀ns,(∀n,¬aA n (bt ns<|es nd).1)->size (bt ns<|es nd).1<=1000->N0 nd/\bt ns (es nd)=(m0 nd,ns):=by
 induction h with
 |var s n f t a x y hq hx hy=>
  intro ns ho _;exfalso;simp only[es,bt,if_true]at ho;exact ho _ rfl
 |fn s n a b f t at_ x y va vb ha hb Nj Nk=>
  intro ns ho hz;have e0:∀k,k=17\/k=6->bt ns (es<|.mk k s n [a,b] f t at_)=(.aK (iR k s) (aF ns<|fZ [a,b]).1,(aF ns<|fZ [a,b]).2):=λk hk=>by obtain rfl|rfl:=hk<;>simp[es,bt]
  rw[e0 _<|j7 rfl]at ho hz⊢;simp only[size,aA]at ho hz
  have⟨h3,h4,h5⟩:=FD [a,b] (λi hi=>by
   have rS:i=0\/i=1:=Hv;obtain rfl|rfl:=rS
   .exact Nj
   .exact Nk) ns ho ae
  refine⟨.two 17 s n a b f t at_ (j7 rfl) (h3 0 ag)<|h3 1 ag,?_⟩;rw[h4];simp[m0]
 |pr s n a b f t at_ x y va vb ha hb Nj Nk=>
  intro ns ho hz;have e0:∀k,k=17\/k=6->bt ns (es<|.mk k s n [a,b] f t at_)=(.aK (iR k s) (aF ns<|fZ [a,b]).1,(aF ns<|fZ [a,b]).2):=λk hk=>by obtain rfl|rfl:=hk<;>simp[es,bt]
  rw[e0 _<|j6 rfl]at ho hz⊢;simp only[size,aA]at ho hz
  have⟨h3,h4,h5⟩:=FD [a,b] (λi hi=>by
   have rS:i=0\/i=1:=Hv;obtain rfl|rfl:=rS
   .exact Nj
   .exact Nk) ns ho ae
  refine⟨.two 6 s n a b f t at_ (j6 rfl) (h3 0 ag)<|h3 1 ag,?_⟩;rw[h4];simp[m0]
 |up s n L f t at_ x y x' y' sa sc vs hu aN hr hx hy ih=>
  intro ns ho hz;have e0:bt ns (es<|.mk 2 s n L f t at_)=(.aK (iR 2 s) (aF ns<|fZ L).1,(aF ns<|fZ L).2):=by simp[es,bt]
  rw[e0]at ho hz⊢;simp only[size,aA]at ho hz;have⟨h3,h4,h5⟩:=FD L ih ns ho ae;refine⟨.up s n L f t at_ ae h3,?_⟩;rw[h4];simp[m0]
def aam T w(e:Ending)w':=∃u,e=.returned u/\dW w' (λb=>w.heap.size<=b) T u/\Fr (λ_=>False) w w'
def aam.up{w:World}{e}(h:aam T w0 e w')(hb:Bq w w0):aam T w e w':=by
 obtain⟨u,h1,h2,h4⟩:=h;exact⟨u,h1,h2.wide λb p=>j8 hb.size p,(Fr.of hb).trans h4⟩
def FE nd:=∀(w:World)(Q:Nat->Prop)(v:Value),PT w Q nd v->Cq 44 #[v,.nilFunc] w (aam (m0 nd) w)
def aan(L:List Nd)w gk v wr:=
 ∃(j:Nat)(C:Array Value),Hid (gk=L.length-j)/\j<=L.length/\v=Nv j/\Fr (λ_=>False) w wr/\Bx wr w.heap.size C/\Hid (C.size=L.length)/\
  Hid (∀i(h:i<L.length),i<j->∃u,C[i]? =some u/\dW wr (λb=>w.heap.size<b/\b<wr.heap.size) (m0 L[i]) u)
section
variable {w:World}
def Dp c(Fb:CN c)L sa sc(vs:Nat->Value)(hL:L.length<=1001)(aN:L=[]\/∃g,sa=some ⟨g,0,none⟩/\Q g/\g<w.heap.size/\∀i,i<L.length->w.cell? ⟨g,i,none⟩=some (vs i))(hr:∀i(h:i<L.length),PT w Q L[i]<|vs i)(IH:∀i(h:i<L.length),FE L[i]):
 Cq 71 #[.string<|pn c,.nilFunc,.slice sa L.length sc] w (aam (.aK c<|W4 L) w):=by
 obtain⟨i0,yi,oh,m7,i_⟩:=info_parts gw;have WZ:=jZ (by_:=16) eF yi oh rfl m7 i_ aH L.length hL;go_enter func71,ntmps71
 go_wp2
 go_loopg[15] L.length (λgk v wr=>aan L w gk v wr)
 case atStart=>
  exact⟨0,qr L.length .nilIface,ai ag,j9 _,rfl,Fr.of<|bw _,xk w _ _,ai ag,ai<|λi _ hi=>absurd hi ae⟩
 case round=>
  obtain⟨j,C,dv,hj,rfl,F1,B1,hC,hT⟩:=hrel;have zw:=F1.size;by_cases bq:j<L.length
  .have hd:(j:Int)<(L.length:Int):=ae;obtain⟨g,rfl,hg,lh,b8⟩:∃g,sa=some ⟨g,0,none⟩/\Q g/\g<w.heap.size/\∀i,i<L.length->w.cell? ⟨g,i,none⟩=some (vs i):=by
    exact yk
   have cg:wr.cell? ⟨g,j,none⟩=some (vs j):=by
    rw[qx (a:=⟨g,j,none⟩) (w:=w)<|F1.block g lh id];exact b8 j bq
   have PJ:=(hr j bq).fr F1<|λb p _ q=>q;obtain⟨tv,xv,hv⟩:=PJ.bQ;have HC:=IH j bq wr Q (vs j) PJ;rw[hv]at cg HC;go_wp2_with fail;refine HC.mono ?_;rintro e w1⟨u,rfl,HU,HF⟩;obtain⟨tu,xu,rfl⟩:=HU.iface;have B2:=B1.fr HF id;have wH:j<C.size:=qBh;have cj:=(B2.c j).trans<|qu wH;have fj:=B2.f j;have B3:=B2.aP j (.iface tu xu) (C.setIfInBounds j<|.iface tu xu) rfl wH;have Bi:=F1.trans HF;have z2:=HF.size;have zb:=B1.z
   go_wp2
   go_roundg(L.length-(j+1))
   case measure=>rw[uh dv];omega
   case rel=>
    refine⟨j+1,C.setIfInBounds j<|.iface tu xu,ai rfl,ae,jT,Bi.set (j6<|br _) j _,B3,ai (by simp;exact hC),ai<|λi hi hij=>?_⟩;have jU:∀b,w.heap.size<b->b<w1.heap.size->(w1.setCell ⟨w.heap.size,j,none⟩<|.iface tu xu).heap[b]? =w1.heap[b]? :=λb hb _=>qz _ _ _ _ (by show b≠w.heap.size;omega);have hss:(w1.setCell ⟨w.heap.size,j,none⟩<|.iface tu xu).heap.size=w1.heap.size:=C9;by_cases e:i=j
    .subst e;refine⟨.iface tu xu,by simp[wH],?_⟩;exact HU.low.move ae (λb p z=>jU b qAy z)<|λb p z=>⟨qAy,ae⟩
    .obtain⟨u',wI,wJ⟩:=uh hT i hi ae;refine⟨u',by rw[qs ae];exact wI,?_⟩;have h3:=wJ.fr HF<|λb p _ q=>q;exact h3.move ae (λb p z=>jU b p.1 z)<|λb p z=>⟨p.1,ae⟩
  .have hd:decide ((j:Int)<(L.length:Int))=false:=bP;have ej:j=L.length:=ae;subst ej
   go_wp2
   go_ret;refine⟨_,rfl,?_,F1⟩;have Y8:=ym L;rw[<-Y8];refine .aK c _ _ _ (λi=>C.getD i .nilIface) Fb (j6 ⟨w.heap.size,rfl,br _,B1.z,λi hi=>?_⟩)<|λi hi=>?_
   .obtain⟨u,hu,_⟩:=uh hT i ae ae;rw[B1.c i,hu];simp[qt,hu]
   .obtain⟨u,hu,TB⟩:=uh hT i ae ae;have:C.getD i .nilIface=u:=qBm;rw[this,Q8 L i ae];exact TB.wide λb p=>qAu
end
section
variable {w:World}
def Q9{T}(hk:k=17/\T=161/\cn=qJ\/k=6/\T=163/\cn=nO)s n x y f t a(hx:FE x)(hy:FE y):FE (.mk k s n [x,y] f t a):=by
 intro w Q v hp;have e:m0 (.mk k s n [x,y] f t a)=.aK cn (W4 [x,y]):=by obtain⟨rfl,rfl,rfl⟩|⟨rfl,rfl,rfl⟩:=hk<;>simp[m0,iR]
 rw[e];obtain⟨x1,y1,va,vb,ha,hb,rfl⟩:∃x1 y1 va vb,PT w Q x va/\PT w Q y vb/\v=Fv T (Av #[Iv x1,Iv y1,va,vb]):=by obtain⟨rfl,rfl,rfl⟩|⟨rfl,rfl,rfl⟩:=hk<;>(cases hp;exact⟨_,_,_,_,qas,qas,rfl⟩)
 obtain⟨ta,xa,rfl⟩:=ha.bQ;obtain⟨tb,xb,rfl⟩:=hb.bQ;have cz:Bq w ((w.alloc<|Cv #[Iv x1,Iv y1,Fv ta<|Av xa,Fv tb<|Av xb] T).alloc<|Cv #[Fv ta<|Av xa,Fv tb<|Av xb] 92):=(bw _).alloc ag _;have BR:=(xk (w.alloc<|Cv #[Iv x1,Iv y1,Fv ta<|Av xa,Fv tb<|Av xb] T) #[Fv ta<|Av xa,Fv tb<|Av xb] 92);have fW:(w.alloc<|Cv #[Iv x1,Iv y1,Fv ta<|Av xa,Fv tb<|Av xb] T).heap.size=w.heap.size+1:=ag;rw[fW]at BR
 have HC:=ai (Dp (w:=((w.alloc<|Cv #[Iv x1,Iv y1,Fv ta<|Av xa,Fv tb<|Av xb] T).alloc<|Cv #[Fv ta<|Av xa,Fv tb<|Av xb] 92)) (Q:=λb=>Q b\/b=w.heap.size+1) cn (by obtain⟨-,-,rfl⟩|⟨-,-,rfl⟩:=hk;exact j7 rfl;exact j6<|j7 rfl) [x,y] (some ⟨w.heap.size+1,0,none⟩) 2 (λi=>if i=0 then Fv ta (Av xa)else Fv tb (Av xb)) ag
  (j6 ⟨w.heap.size+1,rfl,j6 rfl,ag,λi hi=>by
   have rS:i=0\/i=1:=Hv;rw[BR.c i]
   obtain rfl|rfl:=rS<;>rfl⟩)
  (λi hi=>by
   have rS:i=0\/i=1:=Hv;obtain rfl|rfl:=rS
   .exact(ha.af cz).wide λb p=>j7 p
   .exact(hb.af cz).wide λb p=>j7 p)
  (λi hi=>by
   have rS:i=0\/i=1:=Hv;obtain rfl|rfl:=rS
   .exact hx
   .exact hy))
 obtain⟨rfl,rfl,rfl⟩|⟨rfl,rfl,rfl⟩:=hk;all_goals
  first|rw[kT]at HC|rw[kU]at HC
  exact yl
def ag_ s n L f t a(hl:L.length<=1001)(hL:∀i(h:i<L.length),FE L[i]):FE (.mk 2 s n L f t a):=by
 intro w Q v hp;have e:m0 (.mk 2 s n L f t a)=.aK s (W4 L):=by simp[m0,iR]
 rw[e]
 cases hp with
 |up s n L f t at_ x y x' y' sa sc vs hu aN hr hx hy=>
 clear hx hy;have cz:Bq w (w.alloc<|Cv #[Iv x,Iv y,Iv x',Iv y',Sv s,Lv sa L.length sc] 166):=bw _
 have HC:=ai (Dp (Q:=Q) s (j6<|j6 hu) L sa sc vs hl
  (aN.imp id λq=>by
   obtain⟨g,q1,q2,q3,q4⟩:=q
   exact⟨g,q1,q2,bP,λi hi=>(qx (a:=⟨g,i,none⟩)<|cz.block g q3).trans<|q4 i hi⟩)
  (λi hi=>(hr i hi).af cz) hL)
 rw[eS hu]at HC;clear aN hr;exact yl
def afl nd(h:N0 nd):FE nd:=by
 induction h with
 |two k s n x y f t a hk hx hy dR im=>
  obtain rfl|rfl:=hk
  .exact Q9 (j7 ⟨rfl,rfl,rfl⟩) s n x y f t a dR im
  .exact Q9 (j6 ⟨rfl,rfl,rfl⟩) s n x y f t a dR im
 |up s n L f t a hl hL ih=>exact ag_ s n L f t a hl ih
end
end
end Go.Proofs.YtfnkchdeheeiiaaGreatDoor

import Derived.Laws.AppendOwnNone
import Derived.Shelf.SlMaps.Clone
import Derived.Test.YtlnlhlefeokfjaaGreatDoorPPf
import Derived.Test.YtlnlhlefeokfjaaGreatDoorPWj
import Derived.Test.YtlnlhlefeokfjaaGreatDoorPTo
set_option linter.all false
set_option maxRecDepth 100000
set_option maxHeartbeats 4000000
namespace Go.Proofs.YtlnlhlefeokfjaaGreatDoor
open _root_.List renaming take_succ_cons->ja,getElem?_eq_getElem->jc,getElem_cons_succ->jd,take_length->jf,map_cons->jh,take_succ_eq_append_getElem->ji,mem_cons_of_mem->jj,eq_nil_of_length_eq_zero->jk,append_assoc->jl,mem_cons->jm,nodup_cons->jo,mem_map_of_mem->jp,foldl_append->jq,getElem_mem->jt,getD_eq_getElem?_getD->ju,nodup_append->jv,map_append->jx,length_map->jy,foldl_cons->jz,map_nil->j3
open Or renaming inr->j5,inl->j6
open _root_.Nat renaming le_trans->j7,zero_le->j8,strongRecOn->j9,lt_of_lt_of_le->qe,mul_le_mul->qf
open _root_.Array renaming replicate->qg,getElem?_setIfInBounds_ne->qh,getD_eq_getD_getElem?->qi,getElem?_eq_getElem->qj,getElem?_setIfInBounds->qk,toList_modify->ql
open Go.World renaming cell?_of_block->qm,ownsRow_nil->qn
open Go.Proofs.Tryz renaming prog->qp
open Go.RowKit.Below renaming heap_setCell->qr,refl->qs
open Go.Instr renaming typeAssert->qt,lookup->qu,mapUpdate->qv,next->qw
open Go.Value renaming string->qx,iface->qy,int->qz,slice->q9
open Un renaming seen->xc
open Go.MapKept renaming heap_alloc->xd,run_setObj_map->xf
open Bx renaming new->xg
open Go.Result renaming andThen->xh
open Classical renaming propDecidable->xi
open _root_.ByteArray renaming toList->xj
open Go Go.RowKit Go.ChangeMaps Proofs.Tryz
variable {ops:Array Oper} {cs:Array Value} {c cn s:BA} {L:List (Int×Value)} {ns:List BA} {V acc l l':List Nat} {N:List Nat->Nat->Prop} {rest:List Oper} {xs:List Value} {T base by_ cb fb g gb k kb mb n r:Nat} {D D1 K:Nat->Option Un.Ty} {P Q S:Nat->Prop} {R:Nat->Un.Ty} {nd:Nd} {o:Oper} {κ:Type} {e:TypeId} {i:TypeInfo} {t x y:Un.Ty} {u z:Value} {W w':World}
section
open Un
def tl(s:BA):BA:=s.extract 1 s.size
def UG(s:BA):=∃r,s.toList=39::r
def yD{r}(h:s.toList=39::r):(tl s).toList=r:=by
 rw[tl];rw[ByteArray.toList_eq]at h⊢;rw[ByteArray.data_extract];simp;rw[h];have:s.size=(39::r).length:=by rw[<-h];simp
 rw[this];simp
def aaE{t}(hs:UG s)(ht:UG t)(h:tl s=tl t):s=t:=by
 obtain⟨r,hr⟩:=hs;obtain⟨q,hq⟩:=ht;have:r=q:=by rw[<-yD hr,<-yD hq,h]
 exact toList_inj (by rw[hr,hq,this])
def nmF:Nat->List BA->List (BA×Value)
 |_,[]=>[]|i,a::l=>(tl a,Iv<|(i:Int)+1)::nmF (i+1) l
def KH(s:BA):∀l i,nmF i (l++[s])=nmF i l++[(tl s,Iv<|((i+l.length:Nat):Int)+1)]
 |[],i=>by simp[nmF]|a::l,i=>by
  simp only[List.cons_append,nmF,KH s l<|i+1];simp;omega
def aaF{s:BA}(hs:UG s):∀l i,(∀a∈l,UG a)->s∈l->a_ (tl s) (nmF i l)=some (Iv<|((i+ix s l:Nat):Int)+1)
 |[],i,_,h=>yl|a::l,i,h,hm=>by
  rw[nmF,a_];by_cases e:tl a=tl s
  .have:a=s:=aaE (h a ag) hs e;subst this;simp[ix]
  .have cR:¬s=a:=λq=>e (by rw[q]);have hx:ix s (a::l)=ix s l+1:=by
    show(if a.toList=s.toList then 0 else ix s l+1)=_;rw[if_neg<|λq=>cR (toList_inj q).symm]
   rw[if_neg e,aaF hs l (i+1) (λb hb=>h b<|jj _ hb)<|(List.mem_cons.1 hm).resolve_left cR,hx];congr 2;omega
def RS{s:BA}(hs:UG s):∀l i,(∀a∈l,UG a)->¬s∈l->a_ (tl s) (nmF i l)=none
 |[],i,_,_=>rfl|a::l,i,h,hm=>by
  rw[nmF,a_];have e:¬tl a=tl s:=λq=>hm<|List.mem_cons.2<|j6 (aaE (h a ag) hs q).symm;rw[if_neg e];exact RS hs l (i+1) (λb hb=>h b<|jj _ hb)<|λq=>hm<|jj _ q
structure NM w kb fb cb mb(ns:List BA):Prop where
 bk:Bx w kb #[Mv mb]
 bf:Bx w fb #[.func (.func 32) #[] #[Pv cb]]
 bc:Bx w cb #[Nv ns.length]
 mp:MS qx w mb (nmF 0 ns)
 qo:∀a∈ns,UG a
 nd:ns.Nodup
 d1:cb≠kb/\cb≠fb/\cb≠mb/\mb≠kb/\mb≠fb
abbrev nmV(kb fb:Nat):Value:=.func (.func 31) #[] #[Pv kb,Pv fb]
def YG cb mb(b:Nat):=b=cb\/b=mb
def NM.fr{S}{w w'}{kb fb cb mb}{ns}(h:NM w kb fb cb mb ns)(hf:Fr S w w')(hS:∀b,S b->b≠kb/\b≠fb/\b≠cb/\b≠mb):NM w' kb fb cb mb ns:=
 ⟨h.bk.fr hf<|λq=>(hS _ q).1 rfl,h.bf.fr hf<|λq=>(hS _ q).2.1 rfl,h.bc.fr hf<|λq=>(hS _ q).2.2.1 rfl,h.mp.same<|hf.block mb h.mp.lt<|λq=>(hS _ q).2.2.2 rfl,h.qo,h.nd,h.d1⟩
def NM.af{w:World}(h:NM w kb fb cb mb ns)(hb:Bq w w'):NM w' kb fb cb mb ns:=h.fr (S:=λ_=>False) (Fr.of hb)<|λ_ q=>q.elim
def NM.set{w}{kb fb cb mb}{ns}(h:NM w kb fb cb mb ns){b}(hb:b≠kb/\b≠fb/\b≠cb/\b≠mb)j v:NM (w.setCell ⟨b,j,none⟩ v) kb fb cb mb ns:=
 h.fr (S:=λx=>x=b) ((Fr.refl (λx=>x=b) w).set (j6 rfl) j v) (λx q=>by subst q;exact hb)
section
variable {w:World}
def adQ w:(zeroValue 85).run qp w=.ok (Iv 0) w:=qkr
def OU n(hn:n<=2000)(h:Bx w cb #[Nv n]):Cq 32 #[Pv cb] w λe w'=>e=.returned (Iv<|(n:Int)+1)/\w'=w.setCell ⟨cb,0,none⟩ (Iv<|(n:Int)+1):=by
 obtain⟨c,f,z⟩:=h;go_enter func32,ntmps32
 go_wp2
 go_ret;exact⟨rfl,rfl⟩
def OX kb fb cb mb ns s w(e:Ending)w':=
 e=.returned (.iface 85<|Iv<|(ix s (oV s ns):Int)+1)/\NM w' kb fb cb mb (oV s ns)/\Fr (YG cb mb) w w'
def Jr(h:NM w kb fb cb mb ns)s(hs:UG s)(hn:ns.length<=2000):Cq 31 #[.string<|tl s,Pv kb,Pv fb] w (OX kb fb cb mb ns s w):=by
 have hl:=h.mp.look (KL.str Tryz.underlying9) Tryz.underlying84 (adQ w) (tl s) trivial (λ_ _=>trivial) true;have⟨c,f,z⟩:=h.bk;have⟨cf,ff,zf⟩:=h.bf;by_cases hm:s∈ns
 .rw[aaF hs ns 0 h.qo hm]at hl;simp at hl;go_enter func31,ntmps31
  go_wp2
  go_ret;rw[OX];rw[RT hm];exact⟨rfl,h,Fr.refl _ _⟩
 .have hg:=RS hs ns 0 h.qo hm;rw[hg]at hl;simp at hl;have hd:=h.d1;have p9:=c 0;have HM:=h.mp.u_ hd.2.2.1.symm 0<|Iv<|(ns.length:Int)+1;have BK:=ai<|h.bk.bR hd.1.symm 0<|Iv<|(ns.length:Int)+1;have BF:=ai<|h.bf.bR hd.2.1.symm 0<|Iv<|(ns.length:Int)+1;have BC:=h.bc.aT 0 (Iv<|(ns.length:Int)+1) #[Iv<|(ns.length:Int)+1] rfl ag;have F1:=(Fr.refl (YG cb mb) w).set (b:=cb) (Or.inl<|Or.inl rfl) 0<|Iv<|(ns.length:Int)+1;have⟨c1,f1,z1⟩:=uh BK;go_enter func31,ntmps31;go_wp2_with(first|(go_at_call 32;refine(OU ns.length ae h.bc).mono ?_;rintro e w'⟨rfl,rfl⟩)|(refine aZ _ rfl _ _ _ _ (Or.inr rfl) (KL.str Tryz.underlying9) Tryz.underlying84 _ _ rfl HM (tl s) (Iv<|(ns.length:Int)+1) rfl rfl trivial (λ_ _=>trivial) ?_;intro w' H' O';have yk:=ai H';have O2:=ai O';clear H' O'));go_ret;have e1:=KI hm;have e2:=GK hm;rw[OX];rw[e1,e2];have O:=uh O2;refine⟨rfl,⟨BK.one O hd.2.2.2.1.symm,BF.one O hd.2.2.2.2.symm,?_,?_,?_,?_,hd⟩,?_⟩
  .have:=BC.one O hd.2.2.1;simpa using this
  .have:=uh yk;rw[mx _ _ _ hg]at this;rw[KH];simpa using this
  .intro a ha;obtain q|q:=List.mem_append.1 ha
   .exact h.qo a q
   .simp at q;subst q;exact hs
  .rw[jv];refine⟨h.nd,ag,λa ha b hb=>?_⟩;simp at hb;subst hb;intro e;subst e;exact hm ha
  .have f1:=F1;exact⟨O.os.trans f1.os,O.tape.trans f1.tape,O.output.trans f1.output,by rw[O.size];exact f1.size,λk hk hn=>(O.block k<|λe=>hn<|j5 e).trans<|f1.block k hk hn⟩
end
def pn(c:BA):BA:=if c.toList=[62]then⟨#[45,62]⟩else c
def CN c:=c=m9\/c=lq\/oA c
def kq:pn m9=⟨#[45,62]⟩:=by simp_all[pn]
def ku:pn lq=⟨#[44]⟩:=by simp_all[pn]
def cJ(h:oA c)x r(hx:Pu.Ax x.toNat=false):c.toList≠x::r:=by grind[oA]
def eS(h:oA c):pn c=c:=by rw[pn];rw[if_neg<|cJ h 62 [] aw]
inductive dD(w:World)(P:Nat->Prop):Ty->Value->Prop where
 |var(n:Nat):dD w P (.var n) (.iface 85<|Nv n)
 |aJ(c:BA)(L:List Ty)(sa:Option Addr)(sc:Nat)(vs:Nat->Value)(hc:CN c)(aN:L=[]\/∃g,sa=some ⟨g,0,none⟩/\P g/\g<w.heap.size/\∀i,i<L.length->w.cell? ⟨g,i,none⟩=some (vs i))(hr:∀i(h:i<L.length),dD w P L[i]<|vs i):
  dD w P (.aJ c L) (.iface 153<|.agg #[.string<|pn c,.slice sa L.length sc])
def RU{p:Prop}(h:p:=by
 induction h with
 |var n=>exact .var n|aJ c L sa sc vs hc aN hr ih=>
  refine .aJ c L sa sc vs hc ?_ ih;obtain h0|⟨g,h1,hP,hz,hc⟩:=aN
  .exact j6 h0
  .refine j5 ⟨g,h1,hq g hP hz,qe hz hs,λi hi=>?_⟩;rw[qm (a:=⟨g,i,none⟩) (w:=w)<|hb g hP hz]
   exact hc i hi):p:=h
theorem dD.move{w:World}{v:Value}(h:dD w P t v)(hs:w.heap.size<=w'.heap.size)(hb:∀b,P b->b<w.heap.size->w'.heap[b]? =w.heap[b]?)(hq:∀b,P b->b<w.heap.size->Q b):dD w' Q t v:=by
 exact RU
def dD.af{w:World}{v:Value}(h:dD w P t v)(hb:Bq w w'):dD w' P t v:=h.move hb.size (λb _ hz=>hb.block b hz)<|λ_ p _=>p
def dD.wide{w:World}{v:Value}(h:dD w P t v)(hq:∀b,P b->Q b):dD w Q t v:=h.move (br _) (λ_ _ _=>rfl)<|λb p _=>hq b p
def dD.fr{w:World}{v:Value}(h:dD w P t v)(hf:Fr S w w')(hS:∀b,P b->b<w.heap.size->¬S b):dD w' P t v:=h.move hf.size (λb p z=>hf.block b z<|hS b p z)<|λ_ p _=>p
def dD.low{w:World}{P:Nat->Prop}{t:Ty}{v:Value}(h:dD w P t v):dD w (λb=>P b/\b<w.heap.size) t v:=h.move (br _) (λ_ _ _=>rfl)<|λ_ p z=>⟨p,z⟩
def dD.iface{w:World}{v:Value}(h:dD w P t v):∃a x,v=.iface a x:=by
 cases h<;>exact⟨_,_,rfl⟩
def PT.fr{w:World}{v:Value}(h:PT w P nd v)(hf:Fr S w w')(hS:∀b,P b->b<w.heap.size->¬S b):PT w' P nd v:=h.move hf.size (λb p z=>hf.block b z<|hS b p z)<|λ_ p _=>p
def PT.bO{w:World}{a}{v:Value}(h:PT w P a v):∃t x,v=.iface t (.agg x):=by
 cases h<;>exact⟨_,_,rfl⟩
def AO z n:madeCells #[z] n=qg n z:=by
 rw[madeCells];apply Array.ext
 .simp
 .grind
def RX{p:Prop}(h:p:=by
 rw[run_make w t e i z ht hi hz .i64 .i64 n n ae (Int.le_refl _) hb ae,hzc,h1]
 simp[AO]):p:=h
def KJ{p:Prop}(h:p:=by
 have h3:((by_*n:Nat):Int)<=281474976710656:=ae
 rwa[Int.natCast_mul]at h3):p:=h
def hH{P}{t}(ht:P.underlying t=some (.slice e))(hi:P.info? e=some i)(hz:i.zero=some z)(hzc:z.cells=#[z])(h1:i.size=1)(h2:i.bytes=by_)(hby:by_<=16)n(hn:n<=1001)w:
 (Instr.makeSlice t (Nv n)<|Nv n).run P w=.ok (.slice (some ⟨w.heap.size,0,none⟩) n n) (w.alloc<|.cells (qg n z) e):=by
 have hb:(i.bytes:Int)*(n:Int)<=281474976710656:=by
  rw[h2];have:by_*n<=16*1001:=qf hby hn;exact KJ
 exact RX
def gu:(Tryz.prog.info? 56).map (λi=>(i.zero,i.size,i.bytes))=some (some .nilIface,1,16):=qkr
def eh:Tryz.prog.underlying 151=some (.slice 56):=qkr
def uC kb fb cb mb(ns:List BA)T ns' w(e:Ending)w':=
 ∃u,e=.returned u/\dD w' (λb=>w.heap.size<=b) T u/\NM w' kb fb cb mb ns'/\Fr (YG cb mb) w w'
def OfC nd:=∀(w:World)(kb fb cb mb:Nat)(ns:List BA)(Q:Nat->Prop)(v:Value),NM w kb fb cb mb ns->PT w Q nd v->(∀b,Q b->b≠cb/\b≠mb)->(aI ns nd).2.length<=2000->
 Cq 29 #[v,nmV kb fb] w (uC kb fb cb mb ns (aI ns nd).1 (aI ns nd).2 w)
def NM.lt{w}{kb fb cb mb}{ns}(h:NM w kb fb cb mb ns):kb<w.heap.size/\fb<w.heap.size/\cb<w.heap.size/\mb<w.heap.size:=⟨h.bk.z,h.bf.z,h.bc.z,h.mp.lt⟩
def xX ns:∀(L:List Nd)(i:Nat)(h:i<L.length),(aG ns<|L.take<|i+1).1=(aG ns<|L.take i).1++[(aI (aG ns<|L.take i).2 L[i]).1]/\(aG ns<|L.take<|i+1).2=(aI (aG ns<|L.take i).2 L[i]).2:=by
 intro L
 induction L generalizing ns with
 |nil=>intro i h;simp at h|cons x l ih=>
  intro i h
  cases i with
  |zero=>simp[aG]|succ i=>
   have:=ih (aI ns x).2 i Fe;simp only[ja,aG,this,jd];simp
def adR kb fb cb mb ns(L:List Nd)w gk v wr:=
 ∃(j:Nat)(C:Array Value),Hid (gk=L.length-j)/\j<=L.length/\v=Nv j/\NM wr kb fb cb mb (aG ns<|L.take j).2/\Fr (YG cb mb) w wr/\Bx wr w.heap.size C/\Hid (C.size=L.length)/\
  Hid (∀i(h:i<(aG ns<|L.take j).1.length),∃u,C[i]? =some u/\dD wr (λb=>w.heap.size<b/\b<wr.heap.size) (aG ns<|L.take j).1[i] u)
section
variable {w:World}
def il ns:∀(L:List Nd),(aG ns L).1.length=L.length:=by
 intro L
 induction L generalizing ns with
 |nil=>rfl|cons x l ih=>simp[aG,ih]
def C9 ns L i:(aG ns<|L.take i).2.length<=(aG ns L).2.length:=by
 induction L generalizing ns i with
 |nil=>simp|cons x l ih=>
  cases i with
  |zero=>simp only[List.take_zero];exact v_ (x::l) ns|succ i=>simp only[ja,aG];exact ih _ i
def uD{p:Prop}(h:p:=by
 obtain h0|h0:=aN
 .subst h0;simp at bh
 .exact h0):p:=h
def KN c(Ae:CN c)L sa sc(vs:Nat->Value)(hL:L.length<=1001)(h:NM w kb fb cb mb ns)(hQ:∀b,Q b->b≠cb/\b≠mb)(aN:L=[]\/∃g,sa=some ⟨g,0,none⟩/\Q g/\g<w.heap.size/\∀i,i<L.length->w.cell? ⟨g,i,none⟩=some (vs i))(hr:∀i(h:i<L.length),PT w Q L[i]<|vs i)(IH:∀i(h:i<L.length),OfC L[i])(hn:(aG ns L).2.length<=2000):
 Cq 53 #[.string<|pn c,nmV kb fb,.slice sa L.length sc] w (uC kb fb cb mb ns (.aJ c (aG ns L).1) (aG ns L).2 w):=by
 obtain⟨i0,wY,og,l8,gR⟩:=info_parts gu;have Nw:=hH (by_:=16) eh wY og rfl l8 gR aw L.length hL;have bA:=h.lt;go_enter func53,ntmps53
 go_wp2
 go_loopg[15] L.length (λgk v wr=>adR kb fb cb mb ns L w gk v wr)
 case atStart=>
  refine⟨0,qg L.length .nilIface,ai ag,j8 _,rfl,?_,Fr.of<|bw _,xg w _ _,ai ag,ai<|λi hi=>absurd hi<|by simp[aG]⟩;simpa[aG]using h.af (bw _)
 case round=>
  obtain⟨j,C,cV,hj,rfl,N1,F1,B1,hC,hT⟩:=hrel;have zw:=F1.size;have n1:=N1.lt;by_cases bh:j<L.length
  .have hd:(j:Int)<(L.length:Int):=ae;obtain⟨g,rfl,hg,iP,bQ⟩:∃g,sa=some ⟨g,0,none⟩/\Q g/\g<w.heap.size/\∀i,i<L.length->w.cell? ⟨g,i,none⟩=some (vs i):=by
    exact uD
   have hQg:=hQ g hg;have cg:wr.cell? ⟨g,j,none⟩=some (vs j):=by
    rw[qm (a:=⟨g,j,none⟩) (w:=w)<|F1.block g iP (λq=>by obtain q|q:=q;exact hQg.1 q;exact hQg.2 q)];exact bQ j bh
   have PJ:=(hr j bh).fr F1 (λb p _ q=>by obtain q|q:=q;exact(hQ b p).1 q;exact(hQ b p).2 q);obtain⟨tv,xv,hv⟩:=PJ.bO;obtain⟨mt1,mt2⟩:=xX ns L j bh;have hnj:(aI (aG ns<|L.take j).2 L[j]).2.length<=2000:=by rw[<-mt2];exact j7 (C9 ns L<|j+1) hn
   have HC:=IH j bh wr kb fb cb mb _ Q (vs j) N1 PJ hQ hnj;rw[hv]at cg HC;go_wp2_with fail;refine HC.mono ?_;rintro e w1⟨u,rfl,HU,Fb,HF⟩;obtain⟨tu,xu,rfl⟩:=HU.iface;have hpb:¬YG cb mb w.heap.size:=λq=>by obtain q|q:=q<;>omega
   have B2:=B1.fr HF hpb;have sI:j<C.size:=qBh;have cj:=(B2.c j).trans<|qj sI;have fj:=B2.f j;have B3:=B2.aT j (.iface tu xu) (C.setIfInBounds j<|.iface tu xu) rfl sI;have yE:=F1.trans HF;have z2:=HF.size
   go_wp2
   go_roundg(L.length-(j+1))
   case measure=>rw[uh cV];omega
   case rel=>
    have NE:(aG ns<|L.take j).1.length=j:=by rw[il];simp;omega
    refine⟨j+1,C.setIfInBounds j<|.iface tu xu,ai rfl,ae,i_,?_,?_,B3,ai (by simp;exact hC),ai<|λi hi=>?_⟩
    .rw[mt2];exact Fb.set ae j _
    .exact yE.set (j5<|br _) j _
    .have jA:∀b,w.heap.size<b->b<w1.heap.size->(w1.setCell ⟨w.heap.size,j,none⟩<|.iface tu xu).heap[b]? =w1.heap[b]? :=λb hb _=>qr _ _ _ _ (by show b≠w.heap.size;omega);have hss:(w1.setCell ⟨w.heap.size,j,none⟩<|.iface tu xu).heap.size=w1.heap.size:=zJ;have zK:i<j+1:=by rw[mt1]at hi;simp[NE]at hi;omega
     by_cases e:i=j
     .subst e;refine⟨.iface tu xu,by simp[sI],?_⟩;have e1:(aG ns<|L.take<|i+1).1[i]'hi=(aI (aG ns<|L.take i).2 L[i]).1:=by
       have:(aG ns<|L.take<|i+1).1[i]? =some (aI (aG ns<|L.take i).2 L[i]).1:=by rw[mt1,List.getElem?_append_right ae];simp[NE]
       rw[jc hi]at this;exact Option.some.inj this
      rw[e1];refine HU.low.move ae (λb p z=>jA b (by have:wr.heap.size<=b:=p.1;have:=B1.z;omega) z) (λb p z=>⟨by have:wr.heap.size<=b:=p.1;have:=B1.z;omega,ae⟩)
     .have rO:i<(aG ns<|L.take j).1.length:=ae;obtain⟨u',wS,wU⟩:=uh hT i rO;have e1:(aG ns<|L.take<|j+1).1[i]'hi=(aG ns<|L.take j).1[i]'rO:=by
       have:(aG ns<|L.take<|j+1).1[i]? =some ((aG ns<|L.take j).1[i]'rO):=by rw[mt1,List.getElem?_append_left rO,jc rO]
       rw[jc hi]at this;exact Option.some.inj this
      refine⟨u',by rw[qh ae];exact wS,?_⟩;rw[e1];have h3:=wU.fr HF (λb p _ q=>by obtain q|q:=q<;>omega);exact h3.move ae (λb p z=>jA b p.1 z)<|λb p z=>⟨p.1,ae⟩
  .have hd:decide ((j:Int)<(L.length:Int))=false:=bD;have ej:j=L.length:=ae;subst ej
   go_wp2
   go_ret;refine⟨_,rfl,?_,?_,F1⟩
   .have ht:L.take L.length=L:=jf;rw[ht]at hT;have hml:=il ns L;rw[<-hml];refine .aJ c _ _ _ (λi=>C.getD i .nilIface) Ae (j5 ⟨w.heap.size,rfl,br _,B1.z,λi hi=>?_⟩)<|λi hi=>?_
    .obtain⟨u,hu,_⟩:=uh hT i hi;rw[B1.c i,hu];simp[qi,hu]
    .obtain⟨u,hu,UB⟩:=uh hT i hi;have:C.getD i .nilIface=u:=qBm;rw[this];exact UB.wide λb p=>qAu
   .rw[jf]at N1;exact N1
end
def aaG:pn sK=sK:=by simp_all[pn,sK]
inductive cX(w:World)(P:Nat->Prop):Ty->Value->Prop where
 |var(n:Nat):cX w P (.var n) (.iface 85<|Nv n)
 |aJ(c:BA)(L:List Ty)(sa:Option Addr)(sc:Nat)(vs:Nat->Value)(hc:CN c\/c=sK)(aN:L=[]\/∃g,sa=some ⟨g,0,none⟩/\P g/\g<w.heap.size/\∀i,i<L.length->w.cell? ⟨g,i,none⟩=some (vs i))(hr:∀i(h:i<L.length),cX w P L[i]<|vs i):
  cX w P (.aJ c L) (.iface 153<|.agg #[.string<|pn c,.slice sa L.length sc])
theorem cX.move{w}{v}(h:cX w P t v)(hs:w.heap.size<=w'.heap.size)(hb:∀b,P b->b<w.heap.size->w'.heap[b]? =w.heap[b]?)(hq:∀b,P b->b<w.heap.size->Q b):cX w' Q t v:=by
 exact RU
def cX.af{w}{v}(h:cX w P t v)(hb:Bq w w'):cX w' P t v:=h.move hb.size (λb _ hz=>hb.block b hz)<|λ_ p _=>p
def cX.wide{w}{v}(h:cX w P t v)(hq:∀b,P b->Q b):cX w Q t v:=h.move (br _) (λ_ _ _=>rfl)<|λb p _=>hq b p
def cX.fr{w}{v}(h:cX w P t v)(hf:Fr S w w')(hS:∀b,P b->b<w.heap.size->¬S b):cX w' P t v:=h.move hf.size (λb p z=>hf.block b z<|hS b p z)<|λ_ p _=>p
def cX.low{w}{P:Nat->Prop}{t:Ty}{v}(h:cX w P t v):cX w (λb=>P b/\b<w.heap.size) t v:=h.move (br _) (λ_ _ _=>rfl)<|λ_ p z=>⟨p,z⟩
def cX.iface{w}{v}(h:cX w P t v):∃a x,v=.iface a x:=by
 cases h<;>exact⟨_,_,rfl⟩
def dD.w{w}{v}(h:dD w P t v):cX w P t v:=by
 induction h with
 |var n=>exact .var n|aJ c L sa sc vs hc aN hr ih=>exact .aJ c L sa sc vs (j6 hc) aN ih
def wa:∀{L:List Ty},lX L->∀i(h:i<L.length),Whole L[i]
 |[],_,i,h=>yl|t::l,h,0,_=>h.1|t::l,h,i+1,k=>by simpa using wa h.2 i (by simpa using k)
def cX.v{w}{v}(h:cX w P t v)(hw:Whole t):dD w P t v:=by
 induction h with
 |var n=>exact .var n|aJ c L sa sc vs hc aN hr ih=>exact .aJ c L sa sc vs (hc.resolve_right hw.1) aN λi hi=>ih i hi<|wa hw.2 i hi
mutual
def occs:Ty->List Nat
 |.var n=>[n]|.aJ _ l=>gI l
def gI:List Ty->List Nat
 |[]=>[]|t::l=>occs t++gI l
end
mutual
def cC:∀(t:Ty)(a:List Nat),vars a t=(occs t).foldl xc a
 |.var n,a=>rfl|.aJ c l,a=>by simpa[vars,occs]using AP l a
def AP:∀(l:List Ty)(a:List Nat),aU a l=(gI l).foldl xc a
 |[],a=>rfl|t::l,a=>by simp only[aU,gI,jq];rw[cC t a];exact AP l _
end
def AQ:∀(L:List Ty)(i:Nat)(h:i<L.length),gI (L.take<|i+1)=gI (L.take i)++occs L[i]
 |[],i,h=>yl|t::l,0,_=>by simp[gI]|t::l,i+1,h=>by
  have:=AQ l i Fe;simp only[ja,gI,jd,this,jl]
def RY σ L i(h:i<L.length):(aP σ L)[i]'(by rw[ew];exact h)=sub σ L[i]:=by simp[iI]
def mO:∀(L:List Ty)(i:Nat)(h:i<L.length),size L[i]<=ah L:=by simp_all[size,ah,tO]
def GO:∀L:List Ty,L.length<=ah L
 |[]=>br _|t::l=>by have:=GO l;have:=size_pos t;simp only[kh,ah];omega
def RZ{n:Nat}:∀(L:List Ty)(i:Nat)(h:i<L.length),aB n L[i]->bX n L
 |[],i,h,_=>yl|t::l,0,_,k=>j6 k|t::l,i+1,h,k=>j5 (RZ l i Fe<|by simpa using k)
def VD{P}{t}(ht:P.underlying t=some (.slice e))(hi:P.info? e=some i)(hz:i.zero=some z)(hzc:z.cells=#[z])(h1:i.size=1)(h2:i.bytes=by_)(hby:by_<=16)n(hn:n<=1000000000000)w:
 (Instr.makeSlice t (Nv n)<|Nv n).run P w=.ok (.slice (some ⟨w.heap.size,0,none⟩) n n) (w.alloc<|.cells (qg n z) e):=by
 have hb:(i.bytes:Int)*(n:Int)<=281474976710656:=by
  rw[h2];have:by_*n<=16*1000000000000:=qf hby hn;exact KJ
 exact RX
@[simp] theorem ahr n w:(qt (.iface 85<|Iv n) 56 85 true).run qp w=.ok (.tuple #[Iv n,.bool true]) w:=qkr
@[simp] theorem amT n w:(qt (.iface 85<|Iv n) 56 153 true).run qp w=.ok (.tuple #[.agg #[.string ⟨#[]⟩,.slice none 0 0],.bool false]) w:=qkr
@[simp] theorem ajZ a b w:(qt (.iface 153<|.agg #[a,b]) 56 85 true).run qp w=.ok (.tuple #[Iv 0,.bool false]) w:=qkr
@[simp] theorem amU a b w:(qt (.iface 153<|.agg #[a,b]) 56 153 true).run qp w=.ok (.tuple #[.agg #[a,b],.bool true]) w:=qkr
abbrev aaH(B M:Nat->Prop)n b:=¬M b/\(B b\/n<=b)
abbrev KO:=List Nat->(Nat->Prop)->(Nat->Prop)->World->Prop
structure Img g bs cs(σ:Nat->Ty)(N:List Nat->Nat->Prop)(I:KO):Prop where
 eg:∀args w,(callFunc g args).run qp w=.ok (.enter g args) w
 lU:∀acc B M w w',I acc B M w->w.heap.size<=w'.heap.size->(∀b,B b\/M b->w'.heap[b]? =w.heap[b]?)->I acc B M w'
 lt:∀acc B M w,I acc B M w->∀b,B b\/M b->b<w.heap.size
 call:∀acc B M w n,I acc B M w->N acc n->Cq g (bs++#[Nv n]++cs) w λe w'=>
  ∃u B' M',e=.returned u/\cX w' (aaH B M' w.heap.size) (σ n) u/\I (acc++[n]) B' M' w'/\(∀b,B' b->B b\/w.heap.size<=b)/\(∀b,M' b->M b\/w.heap.size<=b)/\Fr M w w'
def Fr.hY{M M'}{a b c}(h:Fr M a b)(k:Fr M' b c)(hm:∀x,M' x->M x\/a.heap.size<=x):Fr M a c:=
 ⟨k.os.trans h.os,k.tape.trans h.tape,k.output.trans h.output,j7 h.size k.size,λx hx hn=>(k.block x (qe hx h.size) (λq=>by obtain r|r:=hm x q;exact hn r;omega)).trans (h.block x hx hn)⟩
def R7 σ(I:KO)acc B M t w(e:Ending)w':=
 ∃u B' M',e=.returned u/\cX w' (aaH B M' w.heap.size) (sub σ t) u/\I (acc++occs t) B' M' w'/\(∀b,B' b->B b\/w.heap.size<=b)/\(∀b,M' b->M b\/w.heap.size<=b)/\Fr M w w'
def KP(N:List Nat->Nat->Prop)acc(l:List Nat):=∀i(h:i<l.length),N (acc++l.take i) l[i]
def KP.left(h:KP N acc (l++l')):KP N acc l:=λi hi=>by
 have:=h i bD
 rwa[List.take_append_of_le_length ae,List.getElem_append_left hi]at this
def KP.right(h:KP N acc (l++l')):KP N (acc++l) l':=λi hi=>by
 have:=h (l.length+i) bD;rw[List.take_length_add_append,<-jl]at this;simpa using this
def adS g bs cs σ N I t:=∀(acc:List Nat)(B M:Nat->Prop)(w:World)(v:Value)(Q:Nat->Prop),I acc B M w->KP N acc (occs t)->size t<=1000000000000->cX w Q t v->(∀b,Q b->b<w.heap.size->¬M b)->
 Cq 254 #[v,.func (.func g) bs cs] w (R7 σ I acc B M t w)
def adT σ(I:KO)acc B M(L:List Ty)TC w gk v wr:=
 ∃(j:Nat)(C:Array Value)(B' M':Nat->Prop),Hid (gk=L.length-j)/\j<=L.length/\v=Nv j/\I (acc++gI (L.take j)) B' M' wr/\Hid (∀b,B' b->B b\/w.heap.size+2<=b)/\Hid (∀b,M' b->M b\/w.heap.size+2<=b)/\Fr M w wr/\Bx wr w.heap.size TC/\Bx wr (w.heap.size+1) C/\Hid (C.size=L.length)/\
  Hid (∀i(h:i<L.length),i<j->∃u,C[i]? =some u/\cX wr (λb=>aaH B M' (w.heap.size+2) b/\b<wr.heap.size) (sub σ L[i]) u)
def aaI L j(h:j<L.length):∃r,gI L=gI (L.take j)++(occs L[j]++r):=by
 induction L generalizing j with
 |nil=>simp at h|cons t l ih=>
  cases j with
  |zero=>exact⟨gI l,by simp[gI]⟩|succ j=>
   have⟨r,e⟩:=ih j Fe;exact⟨r,by simp only[ja,gI,jd];rw[e];simp[jl]⟩
section
variable {bs:Array Value} {σ:Nat->Ty} {I:KO}
def adU(H:Img g bs cs σ N I)n:adS g bs cs σ N I (.var n):=by
 intro acc B M w v Q hI hN hz hv hQ
 cases hv
 have eg:=H.eg;have HC:=H.call acc B M w n hI (by simpa[occs]using hN 0 (by simp[occs]));go_enter func254,ntmps254;go_wp2_with(go_at_fn g;refine HC.mono ?_;rintro e w1⟨u,B',M',rfl,h2,h3,h4,h5,h6⟩;obtain⟨ta,xa,rfl⟩:=h2.iface;have X:=ai<|show R7 σ I acc B M (.var n) w (Rv<|Fv ta xa) w1 from⟨_,B',M',rfl,h2,h3,h4,h5,h6⟩;clear h2 h3 h4 h5 h6);go_ret;exact X
def GP{p:Prop}(h:p:=by
 obtain r|r:=uh hM1 _ q
 .have:=HB _<|j5 r;omega
 .omega):p:=h
def adV(H:Img g bs cs σ N I)c L(IH:∀i(h:i<L.length),adS g bs cs σ N I L[i]):adS g bs cs σ N I (.aJ c L):=by
 intro acc B M w v Q HN HNN HZ hv HQ
 cases hv with
 |aJ c L sa sc vs hc aN hr=>
 have hL:L.length<=1000000000000:=by have:=GO L;simp only[size]at HZ;omega
 obtain⟨i0,wY,og,l8,gR⟩:=info_parts gu;have Nw:=VD (by_:=16) eh wY og rfl l8 gR aw L.length hL;have HB:=H.lt acc B M w HN;have HK:=ai H.lU;go_enter func254,ntmps254
 go_wp2
 go_loopg[27] L.length (λgk v wr=>adT σ I acc B M L #[.string<|pn c,.slice sa L.length sc] w gk v wr)
 case atStart=>
  have b1:Bq w ((w.alloc<|.cells #[.string<|pn c,.slice sa L.length sc] 153).alloc<|.cells (qg L.length .nilIface) 56):=(bw _).alloc ag _;refine⟨0,qg L.length .nilIface,B,M,ai ag,j8 _,rfl,?_,ai<|λb hb=>j6 hb,ai<|λb hb=>j6 hb,Fr.of b1,?_,?_,ai ag,ai<|λi _ hi=>absurd hi ae⟩
  .simpa[gI]using HK _ _ _ _ _ HN b1.size (λb hb=>b1.block b<|HB b hb)
  .exact(xg w _ _).below (bw _)
  .have:=xg (w.alloc<|.cells #[.string<|pn c,.slice sa L.length sc] 153) (qg L.length .nilIface) 56;simpa using this
 case round=>
  obtain⟨j,C,B1,M1,cV,hj,rfl,Fz,hB1,hM1,F1,T1,P1,hC,hT⟩:=hrel;have zw:=F1.size;have tz:=T1.z;have pz:=P1.z;by_cases bh:j<L.length
  .have hd:(j:Int)<(L.length:Int):=ae;obtain⟨g1,rfl,hg,iP,bQ⟩:∃g,sa=some ⟨g,0,none⟩/\Q g/\g<w.heap.size/\∀i,i<L.length->w.cell? ⟨g,i,none⟩=some (vs i):=by
    exact uD
   have cg:wr.cell? ⟨g1,j,none⟩=some (vs j):=by
    rw[qm (a:=⟨g1,j,none⟩) (w:=w)<|F1.block g1 iP<|HQ g1 hg iP];exact bQ j bh
   have PJ:=(hr j bh).low.fr F1<|λb p _=>HQ b p.1 p.2;obtain⟨tv,xv,hv⟩:=PJ.iface;obtain⟨rr,hrr⟩:=aaI L j bh;have hNj:KP N (acc++gI (L.take j)) (occs L[j]):=by
    have:=HNN;simp only[occs]at this;rw[hrr]at this;exact this.right.left
   have hQ1:∀b,(Q b/\b<w.heap.size)->b<wr.heap.size->¬M1 b:=λb p _ q=>by
    obtain r|r:=uh hM1 b q
    .exact HQ b p.1 p.2 r
    .omega
   have HC:=IH j bh _ B1 M1 wr (vs j) _ Fz hNj (by have:=mO L j bh;have:=HZ;simp only[size]at this;omega) PJ hQ1;rw[hv]at cg HC;obtain⟨tc,tf,_⟩:=T1;go_wp2_with fail;refine HC.mono ?_;rintro e w1⟨u,B2,M2,rfl,HU,Fb,du,yk,HF⟩;obtain⟨tu,xu,rfl⟩:=HU.iface;have hpb:¬M1 (w.heap.size+1):=λq=>by
    exact GP
   have htb:¬M1 w.heap.size:=λq=>by
    exact GP
   have P2:=P1.fr HF hpb;have T2:=(show Bx wr w.heap.size #[.string<|pn c,.slice (some ⟨g1,0,none⟩) L.length sc]from⟨tc,tf,tz⟩).fr HF htb;have sI:j<C.size:=qBh;have cj:=(P2.c j).trans<|qj sI;have fj:=P2.f j;have P3:=P2.aT j (.iface tu xu) (C.setIfInBounds j<|.iface tu xu) rfl sI;have T3:=T2.bR (show w.heap.size≠w.heap.size+1 by omega) j (.iface tu xu);have yE:=F1.hY HF (λx q=>by obtain r|r:=uh hM1 x q;exact j6 r;exact j5 ae);have z2:=HF.size
   go_wp2
   go_roundg(L.length-(j+1))
   case measure=>rw[uh cV];omega
   case rel=>
    have cR:∀b,b≠w.heap.size+1->(w1.setCell ⟨w.heap.size+1,j,none⟩<|.iface tu xu).heap[b]? =w1.heap[b]? :=λb hb=>qr _ _ _ _ (by show b≠w.heap.size+1;exact hb);have hss:(w1.setCell ⟨w.heap.size+1,j,none⟩<|.iface tu xu).heap.size=w1.heap.size:=zJ;have ox:∀b,B2 b->B b\/w.heap.size+2<=b:=λb hb=>by
     obtain q|q:=du b hb
     .exact hB1 b q
     .exact j5 ae
    have hm3:∀b,M2 b->M b\/w.heap.size+2<=b:=λb hb=>by
     obtain q|q:=yk b hb
     .exact hM1 b q
     .exact j5 ae
    have hn3:∀b,(B b\/w.heap.size+2<=b)->b≠w.heap.size+1:=λb hb e=>by
     obtain q|q:=hb
     .have:=HB b<|j6 q;omega
     .omega
    have hn4:∀b,(M b\/w.heap.size+2<=b)->b≠w.heap.size+1:=λb hb e=>by
     obtain q|q:=hb
     .have:=HB b<|j5 q;omega
     .omega
    refine⟨j+1,C.setIfInBounds j<|.iface tu xu,B2,M2,ai rfl,ae,i_,?_,ai ox,ai hm3,?_,T3,P3,ai (by simp;exact hC),ai<|λi hi hij=>?_⟩
    .rw[AQ L j bh,<-jl];exact HK _ _ _ _ _ Fb ae (λb hb=>cR b (by obtain q|q:=hb;exact hn3 b<|ox b q;exact hn4 b<|hm3 b q))
    .exact yE.set (j5 ae) j _
    .by_cases e:i=j
     .subst e;refine⟨.iface tu xu,by simp[sI],?_⟩
      have hL1:∀b,aaH B1 M2 wr.heap.size b->aaH B M2 (w.heap.size+2) b:=λb p=>⟨p.1,by
       obtain q|q:=p.2
       .exact hB1 b q
       .exact j5 ae⟩
      exact HU.move ae (λb p z=>cR b<|hn3 b (hL1 b p).2)<|λb p z=>⟨hL1 b p,ae⟩
     .obtain⟨u',wS,wU⟩:=uh hT i hi ae;refine⟨u',by rw[qh ae];exact wS,?_⟩;have h3:=wU.fr HF<|λb p _=>p.1.1;refine h3.move ae (λb p z=>cR b<|hn3 b p.1.2)<|λb p z=>⟨⟨λq=>?_,p.1.2⟩,ae⟩;obtain r|r:=yk b q
      .exact p.1.1 r
      .have:=p.2;omega
  .have hd:decide ((j:Int)<(L.length:Int))=false:=bD;have ej:j=L.length:=ae;subst ej;obtain⟨tc,tf,_⟩:=T1
   go_wp2
   go_ret;refine⟨_,B1,M1,rfl,?_,?_,λb hb=>?_,λb hb=>?_,F1⟩
   .have hml:=ew σ L;simp only[sub];rw[<-hml];refine .aJ c _ _ _ (λi=>C.getD i .nilIface) hc (j5 ⟨w.heap.size+1,rfl,⟨λq=>?_,j5 ae⟩,P1.z,λi hi=>?_⟩)<|λi hi=>?_
    .exact GP
    .rw[hml]at hi;obtain⟨u,hu,_⟩:=uh hT i hi hi;rw[P1.c i,hu];simp[qi,hu]
    .have zK:i<L.length:=by rw[hml]at hi;exact hi
     obtain⟨u,hu,UB⟩:=uh hT i zK zK;have:C.getD i .nilIface=u:=qBm;rw[this,RY σ L i zK];exact UB.wide λb p=>⟨p.1.1,by obtain q|q:=p.1.2;exact j6 q;exact j5 ae⟩
   .simp only[occs];rw[<-jf (l:=L)];exact Fz
   .obtain q|q:=uh hB1 b hb
    .exact j6 q
    .exact j5 ae
   .obtain q|q:=uh hM1 b hb
    .exact j6 q
    .exact j5 ae
def AR(H:Img g bs cs σ N I):∀t,adS g bs cs σ N I t
 |.var n=>adU H n|.aJ c L=>adV H c L λi h=>AR H L[i]
 termination_by t=>size t
 decreasing_by have:=mO L i h;simp only[size];omega
end
section
variable {w:World}
def QF:Cq 87 #[] w λe w'=>e=.returned (.iface 153<|.agg #[.string lh,.slice none 0 0])/\w'=w:=by
 go_enter func87,ntmps87
 go_wp2
 go_ret;exact⟨rfl,rfl⟩
def vd:Cq 88 #[] w λe w'=>e=.returned (.iface 153<|.agg #[.string gS,.slice none 0 0])/\w'=w:=by
 go_enter func88,ntmps88
 go_wp2
 go_ret;exact⟨rfl,rfl⟩
def zU:Cq 258 #[] w λe w'=>e=.returned (.iface 153<|.agg #[.string jC,.slice none 0 0])/\w'=w:=by
 go_enter func258,ntmps258
 go_wp2
 go_ret;exact⟨rfl,rfl⟩
def Fo:oA lh:=⟨73,[110,116],toList_mk _,aw⟩
def qA:oA gS:=⟨66,[111,111,108],toList_mk _,aw⟩
def tj:oA jC:=⟨85,[110,105,116],toList_mk _,aw⟩
def Ji w P(h:oA c):cX w P (.aJ c []) (.iface 153<|.agg #[.string c,.slice none 0 0]):=by
 have:=cX.aJ (w:=w) (P:=P) c [] none 0 (λ_=>Zv) (j6<|j5<|j5 h) (j6 rfl) (λi hi=>by simp at hi);rw[eS h]at this;exact this
def nj c a b(w:World)(e:Ending)w':=
 e=.returned (.iface 153<|.agg #[.string<|pn c,.slice (some ⟨w.heap.size,0,none⟩) 2 2])/\w'=w.alloc (.cells #[a,b] 56)
def xB ta tb xa xb:Cq 278 #[.iface ta xa,.iface tb xb] w (nj m9 (.iface ta xa) (.iface tb xb) w):=by
 go_enter func278,ntmps278
 go_wp2
 go_ret;rw[nj];rw[kq];exact⟨rfl,rfl⟩
def QH ta tb xa xb:Cq 279 #[.iface ta xa,.iface tb xb] w (nj lq (.iface ta xa) (.iface tb xb) w):=by
 go_enter func279,ntmps279
 go_wp2
 go_ret;rw[nj];rw[ku];exact⟨rfl,rfl⟩
def nj.ty(hc:CN c){a b}{va vb}(ha:cX w Q a va)(hb:cX w Q b vb)(hq:Q w.heap.size):
 cX (w.alloc<|.cells #[va,vb] 56) Q (.aJ c [a,b]) (.iface 153<|.agg #[.string<|pn c,.slice (some ⟨w.heap.size,0,none⟩) 2 2]):=by
 have⟨bl,bx⟩:=oF w #[va,vb] 56;refine cX.aJ c [a,b] (some ⟨w.heap.size,0,none⟩) 2 (λi=>if i=0 then va else vb) (j6 hc) (j5 ⟨w.heap.size,rfl,hq,bx.z,λi hi=>?_⟩) (λi hi=>?_)
 .have:=bx.c i;obtain _|_|i:=i
  .exact this
  .exact this
  .simp at hi;omega
 .obtain _|_|i:=i
  .exact ha.af bl
  .exact hb.af bl
  .simp at hi;omega
end
def aaJ(h:CN c):pn c≠sK:=by
 have e:sK.toList=[116,111,111,32,108,97,114,103,101]:=toList_mk _;obtain rfl|rfl|h:=h
 .rw[kq];intro q;have:=congrArg xj q;rw[e,toList_mk]at this;simp at this
 .rw[ku];intro q;have:=congrArg xj q;rw[e,toList_mk]at this;simp at this
 .rw[eS h];intro q;subst q;exact cJ h 116 _ aw e
def aj0(L:List Ty)TC w gk(v s:Value)wr:=
 ∃(j:Nat),Hid (gk=L.length-j)/\j<=L.length/\v=Nv j/\s=.int .i64 ((1+rX (L.take j):Nat):Int)/\Bq w wr/\Bx wr w.heap.size TC
def AU:∀(L:List Ty)(i:Nat)(h:i<L.length),rX (L.take<|i+1)=rX (L.take i)+sz L[i]
 |[],i,h=>yl|t::l,0,_=>by simp[rX]|t::l,i+1,h=>by
  have:=AU l i Fe;simp only[ja,rX,jd,this,Nat.add_assoc]
def xY:∀(L:List Ty)(i:Nat),rX (L.take i)<=rX L
 |[],i=>ag|t::l,0=>by simp[rX]|t::l,i+1=>by have:=xY l i;simp only[ja,rX];omega
section
variable {w:World}
def SzC t:=∀(w:World)(v:Value)(Q:Nat->Prop),cX w Q t v->size t<=1000000000000->Cq 243 #[v] w λe w'=>e=.returned (Nv<|sz t)/\Bq w w'
def ahs n:SzC (.var n):=by
 intro w v Q hv hz
 cases hv
 go_enter func243,ntmps243
 go_wp2
 go_ret;exact⟨by simp[sz],bw _⟩
def aht c L(IH:∀i(h:i<L.length),SzC L[i]):SzC (.aJ c L):=by
 intro w v Q hv HZ
 cases hv with
 |aJ c L sa sc vs hc aN hr=>
 by_cases ec:c=sK
 .subst ec;rw[aaG];rw[sK];go_enter func243,ntmps243
  go_wp2
  go_ret;exact⟨by simp[sz,sK],bw _⟩
 .have cR:pn c≠sK:=by
   obtain h|h:=hc
   .exact aaJ h
   .exact absurd h ec
  have hd0:((pn c).toList==[116,111,111,32,108,97,114,103,101])=false:=by
   rw[<-Bool.not_eq_true,beq_iff_eq];intro q;exact cR<|toList_inj<|q.trans (toList_mk [116,111,111,32,108,97,114,103,101]).symm
  go_enter func243,ntmps243
  go_wp2
  go_loopg[5,21] L.length (λgk s v wr=>aj0 L #[Sv<|pn c,Lv sa L.length sc] w gk v s wr)
  case atStart=>exact⟨0,ai ag,j8 _,rfl,by simp[rX],bw _,xg w _ _⟩
  case round=>
   obtain⟨j,cV,hj,rfl,rfl,CO,UP⟩:=hrel;have hZ:=HZ;by_cases bh:j<L.length
   .have hd:(j:Int)<(L.length:Int):=ae;obtain⟨g1,rfl,hg,iP,bQ⟩:∃g,sa=some ⟨g,0,none⟩/\Q g/\g<w.heap.size/\∀i,i<L.length->w.cell? ⟨g,i,none⟩=some (vs i):=by
     exact uD
    have cg:wr.cell? ⟨g1,j,none⟩=some (vs j):=by
     rw[qm (a:=⟨g1,j,none⟩) (w:=w)<|CO.block g1 iP];exact bQ j bh
    have PJ:=(hr j bh).af CO;have⟨tv,xv,hv⟩:=PJ.iface;have hzj:=mO L j bh;simp only[size]at hZ;have hlen:=GO L;have HC:=IH j bh wr (vs j) Q PJ ae;rw[hv]at cg HC;have hle:=xY L<|j+1;rw[AU L j bh]at hle;have ajY:=Oh L;have hs0:((1+rX (L.take j):Nat):Int)=1+(rX (L.take j):Int):=ae;generalize hA:rX (L.take j)=A at*;generalize hB:sz L[j]=B at*;go_wp2_with fail;refine HC.mono ?_;rintro e w1⟨rfl,UI⟩
    go_wp2
    go_roundg(L.length-(j+1))
    case measure=>rw[uh cV];omega
    case rel=>
     have z1:=CO.size;refine⟨j+1,ai rfl,ae,i_,?_,CO.trans<|UI.mono z1,UP.below UI⟩;rw[AU L j bh,hA,hB];go_num
   .have hd:decide ((j:Int)<(L.length:Int))=false:=bD;have ej:j=L.length:=ae;subst ej
    go_wp2
    go_ret;refine⟨?_,CO⟩;rw[jf];simp only[sz];rw[if_neg ec];rfl
def pU:∀t,SzC t
 |.var n=>ahs n|.aJ c L=>aht c L λi h=>pU L[i]
 termination_by t=>size t
 decreasing_by have:=mO L i h;simp only[size];omega
end
abbrev gM(w:World)e base v xs:=w.ownsRow base e 1 v xs.length xs
def gM.new(w:World)e C base(hb:base<=w.heap.size)(hl:C.length<=1000000000000)n(hn:n=C.length):gM (w.alloc<|.cells C.toArray e) e base (.slice (some ⟨w.heap.size,0,none⟩) n n) C:=by
 subst hn;exact⟨ag,.inr ⟨w.heap.size,C.length,C.toArray,rfl,hb,heap_alloc_new w _,br _,Yu,ag,ag⟩⟩
def KR{w:World}{b'}{size}{v:Value}(h:w.ownsRow b' e size v n xs)(hb:base<=b'):w.ownsRow base e size v n xs:=by
 obtain⟨h1,h2⟩:=h;obtain h2|⟨g,cap,l_,r1,r2,r3⟩:=h2
 .exact⟨h1,.inl h2⟩
 .exact⟨h1,.inr ⟨g,cap,l_,r1,j7 hb r2,r3⟩⟩
def yp{P}w base t ty e i z size bytes(ht:P.underlying t=some (.slice e))(hi:P.info? e=some i)(hz:i.zero=some z)(aaK:i.size=size)(hby:i.bytes=bytes)(hzs:z.cells.size=size)(fK:0<size)v n xs(iT:w.ownsRow base e size v n xs)a m c news(hl:news.length=m*size)(R8:∀j u,news[j]? =some u->w.cell? (a.add j)=some u)(h1:∀u∈news,u.oneCell'=true)(h63:n+m<=maxLen)(OY:(n+m)*bytes<=140737488355328)(ru:base<=w.heap.size):
 ∃v' w',(Builtin.append_ #[t,t] ty #[v,.slice (some a) m c]).run P w=.ok v' w'/\w'.ownsRow base e size v' (n+m) (xs++news)/\w.grownBy w' v.ownBlock/\∀k,v'.ownBlock=some k->v.ownBlock=some k\/w.heap.size<=k:=by
 have afR:=iT;obtain⟨rfl,rfl⟩|⟨g,cap,l_,rfl,hbg,hg,hnc,Ix,NR,aj1⟩:=iT.2
 .have hx:=jk (by simpa using iT.1);subst hx;have⟨v',w',q1,q2,q3,_⟩:=run_append_own w w.heap.size t ty e i z size bytes ht hi hz aaK hby hzs fK (Lv none 0 0) 0 [] (qn w _ e size) a m c news hl R8 h1 h63 OY<|br _;exact⟨v',w',q1,KR q2 ru,q3,λk hk=>j5 (World.ownsRow.lt q2 k hk).1⟩
 .have⟨v',w',q1,q2,q3,_⟩:=run_append_own w base t ty e i z size bytes ht hi hz aaK hby hzs fK _ n xs afR a m c news hl R8 h1 h63 OY ru;refine⟨v',w',q1,q2,q3,?_⟩;subst aaK;by_cases afS:n+m<=cap
  .have al2:n*i.size+news.length<=l_.size:=by rw[hl,NR,<-Nat.add_mul];exact Nat.mul_le_mul_right _ afS
   have hr:=run_append_room (P:=P) w t ty e i ht hi g n cap l_ hg a m c news hl R8 h1 afS al2;rw[hr]at q1;injection q1 with q1 _;subst q1;exact λk hk=>j6 hk
  .have holds:=afR.cells (g:=g) rfl;have hr:=run_append_grow (P:=P) w t ty e i z ht hi hz ⟨g,0,none⟩ n cap xs iT.1 holds a m c news hl R8 ae (by rw[maxLen]at h63;omega) (growslice_fits ae (by rw[hby];exact OY));rw[hr]at q1;injection q1 with q1 _;subst q1;intro k hk;simp[Value.ownBlock]at hk;exact j5 ae
def afT{T}(hT:Tryz.prog.underlying T=some (.slice e))(hI:(Tryz.prog.info? e).map (λi=>(i.zero,i.size,i.bytes))=some (some z,1,by_))(hzc:z.cells.size=1)(hby:by_<=16){w:World}{a}{Q}(hgd:o.guard=none)s x(ho:o.op=.call {callee:=.builtin .append,args:=#[s,x],argTypes:=#[T,T]}){b0}{v:Value}{news}(hs:a.eval s=v)(iT:gM w e base v xs)(hx:a.eval x=u)(hn:gM w e b0 u news)(h1:∀u∈news,u.oneCell'=true)(hz:xs.length+news.length<=1000000000000)(ru:base<=w.heap.size)(h:∀v' w',gM w' e base v' (xs++news)->w.grownBy w' v.ownBlock->(∀k,v'.ownBlock=some k->v.ownBlock=some k\/w.heap.size<=k)->wpList qp ops Q rest (a.put o.dst v') w'):wpList qp ops Q (o::rest) a w:=by
 have⟨i0,hi,og,l8,gR⟩:=info_parts hI;have Fw:=hn;obtain⟨hl,hc⟩:=hn;obtain⟨rfl,h0⟩|⟨g,cap,l_,rfl,hg,hh,r⟩:=hc
 .have e1:=jk h0;subst e1;refine wpList_append_own_none hgd s x T ho base e i0 1 hT hi v xs.length xs hs iT hx ?_;exact h v w (by simpa using iT) ⟨rfl,rfl,rfl,br _,λ_ _ _=>rfl⟩ (λk hk=>j6 hk)
 .refine wpList_plain hgd λK hK=>?_;have⟨v',w',hr,h2,h3,h4⟩:=yp (P:=qp) w base T o.type e i0 _ 1 by_ hT hi og l8 gR hzc aw v xs.length xs iT ⟨g,0,none⟩ news.length cap news ae (λj z e=>Fw.cells rfl j z e) h1 Yu (by have:(xs.length+news.length)*by_<=1000000000000*16:=qf hz hby;omega) ru;rw[Oper.wp,execOp];simp only[ho,resolve,invoke,builtin,Sem.run_bind,Sem.run_pure,Result.andThen_ok,List.map_toArray,jh,j3,hs,hx,hr];exact hK _ _ (h v' w' (by rw[gM];rw[lz];exact h2) h3 h4)
def iB{w:World}{v:Value}(h:gM w e base v xs)(hn:0<xs.length):∃g cp m,v=.slice (some ⟨g,0,none⟩) m cp/\base<=g/\g<w.heap.size/\Hid (m=xs.length):=by
 have h':=h;obtain⟨h1,h2⟩:=h;obtain⟨rfl,q⟩|⟨g,cp,l_,rfl,hg,hh,r⟩:=h2
 .omega
 .exact⟨g,cp,xs.length,rfl,hg,(World.ownsRow.lt h' g rfl).2,ai rfl⟩
def adW:(Tryz.prog.info? 85).map (λi=>(i.zero,i.size,i.bytes))=some (some<|Iv 0,1,8):=qkr
def Du:Tryz.prog.underlying 390=some (.slice 85):=qkr
def mC{w:World}{c}(h:gM w e base (.slice (some ⟨g,0,none⟩) n c) xs)j(hj:j<xs.length):w.cell? ⟨g,j,none⟩=some xs[j]:=by
 have e1:=World.ownsRow.cells h (g:=g) rfl j xs[j] (jc hj);have e2:(⟨g,0,none⟩:Addr).add j=⟨g,j,none⟩:=by
  rw[Addr.add];split
  .grind
  .simp
 rwa[e2]at e1
def iU{w:World}{v:Value}(h:gM w e base v xs):∀k,v.ownBlock=some k->base<=k/\k<w.heap.size:=λk hk=>World.ownsRow.lt h k hk
def lL{w:World}{v:Value}(h:gM w e base v xs)(hb:∀k,v.ownBlock=some k->w'.heap[k]? =w.heap[k]?):gM w' e base v xs:=tH h hb
def oM(l:List Nat):List Value:=l.map λ(n:Nat)=>Nv n
def VI mb mm lb base(acc:List Nat)B M w:=
 ∃(L:List (Int×Value))(v:Value),(B=λb=>b=mb)/\(M=λb=>b=mm\/b=lb\/v.ownBlock=some b)/\Bx w mb #[Mv mm]/\MS (λn:Int=>Iv n) w mm L/\(∀n:Nat,a_ (n:Int) L=if n∈acc then some (Nv<|acc.count n)else none)/\Bx w lb #[v]/\gM w 85 base v (oM<|acc.foldl xc [])/\base<=w.heap.size
def OZ acc(n m:Nat):(acc++[n]).count m=acc.count m+if n=m then 1 else 0:=Cc
def zO w:(zeroValue 3).run qp w=.ok (Iv 0) w:=qkr
section
variable {w:World} {mm lb:Nat}
def KS{w}{row}{b}{C}(h:Bx w b C)(hg:w.grownBy w' row)(hn:row≠some b):Bx w' b C:=h.same hg.size<|hg.block b h.z<|λe=>hn e.symm
def aj2 mb mm lb base acc(B M:Nat->Prop)n w(e:Ending)w':=
 e=.returned (.iface 85<|Nv n)/\∃B' M',VI mb mm lb base (acc++[n]) B' M' w'/\(∀b,B' b->B b\/w.heap.size<=b)/\(∀b,M' b->M b\/w.heap.size<=b)/\Fr M w w'
def cY:∀(acc l:List Nat),(acc.foldl xc l).length<=l.length+acc.length
 |[],l=>ag|a::acc,l=>by
  have:=cY acc<|xc l a;have h2:(xc l a).length<=l.length+1:=by rw[xc];split<;>simp
  simp only[jz,kh];omega
def gJ(n:Nat):∀(acc l:List Nat),n∈acc.foldl xc l↔n∈l\/n∈acc
 |[],l=>ag|a::acc,l=>by
  simp only[jz,gJ n acc,o7,jm];constructor
  .rintro((h|h)|h)
   .exact j6 h
   .exact j5 (j6 h)
   .exact j5 (j5 h)
  .rintro(h|h|h)
   .exact j6 (j6 h)
   .exact j6 (j5 h)
   .exact j5 h
def VE acc B M(n:Nat)(amV:acc.length<1000000000000)(h:VI mb mm lb base acc B M w)(hd:mb≠mm/\mb≠lb/\mm≠lb)(hb:mb<base/\mm<base/\lb<base):
 Calls qp 260 #[.int .i64 (n:Int),.pointer<|some ⟨mb,0,none⟩,.pointer<|some ⟨lb,0,none⟩] w (aj2 mb mm lb base acc B M n w):=by
 obtain⟨L,v,rfl,rfl,rC,iZ,VG,HL,HO,b4⟩:=h;obtain⟨d1,d2,d3⟩:=hd;obtain⟨b1,b2,b3⟩:=hb;have al3:acc.count n<=acc.length:=List.count_le_length;have hl:=iZ.look (KL.num Tryz.underlying85) Tryz.underlying155 (zO w) (n:Int) trivial (λ_ _=>trivial) false;rw[VG n]at hl;have hl':(qu 155 (.map<|some mm) (.int .i64 (n:Int)) false).run qp w=.ok (.int .i64 (acc.count n:Int)) w:=by
  by_cases hm:n∈acc
  .rw[if_pos hm]at hl;simpa using hl
  .rw[if_neg hm]at hl;rw[List.count_eq_zero_of_not_mem hm];simpa using hl
 have HG:∀m:Nat,a_ (m:Int) (bG (n:Int) (.int .i64<|(acc.count n:Int)+1) L)=if m∈acc++[n]then some (.int .i64 ((acc++[n]).count m:Int))else none:=by
  intro m;rw[aO,OZ];by_cases e:n=m
  .subst e;simp
  .have e':¬(n:Int)=(m:Int):=ae;rw[if_neg e',VG m];simp[e,Ne.symm e]
 have Nk:∀w',MS (λn:Int=>qz .i64 n) w' mm (bG (n:Int) (.int .i64<|(acc.count n:Int)+1) L)->(qu 155 (.map<|some mm) (.int .i64 (n:Int)) false).run qp w'=.ok (.int .i64<|(acc.count n:Int)+1) w':=by
  intro w' hM;have hl:=hM.look (KL.num Tryz.underlying85) Tryz.underlying155 (zO w') (n:Int) trivial (λ_ _=>trivial) false;rw[aO,if_pos rfl]at hl;simpa using hl
 have HV:=iU HO;have HM:=ai iZ;have HB:=ai rC;have HH:=ai Nk;obtain⟨c,f,z⟩:=rC;by_cases hm:n∈acc
 .have acX:=List.count_pos_iff.2 hm;have alp:((acc.count n:Int)+1==1)=false:=bD;go_enter func260,ntmps260;go_wp2_with(refine aZ _ rfl _ _ _ _ (Or.inr rfl) (KL.num Tryz.underlying85) Tryz.underlying155 _ _ rfl HM (n:Int) (.int .i64<|(acc.count n:Int)+1) rfl rfl trivial (λ_ _=>trivial) ?_;intro w' H' O';have Nk:=uh HH w' H';obtain⟨c1,f1,z1⟩:=HB.one O' d1;have yk:=ai H';have O2:=ai O';clear H' O');go_ret;have O:=uh O2;refine⟨rfl,_,_,⟨_,v,rfl,rfl,⟨c1,f1,z1⟩,yk,HG,HL.one O d3.symm,?_,by rw[O.size];exact b4⟩,λb q=>Or.inl q,λb q=>Or.inl q,⟨O.os,O.tape,O.output,by rw[O.size];exact br _,λk _ hn=>O.block k<|λe=>hn<|Or.inl e⟩⟩;have es:(acc++[n]).foldl Un.seen []=acc.foldl Un.seen []:=by
   rw[jq];exact JI<|(gJ n acc []).2<|j5 hm
  rw[es];exact lL HO λk hk=>O.block k (λe=>by have:=HV k hk;omega)
 .have h0:=List.count_eq_zero_of_not_mem hm;rw[h0]at hl' HG HH al3;have ES:(acc++[n]).foldl xc []=acc.foldl xc []++[n]:=by
   rw[jq];show xc _ n=_;rw[xc,if_neg<|λq=>hm<|by simpa using(gJ n acc []).1 q]
  have zP:(oM<|acc.foldl xc []).length+[qz .i64 (n:Int)].length<=1000000000000:=by
   have hlen:=cY acc [];simp[oM]at hlen⊢;omega
  have ahu:∀u∈[Value.int .i64 (n:Int)],u.oneCell'=true:=qAn;have HA:∀w',gM w' 85 base v (oM<|acc.foldl Un.seen [])->Hid (gM (w'.alloc<|.cells #[.int .i64 (n:Int)] 85) 85 base v<|oM<|acc.foldl Un.seen []):=λw' ho=>ai<|lL ho λk hk=>(MapKept.heap_alloc _ _).2 k (iU ho k hk).2;go_enter func260,ntmps260
  go_wp2_with(first
   |(refine aZ _ rfl _ _ _ _ (j5 rfl) (KL.num Tryz.underlying85) Tryz.underlying155 _ _ rfl HM (n:Int) (.int .i64 1) rfl rfl trivial (λ_ _=>trivial) ?_;intro w' H' O';have Nk:=uh HH w' H';obtain⟨c1,f1,z1⟩:=HB.one O' d1;obtain⟨cl,fl,zl⟩:=HL.one O' d3.symm;have OW:=ai (lL HO<|λk hk=>O'.block k (λe=>by have:=HV k hk;omega));have yk:=ai H';have O2:=ai O';have hz':w.heap.size<=w'.heap.size:=Nat.le_of_eq O'.size.symm;clear H' O')
   |(at_builtin;go_loud(refine afT Du adW rfl aw rfl (.tmp 13) (.tmp 15) rfl rfl (uh<|HA w' OW) rfl (gM.new w' 85 [.int .i64 (n:Int)] 0 (j8 _) ag 1 rfl) ahu zP (j7 b4<|j7 hz' ag) ?_);intro v2 w2 o2 g2 k2;obtain⟨g3,cp3,m3,rfl,_,_,M3⟩:=iB o2 ag;obtain⟨c2,f2,z2⟩:=KS (Bx.below (show Bx w' lb #[v]from⟨cl,fl,zl⟩)<|bw<|.cells #[.int .i64 (n:Int)] 85) g2 (λe=>by have:=HV lb e;omega);have OV:=ai o2;have GV:=ai g2;have KV:=ai k2;clear o2 g2 k2))
  go_ret;have O:=uh O2;have g:=uh GV;have o:=uh OV;have bl:Below w'.heap.size w' (w'.alloc<|.cells #[.int .i64 (n:Int)] 85):=bw _;have hzz:=g.size;have l8:=bl.size;have hv:=HV;have hold:∀k,k<w.heap.size->k≠mm->k≠lb->v.ownBlock≠some k->(w2.setCell ⟨lb,0,none⟩<|.slice (some ⟨g3,0,none⟩) m3 cp3).heap[k]? =w.heap[k]? :=λk h1 h2 h3 h4=>by
   rw[qr _ _ _ _ (by show k≠lb;exact h3),g.block k ae<|λe=>h4 e.symm,bl.block k ae,O.block k h2]
  have hss:(w2.setCell ⟨lb,0,none⟩<|.slice (some ⟨g3,0,none⟩) m3 cp3).heap.size=w2.heap.size:=zJ;have al4:∀k,k<w.heap.size->k≠lb->v.ownBlock≠some k->(w2.setCell ⟨lb,0,none⟩<|.slice (some ⟨g3,0,none⟩) m3 cp3).heap[k]? =w'.heap[k]? :=λk h1 h3 h4=>by
   rw[qr _ _ _ _ (by show k≠lb;exact h3),g.block k ae<|λe=>h4 e.symm,bl.block k ae]
  have nb:∀k,k<base->v.ownBlock≠some k:=λk h e=>by have:=hv k e;omega
  have ho2:=iU o;refine⟨rfl,_,_,⟨_,.slice (some ⟨g3,0,none⟩) m3 cp3,rfl,rfl,?_,?_,HG,?_,?_,ae⟩,λb q=>j6 q,λb q=>?_,⟨?_,?_,?_,ae,λk hk hn=>hold k hk (λe=>hn<|j6 e) (λe=>hn<|j5<|j6 e)<|λe=>hn<|j5<|j5 e⟩⟩
  .exact HB.same ae (hold mb z d1 d2<|nb mb b1)
  .exact yk.same (al4 mm ae d3<|nb mm b2)
  .exact Bx.aT (C:=#[v]) ⟨c2,f2,z2⟩ 0 _ _ rfl ag
  .rw[ES];have e:oM (acc.foldl xc []++[n])=oM (acc.foldl xc [])++[.int .i64 (n:Int)]:=by simp[oM]
   rw[e];exact lL o λk hk=>qr _ _ _ _ (by show k≠lb;intro e;have:=(ho2 k hk).1;omega)
  .obtain q|q|q:=q
   .exact j6 (j6 q)
   .exact j6 (j5<|j6 q)
   .have:=(ho2 b q).1;by_cases hbw:b<w.heap.size
    .obtain r|r:=uh KV b q
     .exact j6 (j5<|j5 r)
     .exact absurd r bD
    .exact j5 ae
  .exact g.os.trans O.os
  .exact g.tape.trans O.tape
  .exact g.output.trans O.output
def adX acc B M w w'(h:VI mb mm lb base acc B M w)(hz:w.heap.size<=w'.heap.size)(hb:∀b,B b\/M b->w'.heap[b]? =w.heap[b]?):VI mb mm lb base acc B M w':=by
 obtain⟨L,v,rfl,rfl,rC,iZ,VG,hlb,iT,b4⟩:=h;exact⟨L,v,rfl,rfl,rC.same hz<|hb mb<|j6 rfl,iZ.same<|hb mm<|j5<|j6 rfl,VG,hlb.same hz<|hb lb<|j5<|j5<|j6 rfl,lL iT λk hk=>hb k<|j5<|j5<|j5 hk,j7 b4 hz⟩
def aj4 acc B M w(h:VI mb mm lb base acc B M w):∀b,B b\/M b->b<w.heap.size:=by
 obtain⟨L,v,rfl,rfl,rC,iZ,VG,hlb,iT,b4⟩:=h;rintro b(rfl|rfl|rfl|q)
 .exact rC.z
 .exact iZ.lt
 .exact hlb.z
 .exact(iU iT b q).2
def aaL(hd:mb≠mm/\mb≠lb/\mm≠lb)(hb:mb<base/\mm<base/\lb<base):Img 260 #[] #[Pv mb,Pv lb] Ty.var (λacc _=>acc.length<1000000000000) (VI mb mm lb base) where
 eg:=enters_of Tryz.func260 qkr rfl
 lU:=adX
 lt:=aj4
 call acc B M w n h hN:=(VE acc B M n hN h hd hb).mono λe w'⟨h1,B',M',h2,h3,h4,h5⟩=>⟨_,B',M',h1,.var n,h2,h3,h4,h5⟩
end
mutual
def cZ:∀t:Ty,(occs t).length<=size t
 |.var n=>by simp[occs,size]|.aJ c l=>by have:=Ef l;simp only[occs,size];omega
def Ef:∀l:List Ty,(gI l).length<=ah l
 |[]=>by simp[gI,ah]|t::l=>by have:=cZ t;have:=Ef l;simp only[gI,ah,lz];omega
end
def VH t w(e:Ending)w':=∃v,e=.returned v/\gM w' 85 w.heap.size v (oM<|vars [] t)/\Bq w w'
def fO{w:World}{v:Value}(h:cX w Q t v)(hz:size t<=1000000000000):Cq 248 #[v] w (VH t w):=by
 obtain⟨ta,xa,rfl⟩:=h.iface;have bl:Bq w (((w.alloc<|Cv #[Lv none 0 0] 390).alloc<|.map #[] 0).alloc<|Cv #[Mv<|w.heap.size+1] 155):=((bw _).alloc ag _).alloc bD _;have hI:VI (w.heap.size+2) (w.heap.size+1) w.heap.size (w.heap.size+3) [] (λb=>b=w.heap.size+2) (λb=>b=w.heap.size+1\/b=w.heap.size\/(Lv none 0 0).ownBlock=some b) (((w.alloc<|Cv #[Lv none 0 0] 390).alloc<|.map #[] 0).alloc<|Cv #[Mv<|w.heap.size+1] 155):=by
  refine⟨[],Lv none 0 0,rfl,rfl,?_,?_,λn=>by simp[a_],?_,qn _ _ _ _,ag⟩
  .have:=xg ((w.alloc<|Cv #[Lv none 0 0] 390).alloc<|.map #[] 0) #[Mv<|w.heap.size+1] 155;simpa using this
  .have:=(MS.new (λn:Int=>Iv n)<|w.alloc<|Cv #[Lv none 0 0] 390).below<|bw<|Cv #[Mv<|w.heap.size+1] 155;simpa using this
  .exact((xg w #[Lv none 0 0] 390).below<|bw _).below (bw _)
 have HC:=AR (aaL (mb:=w.heap.size+2) (mm:=w.heap.size+1) (lb:=w.heap.size) (base:=w.heap.size+3) ae ae) t [] _ _ _ _ (λb=>Q b/\b<w.heap.size) hI (λi hi=>by have:=cZ t;simp;omega) hz (h.low.af bl) (λb q _ r=>by obtain r|r|r:=r;omega;omega;cases r);have HB:=ai bl;have iZ:= @run_makeMap Tryz.prog;go_enter func248,ntmps248;go_wp2_with fail;refine HC.mono ?_;rintro e w1⟨u,B',M',rfl,hU,⟨L,v,rfl,rfl,rC,iZ,VG,hlb,HO,b4⟩,hB,hM,F⟩;have z1:=F.size;have HF:=ai F;obtain⟨c2,f2,z2⟩:=hlb
 go_wp2
 go_ret;refine⟨v,rfl,?_,?_⟩
 .have e:List.foldl xc [] ([]++occs t)=vars [] t:=by rw[cC];rfl
  rw[<-e];exact KR HO ae
 .have F:=uh HF;have b:=uh HB;exact⟨F.os.trans b.os,F.tape.trans b.tape,F.output.trans b.output,j7 b.size F.size,λi hi=>(F.block i (qe hi b.size) (λq=>by obtain q|q|q:=q;omega;omega;cases q)).trans (b.block i hi)⟩
def VJ:(Tryz.prog.info? 56).map (λi=>(i.zero,i.size,i.bytes))=some (some .nilIface,1,16):=qkr
def GQ(l:List Nat):List Value:=l.map λ(n:Nat)=>qy 85<|Nv n
def ahv l w1 V gk v wr:=
 ∃(j:Nat)(u:Value),Hid (gk=l.length-j)/\j<=l.length/\v=Nv j/\Bq w1 wr/\w1.heap.size+1<=wr.heap.size/\Bx wr w1.heap.size #[.string ⟨#[116,111,111,32,108,97,114,103,101]⟩,u]/\gM wr 85 (w1.heap.size+1) V (oM l)/\gM wr 56 (w1.heap.size+1) u (GQ<|l.take j)/\Hid (∀k,u.ownBlock=some k->V.ownBlock≠some k)
def dM{w:World}{v:Value}(h:gM w e base v xs)(hn:xs.length=n):∃va vc,v=.slice va n vc:=by
 subst hn;obtain⟨h1,h2⟩:=h;obtain⟨rfl,q⟩|⟨g,cp,l_,rfl,_⟩:=h2
 .exact⟨none,0,by rw[q]⟩
 .exact⟨_,_,rfl⟩
def aaM(l:List Nat)j(h:j<l.length):GQ (l.take<|j+1)=GQ (l.take j)++[qy 85<|Nv<|l[j]]:=by
 rw[GQ];rw[ji h,jx];rfl
section
variable {w:World}
def ahw{b}{wr}(h:gM wr 56 b u (GQ l))(hl:l≠[])(hP:∀k,b<=k->P k):∃sa sc,u=.slice sa l.length sc/\cX wr P (.aJ sK<|l.map Ty.var) (.iface 153<|.agg #[.string sK,u]):=by
 have hln:0<(GQ l).length:=by simp[GQ];exact Nat.pos_of_ne_zero<|λe=>hl<|jk e
 obtain⟨g,cp,m,rfl,hg,iP,hm⟩:=iB h hln;have hm:=uh hm;simp only[GQ,jy]at hm;subst hm;refine⟨_,_,rfl,?_⟩;have:=cX.aJ (w:=wr) (P:=P) sK (l.map Ty.var) (some ⟨g,0,none⟩) cp (λi=>(GQ l).getD i Zv) (j5 rfl) (j5 ⟨g,rfl,hP g hg,iP,λi hi=>?_⟩)<|λi hi=>?_
 .rw[aaG,jy]at this;exact this
 .have zK:i<(GQ l).length:=by simpa[GQ]using hi
  rw[mC h i zK,ju,jc zK];rfl
 .have zK:i<(GQ l).length:=by simpa[GQ]using hi
  rw[ju,jc zK];simp only[GQ,List.getElem_map,Option.getD_some];exact .var _
def R9 t(Q:Nat->Prop)w(e:Ending)w':=∃u,e=.returned u/\cX w' (λb=>Q b\/w.heap.size<=b) (bK t) u/\Bq w w'
def KT{p:Prop}(h:p:=by
 rw[cC];have:=cY (occs t) [];have:=cZ t;simp at*
 omega):p:=h
def aaN{v:Value}(h:cX w Q t v)(hz:size t<=1000000000000):Calls qp 253 #[v] w (R9 t Q w):=by
 obtain⟨ta,xa,rfl⟩:=h.iface;have HS:=pU t w _ Q h ae;have hsl:=aft t;have HT:=ai h;clear h;by_cases hs:sz t<=48
 .have hd:(sz t:Int)<=48:=ae;go_enter func253,ntmps253;go_wp2_with fail;refine HS.mono ?_;rintro e w1⟨rfl,HB⟩;clear HS
  go_wp2
  go_ret;unfold R9 bK;rw[if_pos hs];exact⟨_,rfl,((uh HT).af HB).wide λb q=>j6 q,HB⟩
 .have hd:¬(sz t:Int)<=48:=ae;have HV:=λ(W:World)(hb:Below w.heap.size w W)=>fO ((uh HT).af hb) hz;go_enter func253,ntmps253;go_wp2_with fail;refine HS.mono ?_;rintro e w1⟨rfl,b1⟩;have HB:=ai b1;have z1:=b1.size;clear b1 HS;have HC:=HV (w1.alloc<|.cells #[.string ⟨#[116,111,111,32,108,97,114,103,101]⟩,.slice none 0 0] 153)<|HB.alloc ae _;clear HV;go_wp2_with fail;refine HC.mono ?_;rintro e w2⟨V,rfl,HO,b2⟩;have zP:(vars [] t).length<=1000000000000:=by
   exact KT
  generalize Dr:vars [] t=l at*;clear HC;obtain⟨va,vc,rfl⟩:=dM HO (n:=l.length) (by simp[oM]);have du:=ai b2;clear b2
  go_wp2
  go_loopg[14] l.length (λgk v wr=>ahv l w1 (.slice va l.length vc) gk v wr)
  case atStart=>
   have b2:=uh du;have b1:Below w1.heap.size w1 (w1.alloc<|.cells #[.string ⟨#[116,111,111,32,108,97,114,103,101]⟩,.slice none 0 0] 153):=bw _;have gR:=b2.size;have hz3:(w1.alloc<|.cells #[.string ⟨#[116,111,111,32,108,97,114,103,101]⟩,.slice none 0 0] 153).heap.size=w1.heap.size+1:=ag;rw[hz3]at gR;exact⟨0,.slice none 0 0,ai ag,j8 _,rfl,b1.trans<|b2.mono b1.size,gR,(xg w1 _ _).below b2,by simpa using HO,qn _ _ _ _,ai<|λk hk=>by cases hk⟩
  case round=>
   obtain⟨j,u,cV,hj,rfl,F1,zz,T1,O1,O2,hdj⟩:=hrel;by_cases bh:j<l.length
   .have hd:(j:Int)<(l.length:Int):=ae;have hjv:j<(oM l).length:=by simpa[oM]using bh
    obtain⟨gv,cpv,mv,hv,hgv,iP,_⟩:=iB O1 ae;injection hv with NG UL hv3;subst NG;have cg:=mC O1 j hjv;rw[show(oM l)[j]=qz .i64 (l[j]:Int) by simp[oM]]at cg;obtain⟨sa,sc,rfl⟩:=dM O2 (n:=j) (by simp[GQ];omega);generalize hx:l[j]=x at*;have CO:=ai F1;have O1':=ai O1;have O2':=ai O2;have UP:=ai T1;have ahu:∀u∈[qy 85<|.int .i64 (x:Int)],u.oneCell'=true:=qAn;have hlen:(GQ<|l.take j).length+[qy 85<|.int .i64 (x:Int)].length<=1000000000000:=by simp[GQ];omega
    have HA:Hid (gM (wr.alloc<|.cells #[.iface 85<|.int .i64 (x:Int)] 56) 56 (w1.heap.size+1) (.slice sa j sc)<|GQ<|l.take j):=ai<|lL O2 λk hk=>(xd _ _).2 k (iU O2 k hk).2;obtain⟨tc,tf,tz⟩:=T1;clear F1 O1 O2 UL hv3;go_wp2_with(at_builtin;go_loud(refine afT eh VJ rfl aw rfl (.tmp 19) (.tmp 22) rfl rfl HA rfl (gM.new wr 56 [.iface 85<|.int .i64 (x:Int)] 0 (j8 _) ag 1 rfl) ahu hlen (j7 zz ag) ?_);intro v2 w3 o2 g2 k2;obtain⟨g3,cp3,m3,rfl,_,_,M3⟩:=iB o2 ag;obtain⟨c2,f2,z2⟩:=KS (Bx.below UP<|bw<|.cells #[.iface 85<|.int .i64 (x:Int)] 56) g2 (λe=>by have:=(iU O2' _ e).1;omega);have OV:=ai o2;have GV:=ai g2;have KV:=ai k2;clear o2 g2 k2);go_roundg(l.length-(j+1))
    case measure=>rw[uh cV];omega
    case rel=>
     have g:=uh GV;have o:=uh OV;have f1:=uh CO;have o1:=uh O1';have ho2:=iU o;have bl:Below wr.heap.size wr (wr.alloc<|.cells #[.iface 85<|.int .i64 (x:Int)] 56):=bw _;have l8:=bl.size;have hzz:=g.size;have hss:(w3.setCell ⟨w1.heap.size,1,none⟩<|.slice (some ⟨g3,0,none⟩) m3 cp3).heap.size=w3.heap.size:=zJ;have iT:∀k,(q9 sa j sc).ownBlock=some k->w1.heap.size+1<=k:=λk hk=>(iU (uh O2') k hk).1;have hold:∀k,k<wr.heap.size->k≠w1.heap.size->(q9 sa j sc).ownBlock≠some k->(w3.setCell ⟨w1.heap.size,1,none⟩<|.slice (some ⟨g3,0,none⟩) m3 cp3).heap[k]? =wr.heap[k]? :=λk h1 h3 h4=>by
      rw[qr _ _ _ _ (by show k≠w1.heap.size;exact h3),g.block k ae<|λe=>h4 e.symm,bl.block k ae]
     refine⟨j+1,.slice (some ⟨g3,0,none⟩) m3 cp3,ai rfl,ae,i_,⟨?_,?_,?_,?_,λk hk=>?_⟩,ae,?_,?_,?_,ai<|λk hk Na=>?_⟩
     .exact g.os.trans f1.os
     .exact g.tape.trans f1.tape
     .exact g.output.trans f1.output
     .have:=f1.size;omega
     .have:=f1.size;exact(hold k ae ae (λe=>by have:=iT k e;omega)).trans (f1.block k hk)
     .exact Bx.aT (C:=#[.string ⟨#[116,111,111,32,108,97,114,103,101]⟩,.slice sa j sc]) ⟨c2,f2,z2⟩ 1 _ _ rfl ag
     .exact lL o1 λk hk=>hold k (iU o1 k hk).2 (λe=>by have:=(iU o1 k hk).1;omega)<|λe=>uh hdj k e hk
     .rw[aaM l j bh,hx];exact lL o λk hk=>qr _ _ _ _ (by show k≠w1.heap.size;intro e;have:=(ho2 k hk).1;omega)
     .obtain r|r:=uh KV k hk
      .exact uh hdj k r Na
      .have:=(iU o1 k Na).2;omega
   .have hd:decide ((j:Int)<(l.length:Int))=false:=bD;have ej:j=l.length:=ae;subst ej;obtain⟨tc,tf,tz⟩:=T1;have O2':=ai O2;have CO:=ai F1;clear O1 O2 F1
    go_wp2
    go_ret;have f1:=uh CO;have o2:=uh O2';rw[jf]at o2;refine⟨_,rfl,?_,HB.trans<|f1.mono z1⟩;have hc:bK t=.aJ sK (l.map Ty.var):=by unfold bK;rw[if_neg hs,Dr]
    rw[hc];by_cases hl:l=[]
    .subst hl;obtain⟨q1,q2⟩:=o2;obtain⟨sa,sc,rfl⟩:=dM (uh O2') (n:=0) (by simp[GQ]);have:=cX.aJ (w:=wr) (P:=λb=>Q b\/w.heap.size<=b) sK [] sa sc (λ_=>.nilIface) (j5 rfl) (j6 rfl) (λi hi=>by simp at hi);rw[aaG]at this;exact this
    .obtain⟨_,_,_,h⟩:=ahw o2 hl (P:=λb=>Q b\/w.heap.size<=b)<|λk hk=>j5 ae;exact h
end
end
section
open Go.MapKept
section
variable {enc:κ->Value}
def MG(enc:κ->Value)(w:World)(b:Nat)(L:List (κ×Value)):=∃es clock,w.heap[b]? =some (.map es clock)/\es.toList.map (λe=>(e.key,e.val))=L.map (λp=>(enc p.1,p.2))/\(es.toList.map (·.born)).Nodup/\(∀e∈es.toList,e.born<clock)/\(L.map (·.1)).Nodup
variable {w:World} {b:Nat} {L:List (κ×Value)} {P:Program} {k t:TypeId}
def MG.ms(h:MG enc w b L):MS enc w b L:=by grind[MG,MS]
def MG.same(h:MG enc w b L)(hb:w'.heap[b]? =w.heap[b]?):MG enc w' b L:=by grind[MG]
def MG.new(enc:κ->Value)(w:World):MG enc (w.alloc<|.map #[] 0) w.heap.size []:=⟨#[],0,(xd w _).1,rfl,ag,ag,ag⟩
def MG.nodup(h:MG enc w b L):(L.map (·.1)).Nodup:=by grind[MG]
def aj5{es:List MapEntry}(h:es.map (λe=>(e.key,e.val))=L.map (λp=>(enc p.1,p.2))):es.map (·.key)=(L.map (·.1)).map enc:=by
 have:=congrArg (List.map Prod.fst) h;simpa[List.map_map,Function.comp_def]using this
def IG(enc:κ->Value)(w:World)(r gb:Nat)(L:List (κ×Value))(done:List κ)cnt:=∃(es:Array MapEntry)(clock since:Nat)(seen:Array Nat)(c0:Nat),w.heap[gb]? =some (.map es clock)/\es.toList.map (λe=>(e.key,e.val))=L.map (λp=>(enc p.1,p.2))/\(es.toList.map (·.born)).Nodup/\(∀e∈es.toList,e.born<since)/\since<=c0/\since<=clock/\w.heap[r]? =some (.mapIter (some gb) since seen c0)/\(L.map (·.1)).Nodup/\(leftOf es seen).size=cnt/\∀e∈es.toList,∀x,e.key=enc x->(seen.contains e.born=true↔x∈done)
def IG.same{cnt}{done}(h:IG enc w r gb L done cnt)(h1:w'.heap[gb]? =w.heap[gb]?)(h2:w'.heap[r]? =w.heap[r]?):IG enc w' r gb L done cnt:=by
 obtain⟨es,clock,since,seen,c0,a1,a2,a3,a4,a5,a6,a7,a8⟩:=h;exact⟨es,clock,since,seen,c0,h1.trans a1,a2,a3,a4,a5,a6,h2.trans a7,a8⟩
def IG.lt{r gb cnt:Nat}{done}(h:IG enc w r gb L done cnt):gb<w.heap.size/\r<w.heap.size/\gb≠r:=by grind[cnt,IG]
def MG.range(h:MG enc w b L)(ht:P.underlying t=some (.map k e)):∃o cnt,(Instr.range t<|Mv b).run P w=.ok (Pv w.heap.size) (w.alloc o)/\IG enc (w.alloc o) w.heap.size b L [] cnt:=by
 obtain⟨es,clock,a1,a2,a3,a4,a5⟩:=h;have bA:=(Array.getElem?_eq_some_iff.1 a1).1;refine⟨_,_,run_range_map w t _ _ b es clock ht a1,es,clock,clock,#[],clock,((xd w _).2 _ bA).trans a1,a2,a3,a4,br _,br _,heap_alloc_new w _,a5,rfl,λe he x hx=>ag⟩
def MG.one{c}(h:MG enc w b L)(o:One c w w')(hn:b≠c):MG enc w' b L:=h.same<|o.block b hn
end
section
variable [DecidableEq κ] {enc:κ->Value}
variable {w:World} {b:Nat} {L:List (κ×Value)} {P:Program} {k t:TypeId}
def MG.lt(h:MG enc w b L):b<w.heap.size:=h.ms.lt
def MG.af(h:MG enc w b L)(hb:Bq w w'):MG enc w' b L:=h.same<|hb.block b h.lt
def MG.fr(h:MG enc w b L)(hf:Fr S w w')(hn:¬S b):MG enc w' b L:=h.same<|hf.block b h.lt hn
def uE(l:List MapEntry)j f(hf:∀e,(f e).born=e.born):(l.modify j f).map (·.born)=l.map (·.born):=by
 induction l generalizing j with
 |nil=>cases j<;>simp|cons e r ih=>grind
def KU{x y:κ}{v:Value}:∀{L:List (κ×Value)},y∈(bG x v L).map (·.1)->y=x\/y∈L.map (·.1)
 |[],h=>by simpa[bG]using h|p::l,h=>by
  rw[bG]at h;split at h
  .rename_i e;simp only[jh,jm]at h⊢;obtain h|h:=h
   .exact j6 h
   .exact j5 (j5 h)
  .simp only[jh,jm]at h⊢;obtain h|h:=h
   .exact j5 (j6 h)
   .obtain q|q:=KU h
    .exact j6 q
    .exact j5 (j5 q)
def su{x:κ}{v:Value}:∀{L:List (κ×Value)},(L.map (·.1)).Nodup->((bG x v L).map (·.1)).Nodup
 |[],_=>by simp[bG]|p::l,h=>by
  simp only[jh,jo]at h;rw[bG];split
  .rename_i e;simp only[jh,jo];rw[<-e];exact h
  .rename_i e;simp only[jh,jo];refine⟨λq=>?_,su h.2⟩;obtain r|r:=KU q
   .exact e r
   .exact h.1 r
def MG.put(K:KL P k enc (λ_ _=>True))(h:MG enc w b L)(ht:P.underlying t=some (.map k e))x v:∃o,(qv t (Mv b) (enc x) v).run P w=.ok () (setBlock w b o)/\MG enc (setBlock w b o) b (bG x v L):=by
 obtain⟨es,clock,hb,m7,hn,hk,hd⟩:=h;have hf:=K.fin x L es.toList w trivial (λ_ _=>trivial) m7;rw[qv];simp only[Sem.run_bind,run_underlying ht,xh,MapKept.run_getObj_map hb,K.chk,hf]
 cases yA:yB x L 0 with
 |none=>
  refine⟨.map (es.push {key:=enc x,val:=v,born:=clock})<|clock+1,by rw[yA]at hf;simp[hf,xh];exact xf _ hb,_,_,(heap_setBlock_same hb _),?_,?_,?_,su hd⟩
  .rw[mx x v L<|oG x L 0 yA];simp[m7]
  .simp only[Array.toList_push,jx,jh,j3];rw[jv];refine⟨hn,ag,?_⟩;intro a ha c hc;obtain⟨e,he,rfl⟩:=List.mem_map.1 ha;simp only[List.mem_singleton]at hc;have:=hk e he;omega
  .grind
 |some p=>
  obtain⟨j,u⟩:=p;have⟨_,e0,h2,h3,h4⟩:=E9 (enc:=enc) x v L es.toList 0 j u m7 yA;have UC:es[j]? =some e0:=by simpa using h2
  refine⟨.map (es.modify j λe=>{e with key:=enc x,val:=v}) clock,?_,_,_,(heap_setBlock_same hb _),by simpa using h4,?_,?_,su hd⟩
  .rw[yA]at hf;simp[hf,xh,UC,h3,Instr.keyThatStays,K.bit];exact xf _ hb
  .rw[ql,uE es.toList j (λe=>{e with key:=enc x,val:=v}) (λ_=>rfl)];exact hn
  .intro e he;have:e.born∈(es.modify j λe=>{e with key:=enc x,val:=v}).toList.map (·.born):=jp he;rw[ql,uE es.toList j (λe=>{e with key:=enc x,val:=v}) (λ_=>rfl)]at this;have⟨e',h1,h2⟩:=List.mem_map.1 this;rw[<-h2];exact hk e' h1
def cr(K:KL P k enc (λ_ _=>True))(ht:P.underlying t=some (.map k e)){a}{Q}(hg:o.guard=none)m x v(sG:o.op=Op.insert t m x v\/o.op=Op.mapUpdate t m x v)(hm:a.eval m=Mv b)(hM:MG enc w b L)key val(hx:a.eval x=enc key)(hv:a.eval v=val)(hK:∀w',MG enc w' b (bG key val L)->One b w w'->wpList P ops Q rest (a.put o.dst undef) w'):
 wpList P ops Q (o::rest) a w:=by
 refine wpList_plain hg λK' hK'=>?_;have⟨ob,lQ,r1⟩:=hM.put K ht key val;rw[Oper.wp];obtain sG|sG:=sG<;>
 .simp[execOp,sG,hm,hx,hv,lQ,xh];exact hK' _ _<|hK _ r1<|One.set w b ob
def uF{x:κ}:∀{L:List (κ×Value)},(a_ x L).isSome=true↔x∈L.map (·.1)
 |[]=>by simp[a_]|p::l=>by
  rw[a_];split
  .rename_i e;simp[e]
  .rename_i e;rw[uF (L:=l)];simp only[jh,jm];exact⟨j5,λq=>q.elim (λq=>absurd q.symm e) id⟩
def R_{x:κ}{v:Value}:∀{L:List (κ×Value)},(L.map (·.1)).Nodup->(x,v)∈L->a_ x L=some v
 |[],_,h=>yl|p::l,hn,h=>by
  simp only[jh,jo]at hn;rw[a_];obtain rfl|h:=List.mem_cons.1 h
  .simp
  .have:p.1≠x:=λe=>hn.1 (by rw[e];exact jp (f:=(·.1)) h);rw[if_neg this];exact R_ hn.2 h
def qM{x:κ}{v:Value}:∀{L:List (κ×Value)},a_ x L=some v->(x,v)∈L
 |[],h=>qBg|p::l,h=>by
  rw[a_]at h;split at h
  .rename_i e;simp only[Option.some.injEq]at h;subst e h;simp
  .exact jj _ (qM h)
def aj6 enc P w r gb L(done:List κ)(cnt:Nat):=((∀x v,a_ x L=some v->x∈done)/\(qw (Pv r) false 0).run P w=.ok (.tuple #[.bool false]) w)\/
    ∃x v w1 aE,x∉done/\a_ x L=some v/\(qw (Pv r) false 0).run P w=.ok (.tuple #[.bool true,enc x,v]) w1/\IG enc w1 r gb L (x::done) aE/\aE<cnt/\Fr (λb=>b=r) w w1/\w1.heap.size=w.heap.size/\(Instr.entry<|Pv r).run P w1=.ok (.tuple #[enc x,v]) w1
def IG.next(al5:∀x y,enc x=enc y->x=y){cnt}{done}(h:IG enc w r gb L done cnt):aj6 enc P w r gb L done cnt:=by
 have⟨hg1,hr1,cR⟩:=h.lt;obtain⟨es,clock,since,seen,c0,a1,a2,a3,a4,a5,a6,a7,a8,a10,a11⟩:=h;have XH:=aj5 a2;rcases run_next_at (P:=P) w 0 r gb since c0 seen es clock a7 a1 a4 a5 with⟨h0,lQ⟩|⟨e,he,w1,yC,lQ⟩
 .left;refine⟨λx v hx=>?_,lQ⟩;have E_:=uF.1 (by rw[hx];rfl);have:enc x∈es.toList.map (·.key):=Cc;have⟨e,he,hk⟩:=List.mem_map.1 this;exact(a11 e he x hk).1 (all_seen es seen h0 e he)
 .right;have⟨WZ,he2⟩:=mem_left he;obtain⟨x,hx,hxL⟩:∃x,e.key=enc x/\(x,e.val)∈L:=by
   have:(e.key,e.val)∈es.toList.map (λe=>(e.key,e.val)):=jp (f:=λe:MapEntry=>(e.key,e.val)) WZ;rw[a2]at this;have⟨p,hp,q⟩:=List.mem_map.1 this;obtain⟨px,pv⟩:=p;simp only[Prod.mk.injEq]at q;exact⟨px,q.1.symm,by rw[<-q.2];exact hp⟩
  have pW:x∉done:=λq=>by
   have:=(a11 e WZ x hx).2 q;rw[he2]at this;cases this
  have Ny:w1.heap=w.heap:=by obtain rfl|rfl:=yC<;>rfl
  have b1:∀k,k≠r->(setBlock w1 r<|.mapIter (some gb) since (seen.push e.born) clock).heap[k]? =w.heap[k]? :=λk hk=>by
   have:(setBlock w1 r<|.mapIter (some gb) since (seen.push e.born) clock).heap[k]? =w1.heap[k]? :=by simp[setBlock,qk,Ne.symm hk]
   rw[this,Ny]
  have b2:(setBlock w1 r<|.mapIter (some gb) since (seen.push e.born) clock).heap[r]? =some (.mapIter (some gb) since (seen.push e.born) clock):=by
   have rh:r<w1.heap.size:=by rw[Ny];exact hr1
   simp[setBlock,qk,rh]
  have fK:(setBlock w1 r<|.mapIter (some gb) since (seen.push e.born) clock).heap.size=w.heap.size:=by simp[setBlock,Ny]
  have hnk:(es.toList.map (·.key)).Nodup:=Cc;refine⟨x,e.val,_,_,pW,R_ a8 hxL,by rw[lQ,hx],⟨es,clock,since,seen.push e.born,clock,(b1 gb cR).trans a1,a2,a3,a4,a6,a6,b2,a8,rfl,λe' he' y hy=>?_⟩,by rw[<-a10];exact left_shrinks es seen e he,⟨by obtain rfl|rfl:=yC<;>rfl,by obtain rfl|rfl:=yC<;>rfl,by obtain rfl|rfl:=yC<;>rfl,by rw[fK];exact br _,λk _ hk=>b1 k hk⟩,fK,?_⟩
  .rw[contains_push];simp only[Bool.or_eq_true,beq_iff_eq,jm];constructor
   .rintro(q|q)
    .grind
    .have:e'=e:=born_inj a3 he' WZ q;rw[this,hx]at hy;exact j6 (al5 _ _ hy).symm
   .rintro(q|q)
    .right;have:e'=e:=by
      have hk:e'.key=e.key:=by rw[hy,hx,q]
      exact entry_eq_of_key (by rw[List.Nodup,List.pairwise_map]at hnk;exact hnk) he' WZ hk
     rw[this]
    .grind
  .have:=run_entry_at (P:=P) (setBlock w1 r<|.mapIter (some gb) since (seen.push e.born) clock) r gb since seen es clock e b2 ((b1 gb cR).trans a1) WZ a3;rw[hx]at this;exact this
end
end
section
open Go.MapKept Un
abbrev qO:Int->Value:=λn=>Iv n
def IJ:∀x y,qO x=qO y->x=y:=λx y h=>by injection h
abbrev KLV:KL qp 85 qO (λ_ _=>True):=KL.num Tryz.underlying85
def fC w P b(D:Nat->Option Ty):=
 ∃L,MG qO w b L/\(∀n:Nat,a_ (n:Int) L=none->D n=none)/\(∀(n:Nat)u,a_ (n:Int) L=some u->∃t,D n=some t/\cX w P t u)/\∀x u,a_ x L=some u->∃n:Nat,x=(n:Int)
def EV(D:Nat->Option Ty)n:=(D n).getD<|.var n
section
variable {w:World} {b:Nat}
theorem fC.move(h:fC w P b D)(hs:w.heap.size<=w'.heap.size)(hb:w'.heap[b]? =w.heap[b]?)(hp:∀x,P x->x<w.heap.size->w'.heap[x]? =w.heap[x]?)(hq:∀x,P x->x<w.heap.size->Q x):fC w' Q b D:=by
 obtain⟨L,h1,h2,h3,h4⟩:=h;exact⟨L,h1.same hb,h2,λn u hu=>by have⟨t,e,ht⟩:=h3 n u hu;exact⟨t,e,ht.move hs hp hq⟩,h4⟩
def fC.lt(h:fC w P b D):b<w.heap.size:=qAr
def fC.af(h:fC w P b D)(hb:Bq w w'):fC w' P b D:=h.move hb.size (hb.block b h.lt) (λx _ hx=>hb.block x hx)<|λ_ p _=>p
def fC.fr(h:fC w P b D)(hf:Fr S w w')(hb:¬S b)(hS:∀x,P x->x<w.heap.size->¬S x):fC w' P b D:=h.move hf.size (hf.block b h.lt hb) (λx p z=>hf.block x z<|hS x p z)<|λ_ p _=>p
def fC.wide(h:fC w P b D)(hq:∀x,P x->Q x):fC w Q b D:=h.move (br _) rfl (λ_ _ _=>rfl) (λx p _=>hq x p)
def fC.low(h:fC w P b D):fC w (λx=>P x/\x<w.heap.size) b D:=h.move (br _) rfl (λ_ _ _=>rfl) (λx p z=>⟨p,z⟩)
def fC.new(w:World)P:fC (w.alloc<|.map #[] 0) P w.heap.size (λ_=>none):=⟨[],MG.new qO w,λ_ _=>rfl,λn u h=>qBg,λx u h=>qBg⟩
def adY w:(zeroValue 56).run qp w=.ok .nilIface w:=qkr
def fC.look(h:fC w P b D){tm}(ht:Tryz.prog.underlying tm=some (.map 85 56))n:(∃t u,D n=some t/\cX w P t u/\(qu tm (Mv b) (Nv n) true).run qp w=.ok (.tuple #[u,.bool true]) w)\/
 (D n=none/\(qu tm (Mv b) (Nv n) true).run qp w=.ok (.tuple #[.nilIface,.bool false]) w):=by
 obtain⟨L,h1,h2,h3,h4⟩:=h;have hl:=h1.ms.look KLV ht (adY w) (n:Int) trivial (λ_ _=>trivial) true
 cases hg:a_ (n:Int) L with
 |none=>grind|some u=>grind
def iD:Tryz.prog.underlying 383=some (.map 85 56):=qkr
def oE:Tryz.prog.underlying 424=some (.map 85 56):=qkr
def dZ:Tryz.prog.underlying 190=some (.map 9 393):=qkr
def adZ(h:fC w P b D)n:Cq 255 #[Mv b,Nv n] w λe w'=>∃u,e=.returned u/\cX w P (EV D n) u/\w'=w:=by
 obtain⟨t,u,e1,H1,hl⟩|⟨e1,hl⟩:=h.look iD n
 .obtain⟨ta,xa,rfl⟩:=H1.iface;have E1:=ai e1;go_enter func255,ntmps255
  go_wp2
  go_ret;exact⟨_,rfl,by rw[EV];rw[uh E1];exact H1,rfl⟩
 .have E1:=ai e1;go_enter func255,ntmps255
  go_wp2
  go_ret;exact⟨_,rfl,by rw[EV];rw[uh E1];exact .var n,rfl⟩
def ImI(P:Nat->Prop)n0 b D(_:List Nat)(B M:Nat->Prop)w:=(B=λx=>P x/\x<n0)/\(M=λ_=>False)/\fC w (λx=>P x/\x<n0) b D/\n0<=w.heap.size
def VK(hb:P b){n0:Nat}(hn:b<n0):Img 255 #[Mv b] #[] (EV D) (λ_ _=>True) (ImI P n0 b D) where
 eg:=enters_of Tryz.func255 qkr rfl
 lU acc B M w w' h hz hk:=by
  obtain⟨rfl,rfl,h1,h2⟩:=h;exact⟨rfl,rfl,h1.move hz (hk b<|j6 ⟨hb,hn⟩) (λx p _=>hk x<|j6 p)<|λ_ p _=>p,j7 h2 hz⟩
 lt acc B M w h:=by
  obtain⟨rfl,rfl,h1,h2⟩:=h;rintro x(p|p)
  .omega
  .exact p.elim
 call acc B M w n h _:=by
  obtain⟨rfl,rfl,h1,h2⟩:=h;refine(adZ h1 n).mono ?_;rintro e w'⟨u,rfl,hu,rfl⟩;exact⟨u,_,_,rfl,hu.wide λx p=>⟨λq=>q,j6 p⟩,⟨rfl,rfl,h1,h2⟩,λx p=>j6 p,λx p=>j6 p,Fr.refl _ _⟩
def Qh t(P:Nat->Prop)w(e:Ending)w':=∃u,e=.returned u/\cX w' (λx=>P x\/w.heap.size<=x) t u/\Bq w w'
def Fr.none(h:Fr S w w')(hS:∀b,¬S b):Bq w w':=⟨h.os,h.tape,h.output,h.size,λk hk=>h.block k hk<|hS k⟩
def IP(h:fC w P b D)(hb:P b){v}(ht:cX w Q t v)(hz:size t<=1000000000000)(gR:size (sub (EV D) t)<=1000000000000):Cq 242 #[Mv b,v] w (Qh (bK<|sub (EV D) t) P w):=by
 have HC:=AR (VK (D:=D) hb h.lt) t [] _ _ w v Q ⟨rfl,rfl,h.low,br _⟩ (λi hi=>trivial) hz ht<|λx _ _=>id;obtain⟨ta,xa,rfl⟩:=ht.iface;go_enter func242,ntmps242;go_wp2_with fail;refine HC.mono ?_;rintro e w1⟨u,B',M',rfl,hU,_,_,_,F⟩;obtain⟨tu,xu,rfl⟩:=hU.iface;have b1:=F.none<|λ_ q=>q;have HB:=ai b1;have HK:=aaN hU gR;go_wp2_with fail;refine HK.mono ?_;rintro e w2⟨u2,rfl,HU,du⟩;obtain⟨tu2,xu2,rfl⟩:=HU.iface
 go_wp2
 go_ret;have b1:=uh HB;refine⟨_,rfl,HU.wide λx p=>?_,b1.trans<|du.mono b1.size⟩;obtain p|p:=p
 .obtain q|q:=p.2
  .exact j6 q.1
  .exact j5 q
 .exact j5 (j7 b1.size p)
end
section
variable {w:World} {b:Nat}
def GU{κ:Type}enc(L:List (κ×Value))(w:World)(e:Ending)(w':World):=e=.returned (Mv w.heap.size)/\MG enc w' w.heap.size L/\Bq w w'/\w'.heap.size=w.heap.size+1
def VL{enc}{L:List (κ×Value)}{es:Array MapEntry}{clock:Nat}(h:es.toList.map (λe=>(e.key,e.val))=L.map (λp=>(enc p.1,p.2))/\(es.toList.map (·.born)).Nodup/\(∀e∈es.toList,e.born<clock)/\(L.map (·.1)).Nodup):GU enc L w (.returned<|Mv w.heap.size) (w.alloc<|.map es clock):=
 ⟨rfl,⟨es,clock,(xd w _).1,h⟩,bw _,ag⟩
def cL:Tryz.prog.underlying 194=some (.map 9 103):=qkr
def GW{p:Prop}(h:p:=by
 simp only[xh];rw[Oper.upon_value]
 go_wp2
 go_ret
 exact VL HR):p:=h
def aaO(h:MG qO w b L):Cq 284 #[Mv b] w (GU qO L w):=by
 obtain⟨es,clock,hb,HR⟩:=h;have hq:=λw=>run_eql_map_nil_sl (P:=Tryz.prog) w 383 _ _ (some b) iD;go_enter func284,ntmps284;go_wp2_with fail;rw[run_callFunc_extern Tryz.func285 qkr qkr qkr (e:=Extern.MapsClone.clone) qkr,run_maps_clone_sl w 383 hb];simp only[Result.andThen];rw[Oper.upon_value];go_wp2_with fail;rw[run_typeAssert_map_sl _ 383 _ _ _ _ iD];exact GW
def XW{L}(h:MG qx w b L):Cq 275 #[Mv b] w (GU qx L w):=by
 obtain⟨es,clock,hb,HR⟩:=h;have hq:=λw=>run_eql_map_nil_sl (P:=Tryz.prog) w 190 _ _ (some b) dZ;go_enter func275,ntmps275;go_wp2_with fail;rw[run_callFunc_extern Tryz.func285 qkr qkr qkr (e:=Extern.MapsClone.clone) qkr,run_maps_clone_sl w 190 hb];simp only[Result.andThen];rw[Oper.upon_value];go_wp2_with fail;rw[run_typeAssert_map_sl _ 190 _ _ _ _ dZ];exact GW
def YO{L}(h:MG qx w b L):Cq 322 #[Mv b] w (GU qx L w):=by
 obtain⟨es,clock,hb,HR⟩:=h;have hq:=λw=>run_eql_map_nil_sl (P:=Tryz.prog) w 194 _ _ (some b) cL;go_enter func322,ntmps322;go_wp2_with fail;rw[run_callFunc_extern Tryz.func285 qkr qkr qkr (e:=Extern.MapsClone.clone) qkr,run_maps_clone_sl w 194 hb];simp only[Result.andThen];rw[Oper.upon_value];go_wp2_with fail;rw[run_typeAssert_map_sl _ 194 _ _ _ _ cL];exact GW
theorem fC.bG(h2:∀m:Nat,a_ (m:Int) L=none->D m=none)(h3:∀(m:Nat)v,a_ (m:Int) L=some v->∃t,D m=some t/\cX w P t v)(h4:∀x v,a_ x L=some v->∃m:Nat,x=(m:Int))(ht:cX w P t u)(hP:¬P b)(o:One b w w')(hM:MG qO w' b (Go.Proofs.YtlnlhlefeokfjaaGreatDoor.bG (n:Int) u L)):fC w' P b (d_ D n<|some t):=by
 have mv:∀{t v},cX w P t v->cX w' P t v:=λh=>h.move UE (λx p _=>o.block x<|λe=>hP<|e▸p)<|λ_ p _=>p;refine⟨_,hM,λm hm=>?_,λm v hm=>?_,λx v hx=>?_⟩
 .rw[aO]at hm;by_cases e:(n:Int)=(m:Int)
  .grind
  .rw[if_neg e]at hm;have e':¬m=n:=λq=>e (by rw[q]);simp only[d_,e',if_false];exact h2 m hm
 .rw[aO]at hm;by_cases e:(n:Int)=(m:Int)
  .rw[if_pos e]at hm;injection hm with hm;have e':m=n:=ae;subst hm;simp only[d_,e',if_true];exact⟨t,rfl,mv ht⟩
  .rw[if_neg e]at hm;have e':¬m=n:=λq=>e (by rw[q]);simp only[d_,e',if_false];have⟨t',q1,q2⟩:=h3 m v hm;exact⟨t',q1,mv q2⟩
 .rw[aO]at hx;by_cases e:(n:Int)=x
  .exact⟨n,e.symm⟩
  .grind
def lC{tm}(htm:Tryz.prog.underlying tm=some (.map 85 56)){a}{Q}(hg:o.guard=none)m x v(sG:o.op=Op.insert tm m x v\/o.op=Op.mapUpdate tm m x v)(hm:a.eval m=Mv b)(h:fC w P b D)(hP:¬P b)(ht:cX w P t u)n(hx:a.eval x=Nv n)(hv:a.eval v=u)(hK:∀w',fC w' P b (d_ D n<|some t)->One b w w'->wpList qp ops Q rest (a.put o.dst undef) w'):
 wpList qp ops Q (o::rest) a w:=by
 obtain⟨L,h1,h2,h3,h4⟩:=h;exact cr KLV htm hg m x v sG hm h1 (n:Int) u hx hv λw' hM o=>hK w' (fC.bG h2 h3 h4 ht hP o hM) o
def thD(D1 D2:Nat->Option Ty)(done:List Int)(n:Nat):Option Ty:=if(n:Int)∈done then(match D1 n with|some t=>some (bK<|sub (EV D2) t)|none=>D2 n)else D2 n
def zx(D1 D2:Nat->Option Ty)n:=match D1 n with|some t=>some (bK<|sub (EV D2) t)|none=>D2 n
def ThR(P:Nat->Prop)b1 D1 D2 L w gk wr:=
 ∃done,IG qO wr (w.heap.size+1) b1 L done gk/\fC wr (λx=>(P x/\x<w.heap.size)\/w.heap.size+2<=x) w.heap.size (thD D1 D2 done)/\Bq w wr
def aaP(P:Nat->Prop)D1 D2 w(e:Ending)w':=
 ∃b3,e=.returned (Mv b3)/\w.heap.size<=b3/\fC w' (λx=>P x\/w.heap.size<=x) b3 (zx D1 D2)/\Bq w w'
def acJ{b1 b2}{D2}(h1:fC w P b1 D1)(h2:fC w P b2 D2)(hp2:P b2)(hz:∀n t,D1 n=some t->size t<=1000000000000/\size (sub (EV D2) t)<=1000000000000):
 Cq 274 #[Mv b1,Mv b2] w (aaP P D1 D2 w):=by
 have H2:=ai h2;have l1:=h1.lt;have l2:=h2.lt;obtain⟨L1,M1,q12,q13,q14⟩:=h1;obtain⟨L2,m2,q22,q23,q24⟩:=h2;have HC:=aaO m2;have Q1:=And.intro q12<|And.intro q13 q14;have Q2:=And.intro q22<|And.intro q23 q24;go_enter func274,ntmps274;go_wp2_with fail;refine HC.mono ?_;rintro e w1⟨rfl,m3,k1,zz⟩;have⟨o,cnt,hrg,mw⟩:=(M1.af k1).range iD;rw[zz]at hrg mw;have k2:Bq w (w1.alloc o):=k1.alloc (by rw[zz];omega) _;have HI:=ai mw;have HK:=ai k2;have S0:Hid (fC (w1.alloc o) (λx=>(P x/\x<w.heap.size)\/w.heap.size+2<=x) w.heap.size D2):=by
  obtain⟨r1,r2,r3⟩:=Q2;refine ai ⟨L2,m3.af<|bw _,r1,λn u hu=>?_,r3⟩;have⟨t,e,ht⟩:=r2 n u hu;exact⟨t,e,ht.move k2.size (λx _ hx=>k2.block x hx)<|λx p z=>j6 ⟨p,z⟩⟩
 go_wp2
 go_loopg[] cnt (λgk wr=>ThR P b1 D1 D2 L1 w gk wr)
 case atStart=>
  refine⟨[],HI,?_,HK⟩;have e:thD D1 D2 []=D2:=by funext n;simp[thD]
  rw[e];exact S0
 case round=>
  obtain⟨done,HI,HS,HB⟩:=hrel;have Xv:=HI.lt;have zr:=HB.size;rcases HI.next (P:=qp) IJ with⟨ha,ET⟩|⟨x,u,w2,aE,hxd,Qf,ET,HI1,bA,yv,fK,hen⟩
  .go_wp2
   go_ret;refine⟨w.heap.size,rfl,br _,?_,HB⟩;have e:thD D1 D2 done=zx D1 D2:=by
    funext n;unfold thD zx;by_cases q:(n:Int)∈done
    .rw[if_pos q]
    .rw[if_neg q];have:D1 n=none:=by
      cases hg:a_ (n:Int) L1 with
      |none=>exact Q1.1 n hg|some v=>exact absurd (ha _ v hg) q
     rw[this]
   rw[<-e];exact HS.wide λx p=>by obtain p|p:=p;exact j6 p.1;exact j5 ae
  .obtain⟨r1,r2,r3⟩:=Q1;obtain⟨n,rfl⟩:=r3 x u Qf;have⟨t,E1,ht⟩:=r2 n u Qf;have⟨l8,gR⟩:=hz n t E1;obtain⟨ta,xa,rfl⟩:=ht.iface;have F1:=yv;have kb:∀i,i<w.heap.size->w2.heap[i]? =w.heap[i]? :=λi hi=>(F1.block i ae ae).trans<|HB.block i hi;have du:Bq w w2:=⟨F1.os.trans HB.os,F1.tape.trans HB.tape,F1.output.trans HB.output,ae,kb⟩;have HC:=IP (H2.low.move du.size (kb b2 l2) (λx p _=>kb x p.2)<|λx p _=>p) (⟨hp2,l2⟩:P b2/\b2<w.heap.size) (ht.af du) l8 gR;have S2:=HS.fr F1 ae (λx p _=>by obtain p|p:=p<;>omega);go_wp2_with fail;refine HC.mono ?_;rintro e w3⟨u3,rfl,hU,k3⟩;obtain⟨tu,xu,rfl⟩:=hU.iface;have z3:=k3.size;have S3:=S2.af k3;have U3:=hU.wide (Q:=λx=>(P x/\x<w.heap.size)\/w.heap.size+2<=x) λx p=>by obtain p|p:=p;exact j6 p;exact j5 ae
   have I3:=HI1.same (k3.block b1 ae)<|k3.block _ ae;have K3:=du.trans<|k3.mono ae;go_wp2_with(refine lC iD rfl _ _ _ (j5 rfl) rfl S3 ae U3 n rfl rfl ?_;intro w4 H' O';have S4:=ai H';have O4:=ai O';clear H' O');go_roundg aE
   case measure=>exact bA
   case rel=>
    have o:=uh O4;refine⟨(n:Int)::done,I3.same (o.block b1 ae)<|o.block _ ae,?_,?_⟩
    .have e:thD D1 D2 ((n:Int)::done)=d_ (thD D1 D2 done) n (some<|bK<|sub (EV D2) t):=by
      funext m;unfold d_;by_cases q:m=n
      .subst q;unfold thD;rw[if_pos ag,if_pos rfl,E1]
      .have:¬(m:Int)=(n:Int):=ae;unfold thD;simp[q,this]
     rw[e];exact S4
    .have k:=K3;exact⟨o.os.trans k.os,o.tape.trans k.tape,o.output.trans k.output,by rw[o.size];exact k.size,λi hi=>(o.block i ae).trans<|k.block i hi⟩
end
def yq(rk:Nat->Nat):Ty->Nat
 |.var n=>rk n+1|.aJ _ _=>0
structure aj7(K:Nat->Option Ty)R t t1:Prop where
 eq:sub R t1=sub R t
 op:∀n,t1=.var n->K n=none
def aj8(J:Ty->Prop)(K:Nat->Option Ty)R rk P t w gk v wr:=
 ∃t1,Hid (gk=yq rk t1)/\wr=w/\cX w P t1 v/\Hid (J t1)/\Hid (sub R t1=sub R t)
section
variable {w:World} {b:Nat} {rk:Nat->Nat}
def aaQ(J:Ty->Prop)(hJ:∀n t,K n=some t->J t)(h:fC w P b K)(hK:uU K R rk){v}(ht:cX w P t v)(h0:J t):Cq 289 #[Mv b,v] w λe w'=>∃u t1,e=.returned u/\cX w P t1 u/\aj7 K R t t1/\J t1/\w'=w:=by
 obtain⟨ta,xa,rfl⟩:=ht.iface;go_enter func289,ntmps289
 go_wp2
 go_loopg[1] (yq rk t) (λgk v wr=>aj8 J K R rk P t w gk v wr)
 case atStart=>exact⟨t,ai rfl,rfl,ht,ai h0,ai rfl⟩
 case round=>
  obtain⟨t1,cV,rfl,hT,hJ1,hE⟩:=hrel
  cases hT with
  |var n=>
   obtain⟨t2,u,e1,H2,hl⟩|⟨e1,hl⟩:=h.look oE n
   .obtain⟨tu,xu,rfl⟩:=H2.iface;have E1:=ai e1
    go_wp2
    go_roundg(yq rk t2)
    case measure=>
     rw[uh cV]
     cases t2 with
     |var m=>have:=hK.Xs n m E1;simp only[yq];omega|aJ c l=>simp only[yq];omega
    case rel=>exact⟨t2,ai rfl,rfl,H2,ai<|hJ n t2 E1,ai (by rw[<-uh hE];exact(hK.shut n t2 E1).symm)⟩
   .have E1:=ai e1
    go_wp2
    go_ret;exact⟨_,.var n,rfl,.var n,⟨hE,λm hm=>by cases hm;exact E1⟩,hJ1,rfl⟩
  |aJ c L sa sc vs hc aN hr=>
   go_wp2
   go_ret;exact⟨_,.aJ c L,rfl,.aJ c L sa sc vs hc aN hr,⟨hE,λm hm=>by cases hm⟩,uh hJ1,rfl⟩
end
def O0 g cs(l:List Nat)(p:Nat->Bool)w:=∀(W:World)(n:Nat),n∈l->Bq w W->Cq g (#[Nv n]++cs) W λe w'=>e=.returned (.bool<|p n)/\Bq W w'
def IxV(l:List Nat)(p:Nat->Bool)k:=(k= -1/\∀n∈l,p n=false)\/∃i,∃h:i<l.length,k=(i:Int)/\p l[i]=true/\∀j(hj:j<l.length),j<i->p l[j]=false
def aj9(l:List Nat)(p:Nat->Bool)w gk v wr:=
 ∃j:Nat,Hid (gk=l.length-j)/\j<=l.length/\v=Nv j/\Bq w wr/\Hid (∀i(hi:i<l.length),i<j->p l[i]=false)
section
variable {w:World} {v:Value} {p:Nat->Bool}
def fk l:(oM l).length=l.length:=by simp[oM]
def oN(eg:∀args w,(callFunc g args).run qp w=.ok (.enter g args) w)(ho:gM w 85 base v (oM l))(hl:l.length<=1000000000000)(hp:O0 g cs l p w):
 Cq 298 #[v,.func (.func g) #[] cs] w λe w'=>∃k,e=.returned (Iv k)/\IxV l p k/\Bq w w':=by
 obtain⟨va,vc,rfl⟩:=dM ho (n:=l.length)<|fk l;go_enter func298,ntmps298
 go_wp2
 go_loopg[8] l.length (λgk v wr=>aj9 l p w gk v wr)
 case atStart=>exact⟨0,ai ag,j8 _,rfl,qs _ _,ai<|λi _ hi=>absurd hi ae⟩
 case round=>
  obtain⟨j,cV,hj,rfl,HK,mX⟩:=hrel;by_cases bh:j<l.length
  .have hd:(j:Int)<(l.length:Int):=ae;have hjv:j<(oM l).length:=by rw[fk];exact bh
   have⟨gv,cpv,mv,hv,hgv,iP,_⟩:=iB ho ae;injection hv with NG UL hv3;subst NG;have cg0:=mC ho j hjv;rw[show(oM l)[j]=Nv (l[j]) by simp[oM]]at cg0;have cg:=(qm (a:=⟨gv,j,none⟩)<|HK.block gv iP).trans cg0;have HC:=hp wr l[j] (jt bh) HK;clear cg0 UL hv3
   cases hpj:p l[j]with
   |true=>
    rw[hpj]at HC;generalize hx:l[j]=x at*;go_wp2_with(go_at_fn g;refine HC.mono ?_;rintro e w1⟨rfl,k1⟩;have HK1:=ai k1;clear k1);go_ret;have k:=HK;exact⟨j,rfl,j5 ⟨j,bh,rfl,by rw[hx];exact hpj,mX⟩,k.trans<|HK1.mono k.size⟩
   |false=>
    rw[hpj]at HC;generalize hx:l[j]=x at*;go_wp2_with(go_at_fn g;refine HC.mono ?_;rintro e w1⟨rfl,k1⟩;have HK1:=ai k1;clear k1);go_roundg(l.length-(j+1))
    case measure=>rw[uh cV];omega
    case rel=>
     have k:=HK;refine⟨j+1,ai rfl,ae,i_,k.trans<|HK1.mono k.size,ai<|λi hi hij=>?_⟩;by_cases e:i=j
     .subst e;rw[hx];exact hpj
     .exact mX i hi ae
  .have hd:decide ((j:Int)<(l.length:Int))=false:=bD;have ej:j=l.length:=ae;subst ej
   go_wp2
   go_ret;refine⟨-1,rfl,j6 ⟨rfl,λn hn=>?_⟩,HK⟩;obtain⟨i,hi,rfl⟩:=List.getElem_of_mem hn;exact mX i hi hi
def IxV.any{k}(h:IxV l p k):decide (0<=k)=l.any p:=by grind[IxV]
def AV(eg:∀args w,(callFunc g args).run qp w=.ok (.enter g args) w)(ho:gM w 85 base v (oM l))(hl:l.length<=1000000000000)(hp:O0 g cs l p w):
 Cq 299 #[v,.func (.func g) #[] cs] w λe w'=>e=.returned (.bool<|l.any p)/\Bq w w':=by
 have HC:=oN eg ho hl hp;obtain⟨va,vc,rfl⟩:=dM ho (n:=l.length)<|fk l;go_enter func299,ntmps299;go_wp2_with fail;refine HC.mono ?_;rintro e w1⟨k,rfl,hk,HK⟩;have HA:=hk.any
 go_wp2
 go_ret;refine⟨?_,HK⟩;rw[<-HA];rfl
end
section
variable {b:Nat} {rk:Nat->Nat}
open Classical in
noncomputable def AW (R:Nat->Ty) (v:Nat) (n:Nat):Bool:=decide (aB v<|R n)
open Classical in
def KY R v t:(vars [] t).any (AW R v)=decide (aB v<|sub R t):=by
 have h:∀n,n∈vars [] t↔aB n t:=λn=>by simpa using bJ t [] n
 by_cases q:aB v (sub R t)
 .rw[decide_eq_true q,List.any_eq_true];have⟨m,h1,h2⟩:=(Go.Proofs.YtlnlhlefeokfjaaGreatDoor.Un.mq t).1 q;exact⟨m,(h m).2 h1,by simp[AW,h2]⟩
 .rw[decide_eq_false q,List.any_eq_false];intro m hm;simp only[AW,decide_eq_true_eq];exact λr=>q<|(Go.Proofs.YtlnlhlefeokfjaaGreatDoor.Un.mq t).2 ⟨m,(h m).1 hm,r⟩
def Sa P b K R v t:=∀(w:World)(x:Value),fC w P b K->cX w P t x->size t<=1000000000000->
 Cq 295 #[Mv b,x,Nv v] w λe w'=>e=.returned (.bool<|(vars [] t).any<|AW R v)/\Bq w w'
def Sb{p:Prop}(h:p:=by
 rw[hb]at HC;go_enter func300,ntmps300;go_wp2_with fail;refine HC.mono ?_;rintro e w1⟨rfl,HK⟩
 go_wp2
 go_ret
 exact⟨rfl,HK⟩):p:=h
def O6(hK:uU K R rk)(hs:∀n t,K n=some t->size t<=1000000000000){v:Nat}(hv:K v=none)n(IH:∀t,K n=some t->Sa P b K R v t){sb vb}(h:fC W P b K)(h1:Bx W sb #[Mv b])(h2:Bx W vb #[Nv v]):
 Cq 300 #[Nv n,Pv sb,Pv vb] W λe w'=>e=.returned (.bool<|AW R v n)/\Bq W w':=by
 obtain⟨c1,f1,z1⟩:=h1;obtain⟨c2,f2,z2⟩:=h2;obtain⟨t,u,e1,ht,hl⟩|⟨e1,hl⟩:=h.look oE n
 .obtain⟨tu,xu,rfl⟩:=ht.iface;have cR:n≠v:=λq=>by rw[q,hv]at e1;cases e1
  have hd:((n:Int)==(v:Int))=false:=bD;have HC:=IH t e1 W _ h ht<|hs n t e1;have eo:(vars [] t).any (AW R v)=AW R v n:=by
   rw[KY,AW,hK.shut n t e1]
  rw[eo]at HC
  cases hb:AW R v n with
  |true=>
   exact Sb
  |false=>
   exact Sb
 .have eo:AW R v n=decide (n=v):=by
   exact decide_eq_decide.2 (by rw[hK.open_ n e1];simp[aB])
  rw[eo];by_cases hnv:n=v
  .subst hnv;go_enter func300,ntmps300
   go_wp2
   go_ret;exact⟨ag,qs _ _⟩
  .have hd:((n:Int)==(v:Int))=false:=bD;go_enter func300,ntmps300
   go_wp2
   go_ret;exact⟨by simp[hnv],qs _ _⟩
def VM(hK:uU K R rk)(hs:∀n t,K n=some t->size t<=1000000000000){v:Nat}(hv:K v=none)t(IH:∀n,aB n t->∀t',K n=some t'->Sa P b K R v t'):Sa P b K R v t:=by
 intro w x HH ht hz;have kb:Bq w ((w.alloc<|Cv #[Mv b] 424).alloc<|Cv #[Nv v] 85):=(bw _).alloc ag _;have b1:Bx ((w.alloc<|Cv #[Mv b] 424).alloc<|Cv #[Nv v] 85) w.heap.size #[Mv b]:=(xg w _ _).below<|bw _;have B2:Bx ((w.alloc<|Cv #[Mv b] 424).alloc<|Cv #[Nv v] 85) (w.heap.size+1) #[Nv v]:=by
  have:=xg (w.alloc<|Cv #[Mv b] 424) #[Nv v] 85;simpa using this
 have HV:=fO (ht.af kb) hz;obtain⟨ta,xa,rfl⟩:=ht.iface;have hlen:(vars [] t).length<=1000000000000:=by
  exact KT
 have KB:=ai kb;have B1:=ai b1;go_enter func295,ntmps295;go_wp2_with fail;refine HV.mono ?_;rintro e w1⟨V,rfl,ho,k1⟩;have⟨va,vc,hva⟩:=dM ho (n:=(vars [] t).length)<|fk _;have hT:O0 300 #[Pv w.heap.size,Pv<|w.heap.size+1] (vars [] t) (AW R v) w1:=λW n hn hb=>
  have kW:=(KB.trans<|k1.mono KB.size).trans<|hb.mono<|j7 KB.size k1.size
  O6 hK hs hv n (λt' ht'=>IH n (by simpa using(bJ t [] n).1 hn) t' ht') (HH.af kW) ((B1.below k1).below hb) ((B2.below k1).below hb)
 have HC:=AV (enters_of Tryz.func300 qkr rfl) ho hlen hT;have K1:=ai k1;subst hva;go_wp2_with fail;refine HC.mono ?_;rintro e w2⟨rfl,K2⟩
 go_wp2
 go_ret;have kb:=uh KB;have k1:=uh K1;exact⟨rfl,(kb.trans<|k1.mono kb.size).trans<|K2.mono<|j7 kb.size k1.size⟩
def aaR(hK:uU K R rk)(hs:∀n t,K n=some t->size t<=1000000000000){v:Nat}(hv:K v=none):∀(s f:Nat)(t:Ty),size (sub R t)<=s->yq rk t<=f->Sa P b K R v t:=by
 intro s
 induction s using j9 with
 |ind s ihs=>
  intro f
  induction f using j9 with
  |ind f ihf=>
   intro t h1 h2;refine VM hK hs hv t λn hn t' ht'=>?_;have e:=hK.shut n t' ht'
   cases t with
   |var m=>
    simp only[aB]at hn;subst hn;simp only[sub]at h1;rw[e]at h1;simp only[yq]at h2;refine ihf (yq rk t') ?_ t' h1<|br _
    cases t' with
    |var u=>have:=hK.Xs m u ht';simp only[yq];omega|aJ c l=>simp only[yq];omega
   |aJ c l=>
    have h3:=jV R n l qBx;simp only[sub,size]at h1;exact ihs (size<|sub R t') (by rw[<-e];omega) (yq rk t') t' (br _)<|br _
end
structure TyI(V:List Nat)t:Prop where
 v:∀m,aB m t->m∈V
 z:size t<=48
 w:Whole t
def Cb V(K:Nat->Option Ty):=∀n t,K n=some t->n∈V/\TyI V t
def opL(V:List Nat)(K:Nat->Option Ty):Nat:=(V.filter λn=>(K n).isNone).length
def ahx(h:n∈V)(e:K n=none):opL V (d_ K n<|some t)<opL V K:=by
 refine filter_lt (m:=n) (λi hi=>?_) h qBq (by simp[d_]);by_cases q:i=n
 .simp[d_,q]at hi
 .simpa[d_,q]using hi
def KZ V K K'(R R':Nat->Ty):=(K'=K/\R'=R)\/opL V K'<opL V K
def cK P b V K R x y w(e:Ending)w':=
 ∃ok:Bool,e=.returned (.bool ok)/\Fr (λi=>i=b) w w'/\
  (ok=true->∃K' R' Qg,fC w' P b K'/\uU K' R' Qg/\Cb V K'/\Made R R' x y/\KZ V K K' R R')/\
  (ok=false->∀σ,sub σ (sub R x)≠sub σ (sub R y))
section
variable {w:World} {b:Nat} {rk:Nat->Nat}
def Cb.q_(h:Cb V K):∀n t,K n=some t->size t<=1000000000000:=λn t e=>by have:=(h n t e).2.z;omega
def Sc{p:Prop}(h:p:=by
 go_enter func290,ntmps290;go_wp2_with fail;refine HC.mono ?_;rintro e w1⟨rfl,K1⟩;have S1:=HS.af K1;have T1:=ht.af K1;go_wp2_with(refine lC oE rfl _ _ _ (Or.inr rfl) rfl S1 hP T1 n rfl rfl ?_;intro w4 H' O';have S4:=ai H';have O4:=ai O';clear H' O');go_ret;have o:=uh O4
 exact⟨true,rfl,(Fr.of K1).trans ⟨o.os,o.tape,o.output,UE,λk _ hk=>o.block k hk⟩,λ_=>HY HO _ S4,λh=>by(cases h)⟩):p:=h
def Sd{p:Prop}(h:p:=by
 go_enter func290,ntmps290;go_wp2_with fail;refine HC.mono ?_;rintro e w1⟨rfl,K1⟩
 go_wp2
 go_ret
 exact⟨false,rfl,Fr.of K1,λh=>by(cases h),λ_ σ=>HN σ HO⟩):p:=h
def K_(h:fC w P b K)(hP:¬P b)(hK:uU K R rk)(hI:Cb V K)(hn:K n=none)(hnV:n∈V){x}(ht:cX w P t x)(hti:TyI V t)(hh:∀u,t=.var u->K u=none):
 Cq 290 #[Mv b,Nv n,x] w (cK P b V K R (.var n) t w):=by
 have HS:=ai h;by_cases aaS:t=.var n
 .subst aaS
  cases ht
  have h1:=ahr;go_enter func290,ntmps290
  go_wp2
  go_ret;exact⟨true,rfl,Fr.refl _ _,λ_=>⟨K,R,rk,HS,hK,hI,Made.refl rfl,j6 ⟨rfl,rfl⟩⟩,λh=>MO⟩
 .have HC:=aaR (P:=P) (b:=b) hK hI.q_ hn (size<|sub R t) (yq rk t) t (br _) (br _) w x h ht (by have:=hti.z;omega);rw[KY]at HC;have HN:∀σ,aB n (sub R t)->sub σ (sub R<|.var n)≠sub σ (sub R t):=λσ ho=>by
   cases t with
   |var u=>
    have:=hK.open_ u<|hh u rfl;simp[sub,this,aB]at ho;exact absurd (by rw[ho]) aaS
   |aJ c l=>exact adn hK hn ho σ
  have HY:¬aB n (sub R t)->∀w',fC w' P b (d_ K n<|some t)->∃K' R' Qg,fC w' P b K'/\uU K' R' Qg/\Cb V K'/\Made R R' (.var n) t/\KZ V K K' R R':=λho w' hw=>by
   have⟨Qg,iX⟩:=hK.bind hn ho hh;refine⟨_,_,Qg,hw,iX,λm s e=>?_,Made.bind hK hn ho,j5<|ahx hnV hn⟩;by_cases q:m=n
   .simp only[d_,q,if_true,Option.some.injEq]at e;subst e q;exact⟨hnV,hti⟩
   .simp only[d_,q,if_false]at e;exact hI m s e
  obtain⟨ta,xa,rfl⟩:=ht.iface;have key:(∃m,ta=85/\xa=Iv m/\(m==(n:Int))=false)\/∃p q,ta=153/\xa=Av #[p,q]:=by
   cases ht with
   |var m=>exact j6 ⟨m,rfl,rfl,by simp;intro e;exact aaS<|by rw[show m=n by omega]⟩|aJ c L sa sc vs hc aN hr=>exact j5 ⟨_,_,rfl,rfl⟩
  cases ho:(@decide (aB n<|sub R t)<|xi _)with
  |true=>
   rw[ho]at HC;have HO:= @of_decide_eq_true _ (xi _) ho;obtain⟨m,rfl,rfl,hm⟩|⟨p,q,rfl,rfl⟩:=key
   .have h1:=ahr;exact Sd
   .have h1:=ajZ;exact Sd
  |false=>
   rw[ho]at HC;have HO:= @of_decide_eq_false _ (xi _) ho;obtain⟨m,rfl,rfl,hm⟩|⟨p,q,rfl,rfl⟩:=key
   .have h1:=ahr;exact Sc
   .have h1:=ajZ;exact Sc
end
@[simp] theorem amM a b w:(qt (.iface 153<|.agg #[a,b]) 56 153 false).run qp w=.ok (.agg #[a,b]) w:=qkr
def ba(w:World)o:(w.alloc o).heap.size=w.heap.size+1:=ag
def rG w C1 C2 v1 v2 wc:=∃p q,v1=Pv p/\v2=Pv q/\w.heap.size<=p/\w.heap.size<=q/\Bx wc p C1/\Bx wc q C2/\Bq w wc
theorem rG.a w C1 C2 t1 t2:rG w C1 C2 (Pv w.heap.size) (Pv<|w.heap.size+1) ((w.alloc<|.cells C1 t1).alloc<|.cells C2 t2).drew:=by
 refine⟨_,_,rfl,rfl,br _,Nat.le_succ _,((xg w C1 t1).below<|bw _).oH,?_,((bw _).alloc ag _).drew⟩;have:=xg (w.alloc<|Cv C1 t1) C2 t2;simp only[ba]at this;exact this.oH
def rG.b w C1 C2 t1 t2:rG w C1 C2 (Pv<|w.heap.size+1) (Pv w.heap.size) ((w.alloc<|.cells C2 t2).alloc<|.cells C1 t1).drew:=by grind[rG,rG.a]
def ahy P b V K R(L L2:List Ty)p q C0 C1 w gk c wr:=
 ∃(j:Nat)(K':Nat->Option Ty)(R':Nat->Ty)(Qg:Nat->Nat),Hid (gk=L.length-j)/\j<=L.length/\c=Nv j/\Fr (λi=>i=b) w wr/\fC wr P b K'/\uU K' R' Qg/\Cb V K'/\o9 R R' (L.take j) (L2.take j)/\Hid (KZ V K K' R R')/\Bx wr p C0/\Bx wr q C1
def Se{p:Prop}(h:p:=by
 rw[kq,ku]at h;have:=congrArg xj h;rw[e1,e2]at this;simp at this):p:=h
def ad0{d}(hc:CN c)(hd:CN d)(h:pn c=pn d):c=d:=by
 have e1:(⟨#[45,62]⟩:BA).toList=[45,62]:=toList_mk _;have e2:(⟨#[44]⟩:BA).toList=[44]:=toList_mk _;obtain rfl|rfl|hc:=hc<;>obtain rfl|rfl|hd:=hd
 .rfl
 .exact Se
 .rw[kq,eS hd]at h;exact absurd (by rw[<-h,e1])<|cJ hd 45 [62] aw
 .exact Se
 .rfl
 .rw[ku,eS hd]at h;exact absurd (by rw[<-h,e2])<|cJ hd 44 [] aw
 .rw[kq,eS hc]at h;exact absurd (by rw[h,e1])<|cJ hc 45 [62] aw
 .rw[ku,eS hc]at h;exact absurd (by rw[h,e2])<|cJ hc 44 [] aw
 .rw[eS hc,eS hd]at h;exact h
def TyI.at{V}{c}{L}(h:TyI V (.aJ c L))i(hi:i<L.length):TyI V L[i]:=
 ⟨λm hm=>h.v m<|RZ L i hi hm,by have:=mO L i hi;have:=h.z;simp only[size]at this;omega,wa h.w.2 i hi⟩
section
variable {b:Nat}
def aj_ P b V K R rk x y:=∀(w:World)(v u:Value),fC w P b K->uU K R rk->Cb V K->TyI V x->TyI V y->cX w P x v->cX w P y u->
 Cq 282 #[Mv b,v,u] w (cK P b V K R x y w)
def cK.fr{w:World}{e:Ending}(h:cK P b V K R x y w e w'):Fr (λi=>i=b) w w':=by grind[cK]
def cK.up{K:Nat->Option Ty}{R:Nat->Ty}{x y:Ty}{w w0:World}{e:Ending}{w':World}(h:cK P b V K R x y w0 e w')(hb:Bq w w0):cK P b V K R x y w e w':=by
 obtain⟨ok,h1,h2,h3,h4⟩:=h;exact⟨ok,h1,(Fr.of hb).trans h2,h3,h4⟩
def KZ.trans{K1 K2}{R1 R2}(h:KZ V K K1 R R1)(k:KZ V K1 K2 R1 R2):KZ V K K2 R R2:=by grind[KZ]
def cK.of{x' y'}{w:World}{e:Ending}(h:cK P b V K R x' y' w e w')(hx:sub R x'=sub R x)(hy:sub R y'=sub R y):cK P b V K R x y w e w':=by
 obtain⟨ok,h1,h2,h3,h4⟩:=h;refine⟨ok,h1,h2,λe=>?_,λe σ=>by rw[<-hx,<-hy];exact h4 e σ⟩;have⟨K',R',Qg,q1,q2,q3,q4,q5⟩:=h3 e;exact⟨K',R',Qg,q1,q2,q3,q4.adm hx hy,q5⟩
def cK.swap{K}{R}{x y}{w}{e}{w'}(h:cK P b V K R x y w e w'):cK P b V K R y x w e w':=by
 obtain⟨ok,h1,h2,h3,h4⟩:=h;refine⟨ok,h1,h2,λe=>?_,λe σ q=>h4 e σ q.symm⟩;have⟨K',R',Qg,q1,q2,q3,q4,q5⟩:=h3 e;exact⟨K',R',Qg,q1,q2,q3,q4.swap,q5⟩
def Xy(hP:¬P b):∀(f s:Nat)(K:Nat->Option Ty)(R:Nat->Ty)(rk:Nat->Nat)(x y:Ty),opL V K<=f->size (sub R x)<=s->aj_ P b V K R rk x y:=by
 intro f
 induction f using j9 with
 |_ f ihf=>
 intro s
 induction s using j9 with
 |_ s ihs=>
  intro K R rk x y Hf Hs w v u h hK hI hx hy hv hu;have HS:=ai h;have HH1:=aaQ (TyI V) (λn t e=>(hI n t e).2) h hK hv hx;have Ca:=aaQ (TyI V) (λn t e=>(hI n t e).2) h hK hu hy;obtain⟨ta,xa,rfl⟩:=hv.iface;obtain⟨tb,xb,rfl⟩:=hu.iface;go_enter func282,ntmps282;go_wp2_with fail;refine HH1.mono ?_;rintro e w1⟨v1,x1,rfl,NG,BW,VO,rfl⟩;obtain⟨BQ,BS,rfl⟩:=NG.iface;clear HH1;go_wp2_with fail;refine Ca.mono ?_;rintro e w2⟨u1,y1,rfl,wS,ZA,hy1,rfl⟩;obtain⟨tb1,xb1,rfl⟩:=wS.iface;clear Ca h hv hu
  cases x1 with
  |var n=>
   have HC:=K_ HS hP hK hI (BW.op n rfl) (VO.v n rfl) wS hy1 ZA.op
   cases NG
   have E:=And.intro BW.eq ZA.eq;clear BW ZA wS;go_wp2_with fail;refine HC.mono ?_;intro e w3 xZ;have HQ:=xZ.of E.1 E.2;obtain⟨ok,rfl,-⟩:=xZ;clear HC
   go_wp2
   go_ret;exact HQ
  |aJ c L=>
  cases y1 with
  |var n=>
   have HC:=K_ HS hP hK hI (ZA.op n rfl) (hy1.v n rfl) NG VO BW.op;have key:∃p q,BQ=153/\BS=Av #[p,q]:=by cases NG;exact⟨_,_,rfl,rfl⟩
   obtain⟨p,q,rfl,rfl⟩:=key
   cases wS
   have E:=And.intro BW.eq ZA.eq;clear BW ZA NG;go_wp2_with fail;refine HC.mono ?_;intro e w3 xZ;have HQ:=xZ.swap.of E.1 E.2;obtain⟨ok,rfl,-⟩:=xZ;clear HC
   go_wp2
   go_ret;exact HQ
  |aJ d L2=>
   cases NG with
   |aJ _ _ sa sc vs hc aN hr=>
   cases wS with
   |aJ _ _ sa2 sc2 vs2 hc2 AX rh=>
   have hc:=hc.resolve_right VO.w.1;have hc2:=hc2.resolve_right hy1.w.1;have E:=And.intro BW.eq ZA.eq;clear BW ZA;go_wp2_with fail;go_cut[11,12]from 40 (λv1 v2 wc=>rG w2 #[Sv<|pn c,Lv sa L.length sc] #[Sv<|pn d,Lv sa2 L2.length sc2] v1 v2 wc)
   case first=>
    clear ihf ihs hr rh aN AX;go_region
    all_goals(
     go_wp2_with fail
     go_meet
     case rel=>first|exact rG.a w2 _ _ _ _|exact rG.b w2 _ _ _ _)
   case rest=>
    obtain⟨p,q,rfl,rfl,zp,zq,X1,X2,KC⟩:=hcut;obtain⟨c1,f1,z1⟩:=X1;obtain⟨c2,f2,z2⟩:=X2;by_cases hcd:c=d
    .subst hcd;by_cases hlen:L.length=L2.length
     .have hd0:((L.length:Int) !=(L2.length:Int))=false:=bD;have amW:L.length<=48:=by have:=GO L;have:=VO.z;simp only[size]at this;omega
      have HE:=ai hlen;have T1:=show Bx wc p #[Sv<|pn c,Lv sa L.length sc]from⟨c1,f1,z1⟩;have T2:=show Bx wc q #[Sv<|pn c,Lv sa2 L2.length sc2]from⟨c2,f2,z2⟩;clear hlen
      go_wp2
      go_loopg[61] L.length (λgk c1 wr=>ahy P b V K R L L2 p q #[Sv<|pn c,Lv sa L.length sc] #[Sv<|pn c,Lv sa2 L2.length sc2] w2 gk c1 wr)
      case atStart=>exact⟨0,K,R,rk,ai ag,j8 _,rfl,Fr.of KC,HS.af KC,hK,hI,by simpa using o9.nil R,ai<|j6 ⟨rfl,rfl⟩,T1,T2⟩
      case round=>
       clear T1 T2 c1 c2 f1 f2 z1 z2;obtain⟨j,K1,R1,rk1,cV,hj,rfl,CO,S1',hK1,hI1,HM1,hL1,T1,T2⟩:=hrel;have hlen:=uh HE;by_cases bh:j<L.length
       .have hd:(j:Int)<(L.length:Int):=ae;have Vz:(j:Int)<(L2.length:Int):=ae;have VP:j<L2.length:=ae;obtain⟨g1,rfl,hg1,l8,aaT⟩:=aN.resolve_left<|λe=>qBs;obtain⟨g2,rfl,VQ,gR,aaU⟩:=AX.resolve_left (λe=>by subst e;simp at VP);have nb:∀i,P i->i<w2.heap.size->¬i=b:=λi hi _ e=>hP<|e▸hi;have a1:=(qm (a:=⟨g1,j,none⟩)<|CO.block g1 l8<|nb g1 hg1 l8).trans<|aaT j bh;have a2:=(qm (a:=⟨g2,j,none⟩)<|CO.block g2 gR<|nb g2 VQ gR).trans<|aaU j VP;have t1:=(hr j bh).fr CO nb;have t2:=(rh j VP).fr CO nb;have ih:aj_ P b V K1 R1 rk1 L[j] L2[j]:=by
         have hs1:size (sub R L[j])<=ah (aP R L):=by
          have:=mO (aP R L) j (by rw[ew];exact bh)
          rwa[RY R L j bh]at this
         have rY:=Hs;rw[<-E.1]at rY;simp only[sub,size]at rY;obtain⟨rfl,rfl⟩|bA:=uh hL1
         .exact ihs (size<|sub R1 L[j]) ae K1 R1 rk1 L[j] L2[j] Hf (br _)
         .exact ihf (opL V K1) (by have:=Hf;omega) (size<|sub R1 L[j]) K1 R1 rk1 L[j] L2[j] (br _) (br _)
        have HC:=λ(W:World)(hb:Bq wr W)=>ih W (vs j) (vs2 j) (S1'.af hb) hK1 hI1 (VO.at j bh) (hy1.at j VP) (t1.af hb)<|t2.af hb;have⟨tu1,xu1,e1⟩:=t1.iface;have⟨tu2,xu2,e2⟩:=t2.iface;rw[e1]at a1 HC;rw[e2]at a2 HC;have UP:=ai T1;have T2':=ai T2;obtain⟨c1,f1,z1⟩:=T1;obtain⟨c2,f2,z2⟩:=T2;clear ih t1 t2 hK1 hI1 aaT aaU hlen;go_wp2_with fail;go_cut[61,76]from 61 to 77 (λc3 v3 wd=>c3=Nv j/\∃ok,v3=.bool (!ok)/\cK P b V K1 R1 L[j] L2[j] wr (Rv<|.bool ok) wd)
        case first=>
         clear ihf ihs hr rh aN AX HM1 hL1 cV HS hK hI hx hy Hf Hs E KC;go_region_with(go_at_call 282;refine(HC _ (qs _ _).drew).mono ?_;intro e w3 xZ;have HQ:=ai xZ;obtain⟨ok,rfl,-⟩:=xZ)
         all_goals(
          go_wp2_with fail
          go_meet
          case rel=>exact⟨rfl,ok,rfl,HQ.up (qs _ _).drew⟩)
        case rest=>
         obtain⟨rfl,ok,rfl,HQ⟩:=hcut;have F2:=HQ.fr;have ze:=HQ.fr.size;have zr:=CO.size;have U1:=ai (UP.fr F2 (λe=>by have:=HS.lt;omega));have U2:=ai (T2'.fr F2 (λe=>by have:=HS.lt;omega));have HF:=CO.trans F2;clear F2 c1 f1 z1 c2 f2 z2 a1 a2 HC
         cases ok with
         |false=>
          go_wp2
          go_ret;refine cK.of ⟨false,rfl,HF,λh=>by(cases h),λ_ σ=>?_⟩ E.1 E.2;obtain⟨ok,q1,_,_,q4⟩:=HQ;have q4:=q4 (by injection q1 with q1;injection q1 with q1;exact q1.symm);rw[La L j bh,La L2 j VP];exact HM1.no bD q4 c c σ
         |true=>
          go_wp2
          go_roundg(L.length-(j+1))
          case measure=>rw[uh cV];omega
          case rel=>
           obtain⟨ok,q1,_,q3,_⟩:=HQ;have⟨K2,R2,rk2,r1,r2,r3,r4,r5⟩:=q3 (by injection q1 with q1;injection q1 with q1;exact q1.symm);refine⟨j+1,K2,R2,rk2,ai rfl,ae,i_,HF,r1,r2,r3,?_,ai ?_,U1,U2⟩
           .rw[ji bh,ji VP];exact HM1.snoc bD r4
           .exact hL1.trans r5
       .have hd:decide ((j:Int)<(L.length:Int))=false:=bD;have ej:j=L.length:=ae;subst ej;clear hlen
        go_wp2
        go_ret;refine cK.of ⟨true,rfl,CO,λ_=>⟨K1,R1,rk1,S1',hK1,hI1,?_,hL1⟩,λh=>by(cases h)⟩ E.1 E.2;have hm:=HM1;rw[jf,uh HE,jf]at hm;exact hm.aJ c
     .have hd0:((L.length:Int) !=(L2.length:Int))=true:=bD
      go_wp2
      go_ret;refine cK.of ⟨false,rfl,Fr.of KC,λh=>by(cases h),λ_ σ=>Va hlen⟩ E.1 E.2
    .have cR:pn c≠pn d:=λe=>hcd<|ad0 hc hc2 e;have hd0:¬(pn c).toList=(pn d).toList:=λe=>cR<|toList_inj e;clear cR
     go_wp2
     go_ret;refine cK.of ⟨false,rfl,Fr.of KC,λh=>by(cases h),λ_ σ=>Og hcd⟩ E.1 E.2
end
namespace Un
def dO.Qe{t'}(h:dO t' t)(hw:Whole t):bK t'=bK t:=by grind[dO,Whole,bK,sz,o_]
def dO.afc t(hw:Whole t):dO (bK t) t:=(dO.refl t).cut hw
def IL n:bK (.var n)=.var n:=by simp[bK,sz]
def zv(h:size t<=48)(hw:Whole t):bK t=t:=by grind[size,Whole,bK,o_]
def fD(hw:Whole t){C}(h:(vars [] t).length<=C)(hC:48<=C):size (bK t)<=1+C:=Vb h hC λq=>Oi q
end Un
section
variable {rk:Nat->Nat}
def Lb t n(h:n∈occs t):aB n t:=by
 have:n∈vars [] t:=by rw[cC];exact(gJ n _ _).2 (j5 h)
 simpa using(bJ t [] n).1 this
def Xu(K:Nat->Option Ty)(R:Nat->Ty)(D:Nat->Option Ty):=∀n t,D n=some t->t=bK (R n)/\K n≠none
structure zu(K:Nat->Option Ty)(R:Nat->Ty):Prop where
 whole:∀n,Whole<|R n
 len:∀n,(vars []<|R n).length<=1000
 small:∀n t,K n=some t->size t<=48
theorem zu.size(h:zu K R)n:size (bK<|R n)<=1001:=by have:=fD (h.whole n) (h.len n) aw;omega
def VR(hK:uU K R rk)(hF:zu K R)(e:K n=some t):bK (sub (λm=>bK<|R m) t)=bK (R n):=by
 have h:dO (sub (λm=>bK<|R m) t) (R n):=by
  rw[hK.shut n t e];exact(dO.refl t).sub λm _=>dO.afc _<|hF.whole m
 exact h.Qe<|hF.whole n
abbrev VS(B:Nat->Prop)n wb x:=(B x\/n<=x)/\x≠wb
def Sf(b wb:Nat)K R B(D:Nat->Option Ty)n w(e:Ending)w':=
 ∃u D',e=.returned u/\cX w' (VS B w.heap.size wb) (bK<|R n) u/\fC w' (VS B w.heap.size wb) wb D'/\Xu K R D'/\(∀m,D m≠none->D' m≠none)/\(K n≠none->D' n≠none)/\Fr (λi=>i=wb) w w'
structure EU b wb K R(B:Nat->Prop)D(w:World):Prop where
 lt:∀x,B x->x<w.heap.size
 nw:¬B wb
 wl:wb<w.heap.size
 bb:B b
 s:fC w B b K
 d:fC w B wb D
 g:Xu K R D
def aaV b wb K R n:=∀(w:World)(B:Nat->Prop)(D:Nat->Option Ty),EU b wb K R B D w->
 Cq 291 #[Mv b,Mv wb,Nv n] w (Sf b wb K R B D n w)
def aka b wb sx wx K R(B:Nat->Prop)(D:Nat->Option Ty)(_:List Nat)B1 M1 W:=
 (M1=λi=>i=wb)/\(∀x,B x->B1 x)/\B1 sx/\B1 wx/\Bx W sx #[Mv b]/\Bx W wx #[Mv wb]/\∃D1,EU b wb K R B1 D1 W/\∀m,D m≠none->D1 m≠none
variable {b wb sx wx:Nat} {B:Nat->Prop}
def aaW(IH:aaV b wb K R n){B1}(h1:Bx W sx #[Mv b])(h2:Bx W wx #[Mv wb])(h:EU b wb K R B1 D1 W):
 Cq 296 #[Nv n,Pv sx,Pv wx] W (Sf b wb K R B1 D1 n W):=by
 obtain⟨c1,f1,z1⟩:=h1;obtain⟨c2,f2,z2⟩:=h2;have HC:=IH W B1 D1 h;go_enter func296,ntmps296;go_wp2_with fail;refine HC.mono ?_;intro e w1 hp;have HP:=ai hp;obtain⟨u,D',rfl,hu,-⟩:=hp;obtain⟨ta,xa,rfl⟩:=hu.iface
 go_wp2
 go_ret;exact HP
def ad1(IH:∀n,aB n t->aaV b wb K R n)(hsw:sx≠wb/\wx≠wb):Img 296 #[] #[Pv sx,Pv wx] (λm=>bK<|R m) (λ_ n=>aB n t) (aka b wb sx wx K R B D) where
 eg:=enters_of Tryz.func296 qkr rfl
 lU acc B1 M1 w w' h hz hk:=by
  obtain⟨rfl,h1,h2,h3,h4,h5,D1,h6,h7⟩:=h;refine⟨rfl,h1,h2,h3,h4.same hz<|hk _<|j6 h2,h5.same hz<|hk _<|j6 h3,D1,⟨λx p=>qe (h6.lt x p) hz,h6.nw,qe h6.wl hz,h6.bb,?_,?_,h6.g⟩,h7⟩
  .exact h6.s.move hz (hk b<|j6 h6.bb) (λx p _=>hk x<|j6 p) (λ_ p _=>p)
  .exact h6.d.move hz (hk wb<|j5 rfl) (λx p _=>hk x<|j6 p) (λ_ p _=>p)
 lt acc B1 M1 w h:=by
  obtain⟨rfl,h1,h2,h3,h4,h5,D1,h6,h7⟩:=h;rintro x(p|rfl)
  .exact h6.lt x p
  .exact h6.wl
 call acc B1 M1 w n h hN:=by
  obtain⟨rfl,h1,h2,h3,h4,h5,D1,h6,h7⟩:=h;refine(aaW (IH n hN) h4 h5 h6).mono ?_;rintro e w'⟨u,D',rfl,hu,hd,hg,hm,_,F⟩;have wl:=h6.wl;have hz:=F.size;refine⟨u,λx=>B1 x\/(w.heap.size<=x/\x<w'.heap.size),_,rfl,hu.wide λx p=>⟨p.2,p.1⟩,⟨rfl,λx p=>j6<|h1 x p,j6 h2,j6 h3,h4.fr F hsw.1,h5.fr F hsw.2,D',⟨?_,?_,ae,j6 h6.bb,?_,?_,hg⟩,λm q=>hm m<|h7 m q⟩,?_,λx q=>j6 q,F⟩
  .rintro x(p|p)
   .have:=h6.lt x p;omega
   .exact p.2
  .rintro(p|p)
   .exact h6.nw p
   .omega
  .exact(h6.s.fr F (λe=>h6.nw<|e▸h6.bb)<|λx p _ e=>h6.nw<|e▸p).wide λx p=>j6 p
  .refine hd.low.wide λx p=>?_;obtain q|q:=p.1.1
   .exact j6 q
   .omega
  .grind
def ad2(hK:uU K R rk)(hF:zu K R)n(IH:∀t,K n=some t->∀m,aB m t->aaV b wb K R m):aaV b wb K R n:=by
 intro w B D h;have kb:Bq w ((w.alloc<|Cv #[Mv b] 424).alloc<|Cv #[Mv wb] 383):=(bw _).alloc ag _;have x1:Bx ((w.alloc<|Cv #[Mv b] 424).alloc<|Cv #[Mv wb] 383) w.heap.size #[Mv b]:=(xg w _ _).below<|bw _;have x2:Bx ((w.alloc<|Cv #[Mv b] 424).alloc<|Cv #[Mv wb] 383) (w.heap.size+1) #[Mv wb]:=by
  have:=xg (w.alloc<|Cv #[Mv b] 424) #[Mv wb] 383;simpa using this
 have bl:=h.lt b h.bb;have wl:=h.wl;obtain⟨c1,f1,z1⟩:=x1;obtain⟨c2,f2,z2⟩:=x2;have KB:=ai kb;have HH:=ai h;obtain⟨t,u,E1,h1,hl⟩|⟨E1,hl⟩:=(h.d.af kb).look iD n
 .obtain⟨ta,xa,rfl⟩:=h1.iface;have H1:=ai h1;go_enter func291,ntmps291
  go_wp2
  go_ret;have h:=uh HH;have nw:∀x,B x->VS B w.heap.size wb x:=λx p=>⟨j6 p,λe=>h.nw<|e▸p⟩;obtain⟨rfl,_⟩:=h.g n t E1;exact⟨_,D,rfl,H1.wide nw,(h.d.af KB).wide nw,h.g,λm q=>q,λ_=>by rw[E1];simp,Fr.of KB⟩
 .obtain⟨t,u,e2,h1,Nk⟩|⟨e2,Nk⟩:=(h.s.af kb).look oE n
  .have E2:=ai e2;have hI:aka b wb w.heap.size (w.heap.size+1) K R B D [] (λx=>B x\/x=w.heap.size\/x=w.heap.size+1) (λi=>i=wb) ((w.alloc<|Cv #[Mv b] 424).alloc<|Cv #[Mv wb] 383):=by
    refine⟨rfl,λx p=>j6 p,j5<|j6 rfl,j5<|j5 rfl,⟨c1,f1,z1⟩,⟨c2,f2,z2⟩,D,⟨?_,?_,ae,j6 h.bb,(h.s.af kb).wide λx p=>j6 p,(h.d.af kb).wide λx p=>j6 p,h.g⟩,λm q=>q⟩
    .rintro x(p|rfl|rfl)
     .have:=h.lt x p;omega
     .omega
     .omega
    .rintro(p|p|p)
     .exact h.nw p
     .omega
     .omega
   have al6:=hF.small n t e2;have HC:=AR (ad1 (IH t e2) ae) t [] _ _ _ u B hI (λi hi=>?_) ae h1<|λx p _ q=>h.nw<|q▸p
   case refine_1=>exact Lb t _<|jt hi
   have fK:size (sub (λm=>bK<|R m) t)<=1000000000000:=by
    have:=iA (λm=>bK<|R m) 1001 t (λm _=>hF.size m) aw;have:1001*size t<=1001*48:=Nat.mul_le_mul_left _ al6;omega
   have HCL:=VR hK hF e2;obtain⟨ta,xa,rfl⟩:=h1.iface;go_enter func291,ntmps291;go_wp2_with fail;refine HC.mono ?_;rintro e w1⟨u1,B1,M1,rfl,wS,⟨rfl,q1,q2,q3,q4,q5,D1,q6,q7⟩,hB1,hM1,Ce⟩;obtain⟨tu,xu,rfl⟩:=wS.iface;have HCu:=aaN wS fK;have Q:=And.intro q6<|And.intro q7 hB1;have zf:=Ce.size;obtain⟨c3,f3,z3⟩:=q4;obtain⟨c4,f4,z4⟩:=q5;go_wp2_with fail;refine HCu.mono ?_;rintro e w2⟨u2,rfl,wU,K2⟩;rw[HCL]at wU;obtain⟨tu2,xu2,rfl⟩:=wU.iface;obtain⟨q6,HM,hB1⟩:=Q;have z2':=K2.size;have c5:=(Bx.below (show Bx w1 (w.heap.size+1) #[Mv wb]from⟨c4,f4,z4⟩) K2).c
   have hB3:∀x,B1 x->VS B w.heap.size wb x:=λx p=>⟨by
    obtain  (r|r|r)|r:=hB1 x p
    .exact j6 r
    .exact j5 ae
    .exact j5 ae
    .simp only[ba]at r;exact j5 ae,λe=>q6.nw<|e▸p⟩
   have S2:=(q6.d.af K2).wide hB3
   have U2:=ai (wU.wide (Q:=VS B w.heap.size wb) λx p=>by
    obtain⟨p1,(p2|p2|p2)|p2⟩|p:=p
    .exact⟨j6 p2,p1⟩
    .exact⟨j5 ae,p1⟩
    .exact⟨j5 ae,p1⟩
    .simp only[ba]at p2;exact⟨j5 ae,p1⟩
    .exact⟨j5 (by simp only[ba]at zf;omega),by simp only[ba]at zf;omega⟩)
   have HG:=ai q6.g;go_wp2_with(refine lC iD rfl _ _ _ (j5 rfl) rfl S2 (λq=>q.2 rfl) U2 n rfl rfl ?_;intro w4 H' O';have S4:=ai H';have O4:=ai O';clear H' O');go_ret;have o:=uh O4;refine⟨_,d_ D1 n<|some<|bK<|R n,rfl,U2.move UE (λx p _=>o.block x p.2)<|λ_ p _=>p,S4,λm s hs=>?_,λm hm=>?_,λ_=>by simp[d_],?_⟩
   .by_cases q:m=n
    .simp only[d_,q,if_true,Option.some.injEq]at hs;subst q;exact⟨hs.symm,by rw[uh E2];simp⟩
    .simp only[d_,q,if_false]at hs;exact HG m s hs
   .by_cases q:m=n
    .simp[d_,q]
    .simp only[d_,q,if_false];exact HM m hm
   .exact(((Fr.of KB).trans Ce).low<|K2|>.mono (by have:=KB.size;omega)).trans ⟨o.os,o.tape,o.output,UE,λk _ hk=>o.block k hk⟩
  .have E2:=ai e2;go_enter func291,ntmps291
   go_wp2
   go_ret;have h:=uh HH;have nw:∀x,B x->VS B w.heap.size wb x:=λx p=>⟨j6 p,λe=>h.nw<|e▸p⟩;refine⟨_,D,rfl,?_,(h.d.af KB).wide nw,h.g,λm q=>q,λq=>absurd E2 q,Fr.of KB⟩;rw[hK.open_ n<|uh E2,IL];exact .var n
def IK(hK:uU K R rk)(hF:zu K R):∀(s r n:Nat),size (R n)<=s->rk n<=r->aaV b wb K R n:=by
 intro s
 induction s using j9 with
 |ind s ihs=>
  intro r
  induction r using j9 with
  |ind r ihr=>
   intro n h1 h2;refine ad2 hK hF n λt e m hm=>?_;have q:=hK.shut n t e
   cases t with
   |var u=>
    simp only[aB]at hm;subst hm;have:=hK.Xs n u e;refine ihr (rk u) ae u ?_<|br _;rw[q]at h1;simpa[sub]using h1
   |aJ c l=>
    have h3:=jV R m l (by simpa[aB]using hm);have h4:=congrArg size q;simp only[sub,size]at h4;exact ihs (size<|R m) ae (rk m) m (br _)<|br _
end
end
section
open Un
def uC.up{kb fb cb mb:Nat}{ns:List BA}{T}{ns'}{w w0:World}{e}{w'}(h:uC kb fb cb mb ns T ns' w0 e w')(hb:Bq w w0):uC kb fb cb mb ns T ns' w e w':=by
 obtain⟨u,h1,h2,h3,h4⟩:=h;exact⟨u,h1,h2.wide λb p=>j7 hb.size p,h3,(Fr.of hb).trans h4⟩
section
variable {w:World}
def O7 s n f t a:OfC (.mk 16 s n [] f t a):=by
 intro w kb fb cb mb ns Q v h hp hQ hn;have e:aI ns (.mk 16 s n [] f t a)=(.var<|ix s (oV s ns)+1,oV s ns):=by simp[aI]
 rw[e]at hn⊢;have Fw:ns.length<=2000:=by have:=Lc s ns;simp at hn;omega
 cases hp with
 |var s n f t a x y hq hx hy=>
 clear hx hy;have bP:Bq w (w.alloc<|Cv #[Iv x,Iv y,Sv<|s.extract 1 s.size] 143):=bw _;have HC:=Jr (h.af bP) s hq Fw;go_enter func29,ntmps29;go_wp2_with fail;refine HC.mono ?_;rintro e w1⟨rfl,N1,F1⟩
 go_wp2
 go_ret;exact⟨_,rfl,.var _,N1,(Fr.of bP).trans F1⟩
def yS{p:Prop}(h:p:=by
 go_enter func29,ntmps29;go_wp2_with fail;refine HC.mono ?_;intro e w1 hp;have hp2:=hp.up bP;obtain⟨u,rfl,_⟩:=hp
 go_wp2
 go_ret
 exact hp2):p:=h
def aaX(hk:k=17/\T=145/\cn=m9\/k=6/\T=147/\cn=lq)s n x y f t a(hx:OfC x)(hy:OfC y):OfC (.mk k s n [x,y] f t a):=by
 intro w kb fb cb mb ns Q v h hp hQ hn;have e:aI ns (.mk k s n [x,y] f t a)=(.aJ cn (aG ns [x,y]).1,(aG ns [x,y]).2):=by obtain⟨rfl,rfl,rfl⟩|⟨rfl,rfl,rfl⟩:=hk<;>simp[aI,g_]
 rw[e]at hn⊢;obtain⟨x1,y1,va,vb,ha,hb,rfl⟩:∃x1 y1 va vb,PT w Q x va/\PT w Q y vb/\v=Fv T (Av #[Iv x1,Iv y1,va,vb]):=by obtain⟨rfl,rfl,rfl⟩|⟨rfl,rfl,rfl⟩:=hk<;>(cases hp;exact⟨_,_,_,_,qas,qas,rfl⟩)
 obtain⟨ta,xa,rfl⟩:=ha.bO;obtain⟨tb,xb,rfl⟩:=hb.bO;have bA:=h.lt;have bP:Bq w ((w.alloc<|Cv #[Iv x1,Iv y1,Fv ta<|Av xa,Fv tb<|Av xb] T).alloc<|Cv #[Fv ta<|Av xa,Fv tb<|Av xb] 79):=(bw _).alloc ag _;have BR:=(xg (w.alloc<|Cv #[Iv x1,Iv y1,Fv ta<|Av xa,Fv tb<|Av xb] T) #[Fv ta<|Av xa,Fv tb<|Av xb] 79);have fK:(w.alloc<|Cv #[Iv x1,Iv y1,Fv ta<|Av xa,Fv tb<|Av xb] T).heap.size=w.heap.size+1:=ag;rw[fK]at BR
 have HC:=ai (KN (Q:=λb=>Q b\/b=w.heap.size+1) cn (by obtain⟨-,-,rfl⟩|⟨-,-,rfl⟩:=hk;exact j6 rfl;exact j5<|j6 rfl) [x,y] (some ⟨w.heap.size+1,0,none⟩) 2 (λi=>if i=0 then Fv ta (Av xa)else Fv tb (Av xb)) ag (h.af bP) (λb q=>by obtain q|q:=q;exact hQ b q;omega)
  (j5 ⟨w.heap.size+1,rfl,j5 rfl,ag,λi hi=>by
   have rO:i=0\/i=1:=MZ;rw[BR.c i]
   obtain rfl|rfl:=rO<;>rfl⟩)
  (λi hi=>by
   have rO:i=0\/i=1:=MZ;obtain rfl|rfl:=rO
   .exact(ha.af bP).wide λb p=>j6 p
   .exact(hb.af bP).wide λb p=>j6 p)
  (λi hi=>by
   have rO:i=0\/i=1:=MZ;obtain rfl|rfl:=rO
   .exact hx
   .exact hy) hn)
 obtain⟨rfl,rfl,rfl⟩|⟨rfl,rfl,rfl⟩:=hk;all_goals
  first|rw[kq]at HC|rw[ku]at HC
  exact yS
def akb s n L f t a(hl:L.length<=1001)(hL:∀i(h:i<L.length),OfC L[i]):OfC (.mk 2 s n L f t a):=by
 intro w kb fb cb mb ns Q v h hp hQ hn;have e:aI ns (.mk 2 s n L f t a)=(.aJ s (aG ns L).1,(aG ns L).2):=by simp[aI,g_]
 rw[e]at hn⊢
 cases hp with
 |up s n L f t at_ x y x' y' sa sc vs hu aN hr hx hy=>
 clear hx hy;have bP:Bq w (w.alloc<|Cv #[Iv x,Iv y,Iv x',Iv y',Sv s,Lv sa L.length sc] 150):=bw _
 have HC:=ai (KN (Q:=Q) s (j5<|j5 hu) L sa sc vs hl (h.af bP) hQ
  (aN.imp id λq=>by
   obtain⟨g,q1,q2,q3,q4⟩:=q
   exact⟨g,q1,q2,bD,λi hi=>(qm (a:=⟨g,i,none⟩)<|bP.block g q3).trans<|q4 i hi⟩)
  (λi hi=>(hr i hi).af bP) hL hn)
 rw[eS hu]at HC;clear aN hr;exact yS
def afh nd(h:ot nd):OfC nd:=by
 induction h with
 |var s n f t a=>exact O7 s n f t a|two k s n x y f t a hk hx hy lD rq=>
  obtain rfl|rfl:=hk
  .exact aaX (j6 ⟨rfl,rfl,rfl⟩) s n x y f t a lD rq
  .exact aaX (j5 ⟨rfl,rfl,rfl⟩) s n x y f t a lD rq
 |up s n L f t a hw hl hL ih=>exact akb s n L f t a hl ih
end
mutual
def m0:Nd->Ty
 |.mk k s _ L _ _ _=>.aJ (g_ k s)<|Xi L
def Xi:List Nd->List Ty
 |[]=>[]|x::l=>m0 x::Xi l
end
def yT:∀L,(Xi L).length=L.length
 |[]=>rfl|_::l=>by simp[Xi,yT l]
def Sg:∀(L:List Nd)(i:Nat)(h:i<L.length),(Xi L)[i]'(by rw[yT];exact h)=m0 L[i]
 |x::l,0,_=>rfl|x::l,i+1,h=>by simp only[Xi,jd];exact Sg l i Fe
inductive N0:Nd->Prop where
 |two(k:Nat)(s:BA)(n:Nat)(x y:Nd)(f t a:Nat)(hk:k=17\/k=6)(hx:N0 x)(hy:N0 y):N0 (.mk k s n [x,y] f t a)
 |up(s:BA)(n:Nat)(L:List Nd)(f t a:Nat)(hl:L.length<=1001)(hL:∀i(h:i<L.length),N0 L[i]):N0 (.mk 2 s n L f t a)
def GX:∀(L:List Nd),(∀i(h:i<L.length),∀ns,(∀n,¬aB n (aI ns<|es L[i]).1)->size (aI ns<|es L[i]).1<=1000->N0 L[i]/\aI ns (es L[i])=(m0 L[i],ns))->∀ns,(∀n,¬bX n (aG ns<|dz L).1)->ah (aG ns<|dz L).1<=1000->
 (∀i(h:i<L.length),N0 L[i])/\aG ns (dz L)=(Xi L,ns)/\L.length<=1000
 |[],_,ns,_,_=>⟨λi h=>absurd h ag,rfl,ag⟩|x::l,H,ns,ho,hz=>by
  simp only[dz,aG,bX,ah,not_or]at ho hz;have⟨h1,h2⟩:=H 0 ag ns (λn=>(ho n).1)<|j7 (Nat.le_add_right _ _) hz;have h2:aI ns (es x)=(m0 x,ns):=h2;rw[h2]at ho hz;have hz:size (m0 x)+ah (aG ns<|dz l).1<=1000:=hz;have⟨h3,h4,h5⟩:=GX l (λi hi=>H (i+1) bD) ns (λn=>(ho n).2) ae;have h6:1<=size (m0 x):=by cases x with|mk k s n L f t a=>simp only[m0,size];omega
  have h7:∀(l:List Ty),l.length<=ah l:=by
   intro l
   induction l with
   |nil=>simp
   |cons t l ih=>simp only[kh,ah];have:1<=size t:=by cases t<;>simp[size]
                 omega
  have h8:=h7<|Xi l;rw[h4]at hz;rw[yT]at h8;refine⟨λi hi=>?_,?_,?_⟩
  .cases i with
   |zero=>exact h1|succ i=>exact h3 i qBl
  .simp[dz,aG,h2,h4,Xi]
  .simp only at hz;simp only[kh];omega
def afF{w:World}{v}(h:PT w Q nd v):∀ns,(∀n,¬aB n (aI ns<|es nd).1)->size (aI ns<|es nd).1<=1000->N0 nd/\aI ns (es nd)=(m0 nd,ns):=by
 induction h with
 |var s n f t a x y hq hx hy=>
  intro ns ho _;exfalso;simp only[es,aI,if_true]at ho;exact ho _ rfl
 |fn s n a b f t at_ x y va vb ha hb Nz NA=>
  intro ns ho hz;have e0:∀k,k=17\/k=6->aI ns (es<|.mk k s n [a,b] f t at_)=(.aJ (g_ k s) (aG ns<|dz [a,b]).1,(aG ns<|dz [a,b]).2):=λk hk=>by obtain rfl|rfl:=hk<;>simp[es,aI]
  rw[e0 _<|j6 rfl]at ho hz⊢;simp only[size,aB]at ho hz
  have⟨h3,h4,h5⟩:=GX [a,b] (λi hi=>by
   have rO:i=0\/i=1:=MZ;obtain rfl|rfl:=rO
   .exact Nz
   .exact NA) ns ho ae
  refine⟨.two 17 s n a b f t at_ (j6 rfl) (h3 0 ag)<|h3 1 ag,?_⟩;rw[h4];simp[m0]
 |pr s n a b f t at_ x y va vb ha hb Nz NA=>
  intro ns ho hz;have e0:∀k,k=17\/k=6->aI ns (es<|.mk k s n [a,b] f t at_)=(.aJ (g_ k s) (aG ns<|dz [a,b]).1,(aG ns<|dz [a,b]).2):=λk hk=>by obtain rfl|rfl:=hk<;>simp[es,aI]
  rw[e0 _<|j5 rfl]at ho hz⊢;simp only[size,aB]at ho hz
  have⟨h3,h4,h5⟩:=GX [a,b] (λi hi=>by
   have rO:i=0\/i=1:=MZ;obtain rfl|rfl:=rO
   .exact Nz
   .exact NA) ns ho ae
  refine⟨.two 6 s n a b f t at_ (j5 rfl) (h3 0 ag)<|h3 1 ag,?_⟩;rw[h4];simp[m0]
 |up s n L f t at_ x y x' y' sa sc vs hu aN hr hx hy ih=>
  intro ns ho hz;have e0:aI ns (es<|.mk 2 s n L f t at_)=(.aJ (g_ 2 s) (aG ns<|dz L).1,(aG ns<|dz L).2):=by simp[es,aI]
  rw[e0]at ho hz⊢;simp only[size,aB]at ho hz;have⟨h3,h4,h5⟩:=GX L ih ns ho ae;refine⟨.up s n L f t at_ ae h3,?_⟩;rw[h4];simp[m0]
def aaY T w(e:Ending)w':=∃u,e=.returned u/\dD w' (λb=>w.heap.size<=b) T u/\Fr (λ_=>False) w w'
def aaY.up{T}{w w0 w':World}{e}(h:aaY T w0 e w')(hb:Bq w w0):aaY T w e w':=by
 obtain⟨u,h1,h2,h4⟩:=h;exact⟨u,h1,h2.wide λb p=>j7 hb.size p,(Fr.of hb).trans h4⟩
def Gl nd:=∀(w:World)(Q:Nat->Prop)(v:Value),PT w Q nd v->Cq 29 #[v,.nilFunc] w (aaY (m0 nd) w)
def aaZ(L:List Nd)w gk v wr:=
 ∃(j:Nat)(C:Array Value),Hid (gk=L.length-j)/\j<=L.length/\v=Nv j/\Fr (λ_=>False) w wr/\Bx wr w.heap.size C/\Hid (C.size=L.length)/\
  Hid (∀i(h:i<L.length),i<j->∃u,C[i]? =some u/\dD wr (λb=>w.heap.size<b/\b<wr.heap.size) (m0 L[i]) u)
section
variable {w:World}
def Eg c(Ae:CN c)L sa sc(vs:Nat->Value)(hL:L.length<=1001)(aN:L=[]\/∃g,sa=some ⟨g,0,none⟩/\Q g/\g<w.heap.size/\∀i,i<L.length->w.cell? ⟨g,i,none⟩=some (vs i))(hr:∀i(h:i<L.length),PT w Q L[i]<|vs i)(IH:∀i(h:i<L.length),Gl L[i]):
 Cq 53 #[.string<|pn c,.nilFunc,.slice sa L.length sc] w (aaY (.aJ c<|Xi L) w):=by
 obtain⟨i0,wY,og,l8,gR⟩:=info_parts gu;have Nw:=hH (by_:=16) eh wY og rfl l8 gR aw L.length hL;go_enter func53,ntmps53
 go_wp2
 go_loopg[15] L.length (λgk v wr=>aaZ L w gk v wr)
 case atStart=>
  exact⟨0,qg L.length .nilIface,ai ag,j8 _,rfl,Fr.of<|bw _,xg w _ _,ai ag,ai<|λi _ hi=>absurd hi ae⟩
 case round=>
  obtain⟨j,C,cV,hj,rfl,F1,B1,hC,hT⟩:=hrel;have zw:=F1.size;by_cases bh:j<L.length
  .have hd:(j:Int)<(L.length:Int):=ae;obtain⟨g,rfl,hg,iP,bQ⟩:∃g,sa=some ⟨g,0,none⟩/\Q g/\g<w.heap.size/\∀i,i<L.length->w.cell? ⟨g,i,none⟩=some (vs i):=by
    exact uD
   have cg:wr.cell? ⟨g,j,none⟩=some (vs j):=by
    rw[qm (a:=⟨g,j,none⟩) (w:=w)<|F1.block g iP id];exact bQ j bh
   have PJ:=(hr j bh).fr F1<|λb p _ q=>q;obtain⟨tv,xv,hv⟩:=PJ.bO;have HC:=IH j bh wr Q (vs j) PJ;rw[hv]at cg HC;go_wp2_with fail;refine HC.mono ?_;rintro e w1⟨u,rfl,HU,HF⟩;obtain⟨tu,xu,rfl⟩:=HU.iface;have B2:=B1.fr HF id;have sI:j<C.size:=qBh;have cj:=(B2.c j).trans<|qj sI;have fj:=B2.f j;have B3:=B2.aT j (.iface tu xu) (C.setIfInBounds j<|.iface tu xu) rfl sI;have yE:=F1.trans HF;have z2:=HF.size;have zb:=B1.z
   go_wp2
   go_roundg(L.length-(j+1))
   case measure=>rw[uh cV];omega
   case rel=>
    refine⟨j+1,C.setIfInBounds j<|.iface tu xu,ai rfl,ae,i_,yE.set (j5<|br _) j _,B3,ai (by simp;exact hC),ai<|λi hi hij=>?_⟩;have jA:∀b,w.heap.size<b->b<w1.heap.size->(w1.setCell ⟨w.heap.size,j,none⟩<|.iface tu xu).heap[b]? =w1.heap[b]? :=λb hb _=>qr _ _ _ _ (by show b≠w.heap.size;omega);have hss:(w1.setCell ⟨w.heap.size,j,none⟩<|.iface tu xu).heap.size=w1.heap.size:=zJ;by_cases e:i=j
    .subst e;refine⟨.iface tu xu,by simp[sI],?_⟩;exact HU.low.move ae (λb p z=>jA b qAy z)<|λb p z=>⟨qAy,ae⟩
    .obtain⟨u',wS,wU⟩:=uh hT i hi ae;refine⟨u',by rw[qh ae];exact wS,?_⟩;have h3:=wU.fr HF<|λb p _ q=>q;exact h3.move ae (λb p z=>jA b p.1 z)<|λb p z=>⟨p.1,ae⟩
  .have hd:decide ((j:Int)<(L.length:Int))=false:=bD;have ej:j=L.length:=ae;subst ej
   go_wp2
   go_ret;refine⟨_,rfl,?_,F1⟩;have hml:=yT L;rw[<-hml];refine .aJ c _ _ _ (λi=>C.getD i .nilIface) Ae (j5 ⟨w.heap.size,rfl,br _,B1.z,λi hi=>?_⟩)<|λi hi=>?_
   .obtain⟨u,hu,_⟩:=uh hT i ae ae;rw[B1.c i,hu];simp[qi,hu]
   .obtain⟨u,hu,UB⟩:=uh hT i ae ae;have:C.getD i .nilIface=u:=qBm;rw[this,Sg L i ae];exact UB.wide λb p=>qAu
end
section
variable {w:World}
def Sh(hk:k=17/\T=145/\cn=m9\/k=6/\T=147/\cn=lq)s n x y f t a(hx:Gl x)(hy:Gl y):Gl (.mk k s n [x,y] f t a):=by
 intro w Q v hp;have e:m0 (.mk k s n [x,y] f t a)=.aJ cn (Xi [x,y]):=by obtain⟨rfl,rfl,rfl⟩|⟨rfl,rfl,rfl⟩:=hk<;>simp[m0,g_]
 rw[e];obtain⟨x1,y1,va,vb,ha,hb,rfl⟩:∃x1 y1 va vb,PT w Q x va/\PT w Q y vb/\v=Fv T (Av #[Iv x1,Iv y1,va,vb]):=by obtain⟨rfl,rfl,rfl⟩|⟨rfl,rfl,rfl⟩:=hk<;>(cases hp;exact⟨_,_,_,_,qas,qas,rfl⟩)
 obtain⟨ta,xa,rfl⟩:=ha.bO;obtain⟨tb,xb,rfl⟩:=hb.bO;have bP:Bq w ((w.alloc<|Cv #[Iv x1,Iv y1,Fv ta<|Av xa,Fv tb<|Av xb] T).alloc<|Cv #[Fv ta<|Av xa,Fv tb<|Av xb] 79):=(bw _).alloc ag _;have BR:=(xg (w.alloc<|Cv #[Iv x1,Iv y1,Fv ta<|Av xa,Fv tb<|Av xb] T) #[Fv ta<|Av xa,Fv tb<|Av xb] 79);have fK:(w.alloc<|Cv #[Iv x1,Iv y1,Fv ta<|Av xa,Fv tb<|Av xb] T).heap.size=w.heap.size+1:=ag;rw[fK]at BR
 have HC:=ai (Eg (w:=((w.alloc<|Cv #[Iv x1,Iv y1,Fv ta<|Av xa,Fv tb<|Av xb] T).alloc<|Cv #[Fv ta<|Av xa,Fv tb<|Av xb] 79)) (Q:=λb=>Q b\/b=w.heap.size+1) cn (by obtain⟨-,-,rfl⟩|⟨-,-,rfl⟩:=hk;exact j6 rfl;exact j5<|j6 rfl) [x,y] (some ⟨w.heap.size+1,0,none⟩) 2 (λi=>if i=0 then Fv ta (Av xa)else Fv tb (Av xb)) ag
  (j5 ⟨w.heap.size+1,rfl,j5 rfl,ag,λi hi=>by
   have rO:i=0\/i=1:=MZ;rw[BR.c i]
   obtain rfl|rfl:=rO<;>rfl⟩)
  (λi hi=>by
   have rO:i=0\/i=1:=MZ;obtain rfl|rfl:=rO
   .exact(ha.af bP).wide λb p=>j6 p
   .exact(hb.af bP).wide λb p=>j6 p)
  (λi hi=>by
   have rO:i=0\/i=1:=MZ;obtain rfl|rfl:=rO
   .exact hx
   .exact hy))
 obtain⟨rfl,rfl,rfl⟩|⟨rfl,rfl,rfl⟩:=hk;all_goals
  first|rw[kq]at HC|rw[ku]at HC
  exact yS
def ahz s n L f t a(hl:L.length<=1001)(hL:∀i(h:i<L.length),Gl L[i]):Gl (.mk 2 s n L f t a):=by
 intro w Q v hp;have e:m0 (.mk 2 s n L f t a)=.aJ s (Xi L):=by simp[m0,g_]
 rw[e]
 cases hp with
 |up s n L f t at_ x y x' y' sa sc vs hu aN hr hx hy=>
 clear hx hy;have bP:Bq w (w.alloc<|Cv #[Iv x,Iv y,Iv x',Iv y',Sv s,Lv sa L.length sc] 150):=bw _
 have HC:=ai (Eg (Q:=Q) s (j5<|j5 hu) L sa sc vs hl
  (aN.imp id λq=>by
   obtain⟨g,q1,q2,q3,q4⟩:=q
   exact⟨g,q1,q2,bD,λi hi=>(qm (a:=⟨g,i,none⟩)<|bP.block g q3).trans<|q4 i hi⟩)
  (λi hi=>(hr i hi).af bP) hL)
 rw[eS hu]at HC;clear aN hr;exact yS
def afG nd(h:N0 nd):Gl nd:=by
 induction h with
 |two k s n x y f t a hk hx hy lD rq=>
  obtain rfl|rfl:=hk
  .exact Sh (j6 ⟨rfl,rfl,rfl⟩) s n x y f t a lD rq
  .exact Sh (j5 ⟨rfl,rfl,rfl⟩) s n x y f t a lD rq
 |up s n L f t a hl hL ih=>exact ahz s n L f t a hl ih
end
mutual
def nz:Nd->Nat
 |.mk _ _ _ L _ _ _=>1+nzL L
def nzL:List Nd->Nat
 |[]=>0|x::l=>nz x+nzL l
end
section
variable {w:World}
def lA:∀(L:List Ty)(i:Nat)(h:i<L.length),ah (L.take<|i+1)=ah (L.take i)+size L[i]
 |[],i,h=>yl|x::l,0,h=>by simp[ah]|x::l,i+1,h=>by simp only[ja,ah,jd];rw[lA l i Fe];omega
def eR:∀(L:List Ty)(i:Nat),ah (L.take i)<=ah L
 |[],i=>ag|x::l,0=>by simp[ah]|x::l,i+1=>by simp only[ja,ah];have:=eR l i;omega
def pX:∀(L:List Ty),L.length<=ah L
 |[]=>ag|x::l=>by
  have h1:=pX l;have h2:1<=size x:=by cases x<;>simp[size]
  simp only[ah,kh];omega
@[simp] theorem al7 a w:(qt (.iface 85 a) 56 153 true).run qp w=.ok (.tuple #[.agg #[.string ⟨#[]⟩,.slice none 0 0],.bool false]) w:=qkr
@[simp] theorem agj a b w:(qt (.iface 153<|.agg #[a,b]) 56 153 true).run qp w=.ok (.tuple #[.agg #[a,b],.bool true]) w:=qkr
def Si(T:Ty):=∀(w:World)(P:Nat->Prop)(v:Value),dD w P T v->size T<=1000->Cq 30 #[v] w λe w'=>e=.returned (Nv<|size T)/\Bq w w'
def aa0(L:List Ty)(w:World)(gk:Nat)(sz v:Value)(wr:World):=
 ∃j:Nat,Hid (gk=L.length-j)/\j<=L.length/\v=Nv j/\sz=.int .i64 ((1+ah (L.take j):Nat):Int)/\Bq w wr
def VT n:Si (.var n):=by
 intro w P v h hs
 cases h
 go_enter func30,ntmps30
 go_wp2
 go_ret;exact⟨rfl,bw _⟩
def VU c L(IH:∀i(h:i<L.length),Si L[i]):Si (.aJ c L):=by
 intro w P v h hs;simp only[size]at hs⊢
 cases h with
 |aJ c L sa sc vs hc aN hr=>
 go_enter func30,ntmps30
 go_wp2
 go_loopg[3,17] L.length (λgk sz v wr=>aa0 L w gk sz v wr)
 case atStart=>exact⟨0,ai ag,j8 _,rfl,by simp[ah],bw _⟩
 case round=>
  obtain⟨j,cV,hj,rfl,rfl,hb⟩:=hrel;have hsl:=eR L j;have JT:=pX L;by_cases bh:j<L.length
  .have hd:(j:Int)<(L.length:Int):=ae;obtain⟨g,rfl,hg,iP,bQ⟩:∃g,sa=some ⟨g,0,none⟩/\P g/\g<w.heap.size/\∀i,i<L.length->w.cell? ⟨g,i,none⟩=some (vs i):=by
    exact uD
   have cg:=(qm (a:=⟨g,j,none⟩)<|hb.block g iP).trans<|bQ j bh;have TJ:=(hr j bh).af hb;have⟨tv,xv,hv⟩:=TJ.iface;have e1:=lA L j bh;have e2:=eR L<|j+1;have HC:=IH j bh wr P (vs j) TJ ae;rw[hv]at cg HC;go_wp2_with(go_at_call 30;refine HC.mono ?_;rintro e w1⟨rfl,bZ⟩;have dA:=ai<|hb.trans<|bZ.mono hb.size;clear bZ);go_roundg(L.length-(j+1))
   case measure=>rw[uh cV];omega
   case rel=>exact⟨j+1,ai rfl,ae,i_,by rw[e1];go_num,dA⟩
  .have hd:decide ((j:Int)<(L.length:Int))=false:=bD;have ej:j=L.length:=ae;subst ej;rw[jf]
   go_wp2
   go_ret;exact⟨rfl,hb⟩
def Sj:∀(T:Ty),Si T
 |.var n=>VT n|.aJ c L=>VU c L λi h=>Sj L[i]
termination_by T=>SizeOf.sizeOf T
decreasing_by
 have h2:=List.sizeOf_lt_of_mem<|jt h;simp;omega
end
section
variable {w:World}
def tG:Cq 19 #[] w λe w'=>e=.returned (.func (.func 32) #[] #[Pv w.heap.size])/\w'=w.alloc (.cells #[Iv 0] 3):=by
 go_enter func19,ntmps19
 go_wp2
 go_ret;exact⟨rfl,rfl⟩
def FD cb(hB:Bx w cb #[Iv 0]):Cq 18 #[.func (.func 32) #[] #[Pv cb]] w λe w'=>∃kb fb mb,e=.returned (nmV kb fb)/\NM w' kb fb cb mb []/\Bq w w'/\w.heap.size<=mb:=by
 have iZ:= @run_makeMap Tryz.prog;have z:=hB.z;have HB:=ai hB;go_enter func18,ntmps18
 go_wp2
 go_ret;have bP:=(((qs w.heap.size w).alloc (br _)<|Cv #[.func (.func 32) #[] #[Pv cb]] 61).alloc ag<|.map #[] 0).alloc bD<|Cv #[Mv<|w.heap.size+1] 84;refine⟨w.heap.size+1+1,w.heap.size,w.heap.size+1,rfl,⟨?_,?_,?_,?_,ag,ag,ae⟩,bP,ae⟩
 .have:=xg ((w.alloc<|Cv #[.func (.func 32) #[] #[Pv cb]] 61).alloc<|.map #[] 0) #[Mv<|w.heap.size+1] 84;simpa using this
 .exact((xg w _ _).alloc _).alloc _
 .exact((HB.alloc _).alloc _).alloc _
 .have:=(MS.new Sv<|w.alloc<|Cv #[.func (.func 32) #[] #[Pv cb]] 61).below<|bw<|Cv #[Mv<|w.heap.size+1] 84;simpa[nmF]using this
end
end
end Go.Proofs.YtlnlhlefeokfjaaGreatDoor

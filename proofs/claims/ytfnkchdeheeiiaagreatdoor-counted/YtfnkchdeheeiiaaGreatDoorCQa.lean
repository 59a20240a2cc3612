import Derived.Laws.AppendOwnNone
import Derived.Shelf.SlMaps.Clone
import Derived.Test.YtfnkchdeheeiiaaGreatDoorCPf
import Derived.Test.YtfnkchdeheeiiaaGreatDoorCWj
import Derived.Test.YtfnkchdeheeiiaaGreatDoorCTo
set_option linter.all false
set_option maxRecDepth 100000
set_option maxHeartbeats 4000000
namespace Go.Proofs.YtfnkchdeheeiiaaGreatDoor
open _root_.List renaming take_succ_cons->ja,getElem?_eq_getElem->jc,getElem_cons_succ->jd,take_length->jf,map_cons->jh,take_succ_eq_append_getElem->ji,mem_cons_of_mem->jj,eq_nil_of_length_eq_zero->jk,append_assoc->jl,mem_cons->jm,nodup_cons->jo,mem_map_of_mem->jp,foldl_append->jq,getElem_mem->jt,getD_eq_getElem?_getD->ju,nodup_append->jv,map_append->jx,length_map->jy,foldl_cons->jz,map_nil->j3
open Or renaming inr->j5,inl->j6
open _root_.Nat renaming le_trans->j7,zero_le->j8,strongRecOn->j9,lt_of_lt_of_le->qc,mul_le_mul->qd
open _root_.Array renaming replicate->qe,getElem?_setIfInBounds_ne->qf,getD_eq_getD_getElem?->qg,getElem?_eq_getElem->qh,getElem?_setIfInBounds->qi,toList_modify->qk
open Go.Proofs.Tryz renaming prog->ql,underlying98->qm,underlying171->qn
open Go.World renaming cell?_of_block->qp,ownsRow_nil->qr
open Go.RowKit.Below renaming heap_setCell->qs,refl->qt
open Go.Instr renaming typeAssert->qu,lookup->qv,mapUpdate->qw,next->qx
open Go.Value renaming string->qy,iface->qz,int->q9,slice->xc
open Un renaming seen->xd
open Go.MapKept renaming heap_alloc->xf,run_setObj_map->xg
open Bx renaming new->xh
open Go.Result renaming andThen->xi
open Classical renaming propDecidable->xj
open _root_.ByteArray renaming toList->xk
open Go Go.RowKit Go.ChangeMaps Proofs.Tryz
variable {ops:Array Oper} {cs:Array Value} {c cn s:BA} {L:List (Int×Value)} {ns:List BA} {V acc l l':List Nat} {N:List Nat->Nat->Prop} {rest:List Oper} {xs:List Value} {base by_ cb fb g gb k kb mb n r:Nat} {D D1 K:Nat->Option Un.Ty} {P Q S:Nat->Prop} {R:Nat->Un.Ty} {nd:Nd} {o:Oper} {κ:Type} {e:TypeId} {i:TypeInfo} {T t x y:Un.Ty} {u z:Value} {W w' w0:World}
section
open Un
def tl(s:BA):BA:=s.extract 1 s.size
def NH(s:BA):=∃r,s.toList=39::r
def vI{r}(h:s.toList=39::r):(tl s).toList=r:=by
 rw[tl];rw[ByteArray.toList_eq]at h⊢;rw[ByteArray.data_extract];simp;rw[h];have:s.size=(39::r).length:=by rw[<-h];simp
 rw[this];simp
def Wk{t}(hs:NH s)(ht:NH t)(h:tl s=tl t):s=t:=by
 obtain⟨r,hr⟩:=hs;obtain⟨q,hq⟩:=ht;have:r=q:=by rw[<-vI hr,<-vI hq,h]
 exact toList_inj (by rw[hr,hq,this])
def Wl:Nat->List BA->List (BA×Value)
 |_,[]=>[]|i,a::l=>(tl a,Iv<|(i:Int)+1)::Wl (i+1) l
def GB(s:BA):∀l i,Wl i (l++[s])=Wl i l++[(tl s,Iv<|((i+l.length:Nat):Int)+1)]
 |[],i=>by simp[Wl]|a::l,i=>by
  simp only[List.cons_append,Wl,GB s l<|i+1];simp;omega
def Wm{s:BA}(hs:NH s):∀l i,(∀a∈l,NH a)->s∈l->aY (tl s) (Wl i l)=some (Iv<|((i+ix s l:Nat):Int)+1)
 |[],i,_,h=>tP|a::l,i,h,hm=>by
  rw[Wl,aY];by_cases e:tl a=tl s
  .have:a=s:=Wk (h a ag) hs e;subst this;simp[ix]
  .have dw:¬s=a:=λq=>e (by rw[q]);have hx:ix s (a::l)=ix s l+1:=by
    show(if a.toList=s.toList then 0 else ix s l+1)=_;rw[if_neg<|λq=>dw (toList_inj q).symm]
   rw[if_neg e,Wm hs l (i+1) (λb hb=>h b<|jj _ hb)<|(List.mem_cons.1 hm).resolve_left dw,hx];congr 2;omega
def NI{s:BA}(hs:NH s):∀l i,(∀a∈l,NH a)->¬s∈l->aY (tl s) (Wl i l)=none
 |[],i,_,_=>rfl|a::l,i,h,hm=>by
  rw[Wl,aY];have e:¬tl a=tl s:=λq=>hm<|List.mem_cons.2<|j6 (Wk (h a ag) hs q).symm;rw[if_neg e];exact NI hs l (i+1) (λb hb=>h b<|jj _ hb)<|λq=>hm<|jj _ q
structure NM w kb fb cb mb(ns:List BA):Prop where
 bk:Bx w kb #[Mv mb]
 bf:Bx w fb #[.func (.func 47) #[] #[Pv cb]]
 bc:Bx w cb #[Nv ns.length]
 mp:MS qy w mb (Wl 0 ns)
 qo:∀a∈ns,NH a
 nd:ns.Nodup
 d1:cb≠kb/\cb≠fb/\cb≠mb/\mb≠kb/\mb≠fb
abbrev nmV(kb fb:Nat):Value:=.func (.func 46) #[] #[Pv kb,Pv fb]
def Zp cb mb(b:Nat):=b=cb\/b=mb
def NM.fr{S}{w w'}{kb fb cb mb}{ns}(h:NM w kb fb cb mb ns)(hf:Fr S w w')(hS:∀b,S b->b≠kb/\b≠fb/\b≠cb/\b≠mb):NM w' kb fb cb mb ns:=
 ⟨h.bk.fr hf<|λq=>(hS _ q).1 rfl,h.bf.fr hf<|λq=>(hS _ q).2.1 rfl,h.bc.fr hf<|λq=>(hS _ q).2.2.1 rfl,h.mp.same<|hf.block mb h.mp.lt<|λq=>(hS _ q).2.2.2 rfl,h.qo,h.nd,h.d1⟩
def NM.af{w:World}(h:NM w kb fb cb mb ns)(hb:Bq w w'):NM w' kb fb cb mb ns:=h.fr (S:=λ_=>False) (Fr.of hb)<|λ_ q=>q.elim
def NM.set{w}{kb fb cb mb}{ns}(h:NM w kb fb cb mb ns){b}(hb:b≠kb/\b≠fb/\b≠cb/\b≠mb)j v:NM (w.setCell ⟨b,j,none⟩ v) kb fb cb mb ns:=
 h.fr (S:=λx=>x=b) ((Fr.refl (λx=>x=b) w).set (j6 rfl) j v) (λx q=>by subst q;exact hb)
section
variable {w:World}
def aaD w:(zeroValue 98).run ql w=.ok (Iv 0) w:=qkr
def KP n(hn:n<=2000)(h:Bx w cb #[Nv n]):Cq 47 #[Pv cb] w λe w'=>e=.returned (Iv<|(n:Int)+1)/\w'=w.setCell ⟨cb,0,none⟩ (Iv<|(n:Int)+1):=by
 obtain⟨c,f,z⟩:=h;go_enter func47,ntmps47
 go_wp2
 go_ret;exact⟨rfl,rfl⟩
def KR kb fb cb mb ns s w(e:Ending)w':=
 e=.returned (.iface 98<|Iv<|(ix s (nV s ns):Int)+1)/\NM w' kb fb cb mb (nV s ns)/\Fr (Zp cb mb) w w'
def GC(h:NM w kb fb cb mb ns)s(hs:NH s)(hn:ns.length<=2000):Cq 46 #[.string<|tl s,Pv kb,Pv fb] w (KR kb fb cb mb ns s w):=by
 have hl:=h.mp.look (KL.str Tryz.underlying9) Tryz.underlying97 (aaD w) (tl s) trivial (λ_ _=>trivial) true;have⟨c,f,z⟩:=h.bk;have⟨cf,ff,zf⟩:=h.bf;by_cases hm:s∈ns
 .rw[Wm hs ns 0 h.qo hm]at hl;simp at hl;go_enter func46,ntmps46
  go_wp2
  go_ret;rw[KR];rw[MQ hm];exact⟨rfl,h,Fr.refl _ _⟩
 .have hg:=NI hs ns 0 h.qo hm;rw[hg]at hl;simp at hl;have hd:=h.d1;have o8:=c 0;have HM:=h.mp.sQ hd.2.2.1.symm 0<|Iv<|(ns.length:Int)+1;have BK:=ai<|h.bk.bN hd.1.symm 0<|Iv<|(ns.length:Int)+1;have BF:=ai<|h.bf.bN hd.2.1.symm 0<|Iv<|(ns.length:Int)+1;have BC:=h.bc.aO 0 (Iv<|(ns.length:Int)+1) #[Iv<|(ns.length:Int)+1] rfl ag;have F1:=(Fr.refl (Zp cb mb) w).set (b:=cb) (Or.inl<|Or.inl rfl) 0<|Iv<|(ns.length:Int)+1;have⟨c1,f1,z1⟩:=uh BK;go_enter func46,ntmps46;go_wp2_with(first|(go_at_call 47;refine(KP ns.length ae h.bc).mono ?_;rintro e w'⟨rfl,rfl⟩)|(refine aU _ rfl _ _ _ _ (Or.inr rfl) (KL.str Tryz.underlying9) Tryz.underlying97 _ _ rfl HM (tl s) (Iv<|(ns.length:Int)+1) rfl rfl trivial (λ_ _=>trivial) ?_;intro w' H' O';have AD:=ai H';have O2:=ai O';clear H' O'));go_ret;have e1:=Wn hm;have e2:=NJ hm;rw[KR];rw[e1,e2];have O:=uh O2;refine⟨rfl,⟨BK.one O hd.2.2.2.1.symm,BF.one O hd.2.2.2.2.symm,?_,?_,?_,?_,hd⟩,?_⟩
  .have:=BC.one O hd.2.2.1;simpa using this
  .have:=uh AD;rw[nF _ _ _ hg]at this;rw[GB];simpa using this
  .intro a ha;obtain q|q:=List.mem_append.1 ha
   .exact h.qo a q
   .simp at q;subst q;exact hs
  .rw[jv];refine⟨h.nd,ag,λa ha b hb=>?_⟩;simp at hb;subst hb;intro e;subst e;exact hm ha
  .have f1:=F1;exact⟨O.os.trans f1.os,O.tape.trans f1.tape,O.output.trans f1.output,by rw[O.size];exact f1.size,λk hk hn=>(O.block k<|λe=>hn<|j5 e).trans<|f1.block k hk hn⟩
end
def pn(c:BA):BA:=if c.toList=[62]then⟨#[45,62]⟩else c
def CN c:=c=ot\/c=lT\/mN c
def jM:pn ot=⟨#[45,62]⟩:=by simp_all[pn]
def jN:pn lT=⟨#[44]⟩:=by simp_all[pn]
def cP(h:mN c)x r(hx:Pu.zE x.toNat=false):c.toList≠x::r:=by grind[mN]
def eJ(h:mN c):pn c=c:=by rw[pn];rw[if_neg<|cP h 62 [] aK]
inductive dE(w:World)(P:Nat->Prop):Ty->Value->Prop where
 |var(n:Nat):dE w P (.var n) (.iface 98<|Nv n)
 |aH(c:BA)(L:List Ty)(sa:Option Addr)(sc:Nat)(vs:Nat->Value)(hc:CN c)(aN:L=[]\/∃g,sa=some ⟨g,0,none⟩/\P g/\g<w.heap.size/\∀i,i<L.length->w.cell? ⟨g,i,none⟩=some (vs i))(hr:∀i(h:i<L.length),dE w P L[i]<|vs i):
  dE w P (.aH c L) (.iface 169<|.agg #[.string<|pn c,.slice sa L.length sc])
def NK{p:Prop}(h:p:=by
 induction h with
 |var n=>exact .var n|aH c L sa sc vs hc aN hr ih=>
  refine .aH c L sa sc vs hc ?_ ih;obtain h0|⟨g,h1,hP,hz,hc⟩:=aN
  .exact j6 h0
  .refine j5 ⟨g,h1,hq g hP hz,qc hz hs,λi hi=>?_⟩;rw[qp (a:=⟨g,i,none⟩) (w:=w)<|hb g hP hz]
   exact hc i hi):p:=h
theorem dE.move{w:World}{v:Value}(h:dE w P t v)(hs:w.heap.size<=w'.heap.size)(hb:∀b,P b->b<w.heap.size->w'.heap[b]? =w.heap[b]?)(hq:∀b,P b->b<w.heap.size->Q b):dE w' Q t v:=by
 exact NK
def dE.af{w:World}{v:Value}(h:dE w P t v)(hb:Bq w w'):dE w' P t v:=h.move hb.size (λb _ hz=>hb.block b hz)<|λ_ p _=>p
def dE.wide{w:World}{v:Value}(h:dE w P t v)(hq:∀b,P b->Q b):dE w Q t v:=h.move (br _) (λ_ _ _=>rfl)<|λb p _=>hq b p
def dE.fr{w:World}{v:Value}(h:dE w P t v)(hf:Fr S w w')(hS:∀b,P b->b<w.heap.size->¬S b):dE w' P t v:=h.move hf.size (λb p z=>hf.block b z<|hS b p z)<|λ_ p _=>p
def dE.low{w:World}{v:Value}(h:dE w P t v):dE w (λb=>P b/\b<w.heap.size) t v:=h.move (br _) (λ_ _ _=>rfl)<|λ_ p z=>⟨p,z⟩
def dE.iface{w:World}{v:Value}(h:dE w P t v):∃a x,v=.iface a x:=by
 cases h<;>exact⟨_,_,rfl⟩
def PT.fr{w:World}{v:Value}(h:PT w P nd v)(hf:Fr S w w')(hS:∀b,P b->b<w.heap.size->¬S b):PT w' P nd v:=h.move hf.size (λb p z=>hf.block b z<|hS b p z)<|λ_ p _=>p
def PT.bJ{w:World}{a}{v:Value}(h:PT w P a v):∃t x,v=.iface t (.agg x):=by
 cases h<;>exact⟨_,_,rfl⟩
def xS z n:madeCells #[z] n=qe n z:=by
 rw[madeCells];apply Array.ext
 .simp
 .grind
def NN{p:Prop}(h:p:=by
 rw[run_make w t e i z ht hi hz .i64 .i64 n n ae (Int.le_refl _) hb ae,hzc,h1]
 simp[xS]):p:=h
def GD{p:Prop}(h:p:=by
 have h3:((by_*n:Nat):Int)<=281474976710656:=ae
 rwa[Int.natCast_mul]at h3):p:=h
def iV{P}{t}(ht:P.underlying t=some (.slice e))(hi:P.info? e=some i)(hz:i.zero=some z)(hzc:z.cells=#[z])(h1:i.size=1)(h2:i.bytes=by_)(hby:by_<=16)n(hn:n<=1001)w:
 (Instr.makeSlice t (Nv n)<|Nv n).run P w=.ok (.slice (some ⟨w.heap.size,0,none⟩) n n) (w.alloc<|.cells (qe n z) e):=by
 have hb:(i.bytes:Int)*(n:Int)<=281474976710656:=by
  rw[h2];have:by_*n<=16*1001:=qd hby hn;exact GD
 exact NN
def fU:(Tryz.prog.info? 67).map (λi=>(i.zero,i.size,i.bytes))=some (some .nilIface,1,16):=qkr
def d_:Tryz.prog.underlying 167=some (.slice 67):=qkr
def rM kb fb cb mb(ns:List BA)T ns' w(e:Ending)w':=
 ∃u,e=.returned u/\dE w' (λb=>w.heap.size<=b) T u/\NM w' kb fb cb mb ns'/\Fr (Zp cb mb) w w'
def OfC nd:=∀(w:World)(kb fb cb mb:Nat)(ns:List BA)(Q:Nat->Prop)(v:Value),NM w kb fb cb mb ns->PT w Q nd v->(∀b,Q b->b≠cb/\b≠mb)->(aI ns nd).2.length<=2000->
 Cq 44 #[v,nmV kb fb] w (rM kb fb cb mb ns (aI ns nd).1 (aI ns nd).2 w)
def NM.lt{w}{kb fb cb mb}{ns}(h:NM w kb fb cb mb ns):kb<w.heap.size/\fb<w.heap.size/\cb<w.heap.size/\mb<w.heap.size:=⟨h.bk.z,h.bf.z,h.bc.z,h.mp.lt⟩
def uv ns:∀(L:List Nd)(i:Nat)(h:i<L.length),(aA ns<|L.take<|i+1).1=(aA ns<|L.take i).1++[(aI (aA ns<|L.take i).2 L[i]).1]/\(aA ns<|L.take<|i+1).2=(aI (aA ns<|L.take i).2 L[i]).2:=by
 intro L
 induction L generalizing ns with
 |nil=>intro i h;simp at h|cons x l ih=>
  intro i h
  cases i with
  |zero=>simp[aA]|succ i=>
   have:=ih (aI ns x).2 i DQ;simp only[ja,aA,this,jd];simp
def aaE kb fb cb mb ns(L:List Nd)w gk v wr:=
 ∃(j:Nat)(C:Array Value),Hid (gk=L.length-j)/\j<=L.length/\v=Nv j/\NM wr kb fb cb mb (aA ns<|L.take j).2/\Fr (Zp cb mb) w wr/\Bx wr w.heap.size C/\Hid (C.size=L.length)/\
  Hid (∀i(h:i<(aA ns<|L.take j).1.length),∃u,C[i]? =some u/\dE wr (λb=>w.heap.size<b/\b<wr.heap.size) (aA ns<|L.take j).1[i] u)
section
variable {w:World}
def gL ns:∀(L:List Nd),(aA ns L).1.length=L.length:=by
 intro L
 induction L generalizing ns with
 |nil=>rfl|cons x l ih=>simp[aA,ih]
def zQ ns L i:(aA ns<|L.take i).2.length<=(aA ns L).2.length:=by
 induction L generalizing ns i with
 |nil=>simp|cons x l ih=>
  cases i with
  |zero=>simp only[List.take_zero];exact sZ (x::l) ns|succ i=>simp only[ja,aA];exact ih _ i
def rN{p:Prop}(h:p:=by
 obtain h0|h0:=aN
 .subst h0;simp at bh
 .exact h0):p:=h
def GF c(AE:CN c)L sa sc(vs:Nat->Value)(hL:L.length<=1001)(h:NM w kb fb cb mb ns)(hQ:∀b,Q b->b≠cb/\b≠mb)(aN:L=[]\/∃g,sa=some ⟨g,0,none⟩/\Q g/\g<w.heap.size/\∀i,i<L.length->w.cell? ⟨g,i,none⟩=some (vs i))(hr:∀i(h:i<L.length),PT w Q L[i]<|vs i)(IH:∀i(h:i<L.length),OfC L[i])(hn:(aA ns L).2.length<=2000):
 Cq 71 #[.string<|pn c,nmV kb fb,.slice sa L.length sc] w (rM kb fb cb mb ns (.aH c (aA ns L).1) (aA ns L).2 w):=by
 obtain⟨i0,vH,oW,lY,kE⟩:=info_parts fU;have Ti:=iV (by_:=16) d_ vH oW rfl lY kE aK L.length hL;have bA:=h.lt;go_enter func71,ntmps71
 go_wp2
 go_loopg[15] L.length (λgk v wr=>aaE kb fb cb mb ns L w gk v wr)
 case atStart=>
  refine⟨0,qe L.length .nilIface,ai ag,j8 _,rfl,?_,Fr.of<|bw _,xh w _ _,ai ag,ai<|λi hi=>absurd hi<|by simp[aA]⟩;simpa[aA]using h.af (bw _)
 case round=>
  obtain⟨j,C,c_,hj,rfl,N1,F1,B1,hC,hT⟩:=hrel;have zw:=F1.size;have n1:=N1.lt;by_cases bh:j<L.length
  .have hd:(j:Int)<(L.length:Int):=ae;obtain⟨g,rfl,hg,kC,bU⟩:∃g,sa=some ⟨g,0,none⟩/\Q g/\g<w.heap.size/\∀i,i<L.length->w.cell? ⟨g,i,none⟩=some (vs i):=by
    exact rN
   have hQg:=hQ g hg;have cg:wr.cell? ⟨g,j,none⟩=some (vs j):=by
    rw[qp (a:=⟨g,j,none⟩) (w:=w)<|F1.block g kC (λq=>by obtain q|q:=q;exact hQg.1 q;exact hQg.2 q)];exact bU j bh
   have PJ:=(hr j bh).fr F1 (λb p _ q=>by obtain q|q:=q;exact(hQ b p).1 q;exact(hQ b p).2 q);obtain⟨tv,xv,hv⟩:=PJ.bJ;obtain⟨mt1,mt2⟩:=uv ns L j bh;have hnj:(aI (aA ns<|L.take j).2 L[j]).2.length<=2000:=by rw[<-mt2];exact j7 (zQ ns L<|j+1) hn
   have HC:=IH j bh wr kb fb cb mb _ Q (vs j) N1 PJ hQ hnj;rw[hv]at cg HC;go_wp2_with fail;refine HC.mono ?_;rintro e w1⟨u,rfl,HU,HN2,HF⟩;obtain⟨tu,xu,rfl⟩:=HU.iface;have hpb:¬Zp cb mb w.heap.size:=λq=>by obtain q|q:=q<;>omega
   have B2:=B1.fr HF hpb;have uw:j<C.size:=qBh;have cj:=(B2.c j).trans<|qh uw;have fj:=B2.f j;have B3:=B2.aO j (.iface tu xu) (C.setIfInBounds j<|.iface tu xu) rfl uw;have yN:=F1.trans HF;have z2:=HF.size
   go_wp2
   go_roundg(L.length-(j+1))
   case measure=>rw[uh c_];omega
   case rel=>
    have KS:(aA ns<|L.take j).1.length=j:=by rw[gL];simp;omega
    refine⟨j+1,C.setIfInBounds j<|.iface tu xu,ai rfl,ae,iF,?_,?_,B3,ai (by simp;exact hC),ai<|λi hi=>?_⟩
    .rw[mt2];exact HN2.set ae j _
    .exact yN.set (j5<|br _) j _
    .have iC:∀b,w.heap.size<b->b<w1.heap.size->(w1.setCell ⟨w.heap.size,j,none⟩<|.iface tu xu).heap[b]? =w1.heap[b]? :=λb hb _=>qs _ _ _ _ (by show b≠w.heap.size;omega);have Zq:(w1.setCell ⟨w.heap.size,j,none⟩<|.iface tu xu).heap.size=w1.heap.size:=xH;have zP:i<j+1:=by rw[mt1]at hi;simp[KS]at hi;omega
     by_cases e:i=j
     .subst e;refine⟨.iface tu xu,by simp[uw],?_⟩;have e1:(aA ns<|L.take<|i+1).1[i]'hi=(aI (aA ns<|L.take i).2 L[i]).1:=by
       have:(aA ns<|L.take<|i+1).1[i]? =some (aI (aA ns<|L.take i).2 L[i]).1:=by rw[mt1,List.getElem?_append_right ae];simp[KS]
       rw[jc hi]at this;exact Option.some.inj this
      rw[e1];refine HU.low.move ae (λb p z=>iC b (by have:wr.heap.size<=b:=p.1;have:=B1.z;omega) z) (λb p z=>⟨by have:wr.heap.size<=b:=p.1;have:=B1.z;omega,ae⟩)
     .have pT:i<(aA ns<|L.take j).1.length:=ae;obtain⟨u',ux,uy⟩:=uh hT i pT;have e1:(aA ns<|L.take<|j+1).1[i]'hi=(aA ns<|L.take j).1[i]'pT:=by
       have:(aA ns<|L.take<|j+1).1[i]? =some ((aA ns<|L.take j).1[i]'pT):=by rw[mt1,List.getElem?_append_left pT,jc pT]
       rw[jc hi]at this;exact Option.some.inj this
      refine⟨u',by rw[qf ae];exact ux,?_⟩;rw[e1];have h3:=uy.fr HF (λb p _ q=>by obtain q|q:=q<;>omega);exact h3.move ae (λb p z=>iC b p.1 z)<|λb p z=>⟨p.1,ae⟩
  .have hd:decide ((j:Int)<(L.length:Int))=false:=bQ;have ej:j=L.length:=ae;subst ej
   go_wp2
   go_ret;refine⟨_,rfl,?_,?_,F1⟩
   .have ht:L.take L.length=L:=jf;rw[ht]at hT;have Vh:=gL ns L;rw[<-Vh];refine .aH c _ _ _ (λi=>C.getD i .nilIface) AE (j5 ⟨w.heap.size,rfl,br _,B1.z,λi hi=>?_⟩)<|λi hi=>?_
    .obtain⟨u,hu,_⟩:=uh hT i hi;rw[B1.c i,hu];simp[qg,hu]
    .obtain⟨u,hu,Qv⟩:=uh hT i hi;have:C.getD i .nilIface=u:=qBm;rw[this];exact Qv.wide λb p=>qAu
   .rw[jf]at N1;exact N1
end
def rM.up{ns'}{w:World}{e}(h:rM kb fb cb mb ns T ns' w0 e w')(hb:Bq w w0):rM kb fb cb mb ns T ns' w e w':=by
 obtain⟨u,h1,h2,h3,h4⟩:=h;exact⟨u,h1,h2.wide λb p=>j7 hb.size p,h3,(Fr.of hb).trans h4⟩
section
variable {w:World}
def KT s n f t a:OfC (.mk 16 s n [] f t a):=by
 intro w kb fb cb mb ns Q v h hp hQ hn;have e:aI ns (.mk 16 s n [] f t a)=(.var<|ix s (nV s ns)+1,nV s ns):=by simp[aI]
 rw[e]at hn⊢;have QT:ns.length<=2000:=by have:=GG s ns;simp at hn;omega
 cases hp with
 |var s n f t a x y hq hx hy=>
 clear hx hy;have bR:Bq w (w.alloc<|Cv #[Iv x,Iv y,Sv<|s.extract 1 s.size] 159):=bw _;have HC:=GC (h.af bR) s hq QT;go_enter func44,ntmps44;go_wp2_with fail;refine HC.mono ?_;rintro e w1⟨rfl,N1,F1⟩
 go_wp2
 go_ret;exact⟨_,rfl,.var _,N1,(Fr.of bR).trans F1⟩
def vJ{p:Prop}(h:p:=by
 go_enter func44,ntmps44;go_wp2_with fail;refine HC.mono ?_;intro e w1 hp;have hp2:=hp.up bR;obtain⟨u,rfl,_⟩:=hp
 go_wp2
 go_ret
 exact hp2):p:=h
def Wo{T}(hk:k=17/\T=161/\cn=ot\/k=6/\T=163/\cn=lT)s n x y f t a(hx:OfC x)(hy:OfC y):OfC (.mk k s n [x,y] f t a):=by
 intro w kb fb cb mb ns Q v h hp hQ hn;have e:aI ns (.mk k s n [x,y] f t a)=(.aH cn (aA ns [x,y]).1,(aA ns [x,y]).2):=by obtain⟨rfl,rfl,rfl⟩|⟨rfl,rfl,rfl⟩:=hk<;>simp[aI,eX]
 rw[e]at hn⊢;obtain⟨x1,y1,va,vb,ha,hb,rfl⟩:∃x1 y1 va vb,PT w Q x va/\PT w Q y vb/\v=Fv T (Av #[Iv x1,Iv y1,va,vb]):=by obtain⟨rfl,rfl,rfl⟩|⟨rfl,rfl,rfl⟩:=hk<;>(cases hp;exact⟨_,_,_,_,qas,qas,rfl⟩)
 obtain⟨ta,xa,rfl⟩:=ha.bJ;obtain⟨tb,xb,rfl⟩:=hb.bJ;have bA:=h.lt;have bR:Bq w ((w.alloc<|Cv #[Iv x1,Iv y1,Fv ta<|Av xa,Fv tb<|Av xb] T).alloc<|Cv #[Fv ta<|Av xa,Fv tb<|Av xb] 92):=(bw _).alloc ag _;have BR:=(xh (w.alloc<|Cv #[Iv x1,Iv y1,Fv ta<|Av xa,Fv tb<|Av xb] T) #[Fv ta<|Av xa,Fv tb<|Av xb] 92);have eG:(w.alloc<|Cv #[Iv x1,Iv y1,Fv ta<|Av xa,Fv tb<|Av xb] T).heap.size=w.heap.size+1:=ag;rw[eG]at BR
 have HC:=ai (GF (Q:=λb=>Q b\/b=w.heap.size+1) cn (by obtain⟨-,-,rfl⟩|⟨-,-,rfl⟩:=hk;exact j6 rfl;exact j5<|j6 rfl) [x,y] (some ⟨w.heap.size+1,0,none⟩) 2 (λi=>if i=0 then Fv ta (Av xa)else Fv tb (Av xb)) ag (h.af bR) (λb q=>by obtain q|q:=q;exact hQ b q;omega)
  (j5 ⟨w.heap.size+1,rfl,j5 rfl,ag,λi hi=>by
   have pT:i=0\/i=1:=D9;rw[BR.c i]
   obtain rfl|rfl:=pT<;>rfl⟩)
  (λi hi=>by
   have pT:i=0\/i=1:=D9;obtain rfl|rfl:=pT
   .exact(ha.af bR).wide λb p=>j6 p
   .exact(hb.af bR).wide λb p=>j6 p)
  (λi hi=>by
   have pT:i=0\/i=1:=D9;obtain rfl|rfl:=pT
   .exact hx
   .exact hy) hn)
 obtain⟨rfl,rfl,rfl⟩|⟨rfl,rfl,rfl⟩:=hk;all_goals
  first|rw[jM]at HC|rw[jN]at HC
  exact vJ
def agR s n L f t a(hl:L.length<=1001)(hL:∀i(h:i<L.length),OfC L[i]):OfC (.mk 2 s n L f t a):=by
 intro w kb fb cb mb ns Q v h hp hQ hn;have e:aI ns (.mk 2 s n L f t a)=(.aH s (aA ns L).1,(aA ns L).2):=by simp[aI,eX]
 rw[e]at hn⊢
 cases hp with
 |up s n L f t at_ x y x' y' sa sc vs hu aN hr hx hy=>
 clear hx hy;have bR:Bq w (w.alloc<|Cv #[Iv x,Iv y,Iv x',Iv y',Sv s,Lv sa L.length sc] 166):=bw _
 have HC:=ai (GF (Q:=Q) s (j5<|j5 hu) L sa sc vs hl (h.af bR) hQ
  (aN.imp id λq=>by
   obtain⟨g,q1,q2,q3,q4⟩:=q
   exact⟨g,q1,q2,bQ,λi hi=>(qp (a:=⟨g,i,none⟩)<|bR.block g q3).trans<|q4 i hi⟩)
  (λi hi=>(hr i hi).af bR) hL hn)
 rw[eJ hu]at HC;clear aN hr;exact vJ
def acy nd(h:qW nd):OfC nd:=by
 induction h with
 |var s n f t a=>exact KT s n f t a|two k s n x y f t a hk hx hy dA gi=>
  obtain rfl|rfl:=hk
  .exact Wo (j6 ⟨rfl,rfl,rfl⟩) s n x y f t a dA gi
  .exact Wo (j5 ⟨rfl,rfl,rfl⟩) s n x y f t a dA gi
 |up s n L f t a hw hl hL ih=>exact agR s n L f t a hl ih
end
mutual
def nz:Nd->Nat
 |.mk _ _ _ L _ _ _=>1+nzL L
def nzL:List Nd->Nat
 |[]=>0|x::l=>nz x+nzL l
end
section
variable {w:World}
def ku:∀(L:List Ty)(i:Nat)(h:i<L.length),ah (L.take<|i+1)=ah (L.take i)+size L[i]
 |[],i,h=>tP|x::l,0,h=>by simp[ah]|x::l,i+1,h=>by simp only[ja,ah,jd];rw[ku l i DQ];omega
def eQ:∀(L:List Ty)(i:Nat),ah (L.take i)<=ah L
 |[],i=>ag|x::l,0=>by simp[ah]|x::l,i+1=>by simp only[ja,ah];have:=eQ l i;omega
def oL:∀(L:List Ty),L.length<=ah L
 |[]=>ag|x::l=>by
  have h1:=oL l;have h2:1<=size x:=by cases x<;>simp[size]
  simp only[ah,mV];omega
@[simp] theorem aiE a w:(qu (.iface 98 a) 67 169 true).run ql w=.ok (.tuple #[.agg #[.string ⟨#[]⟩,.slice none 0 0],.bool false]) w:=qkr
@[simp] theorem aet a b w:(qu (.iface 169<|.agg #[a,b]) 67 169 true).run ql w=.ok (.tuple #[.agg #[a,b],.bool true]) w:=qkr
def NO(T:Ty):=∀(w:World)(P:Nat->Prop)(v:Value),dE w P T v->size T<=1000->Cq 45 #[v] w λe w'=>e=.returned (Nv<|size T)/\Bq w w'
def Wp(L:List Ty)(w:World)(gk:Nat)(sz v:Value)(wr:World):=
 ∃j:Nat,Hid (gk=L.length-j)/\j<=L.length/\v=Nv j/\sz=.int .i64 ((1+ah (L.take j):Nat):Int)/\Bq w wr
def Rh n:NO (.var n):=by
 intro w P v h hs
 cases h
 go_enter func45,ntmps45
 go_wp2
 go_ret;exact⟨rfl,bw _⟩
def Ri c L(IH:∀i(h:i<L.length),NO L[i]):NO (.aH c L):=by
 intro w P v h hs;simp only[size]at hs⊢
 cases h with
 |aH c L sa sc vs hc aN hr=>
 go_enter func45,ntmps45
 go_wp2
 go_loopg[3,17] L.length (λgk sz v wr=>Wp L w gk sz v wr)
 case atStart=>exact⟨0,ai ag,j8 _,rfl,by simp[ah],bw _⟩
 case round=>
  obtain⟨j,c_,hj,rfl,rfl,hb⟩:=hrel;have hsl:=eQ L j;have KU:=oL L;by_cases bh:j<L.length
  .have hd:(j:Int)<(L.length:Int):=ae;obtain⟨g,rfl,hg,kC,bU⟩:∃g,sa=some ⟨g,0,none⟩/\P g/\g<w.heap.size/\∀i,i<L.length->w.cell? ⟨g,i,none⟩=some (vs i):=by
    exact rN
   have cg:=(qp (a:=⟨g,j,none⟩)<|hb.block g kC).trans<|bU j bh;have TJ:=(hr j bh).af hb;have⟨tv,xv,hv⟩:=TJ.iface;have e1:=ku L j bh;have e2:=eQ L<|j+1;have HC:=IH j bh wr P (vs j) TJ ae;rw[hv]at cg HC;go_wp2_with(go_at_call 45;refine HC.mono ?_;rintro e w1⟨rfl,da⟩;have dC:=ai<|hb.trans<|da.mono hb.size;clear da);go_roundg(L.length-(j+1))
   case measure=>rw[uh c_];omega
   case rel=>exact⟨j+1,ai rfl,ae,iF,by rw[e1];go_num,dC⟩
  .have hd:decide ((j:Int)<(L.length:Int))=false:=bQ;have ej:j=L.length:=ae;subst ej;rw[jf]
   go_wp2
   go_ret;exact⟨rfl,hb⟩
def NP:∀(T:Ty),NO T
 |.var n=>Rh n|.aH c L=>Ri c L λi h=>NP L[i]
termination_by T=>SizeOf.sizeOf T
decreasing_by
 have h2:=List.sizeOf_lt_of_mem<|jt h;simp;omega
end
section
variable {w:World}
def vh:Cq 33 #[] w λe w'=>e=.returned (.func (.func 47) #[] #[Pv w.heap.size])/\w'=w.alloc (.cells #[Iv 0] 3):=by
 go_enter func33,ntmps33
 go_wp2
 go_ret;exact⟨rfl,rfl⟩
def NR cb(hB:Bx w cb #[Iv 0]):Cq 32 #[.func (.func 47) #[] #[Pv cb]] w λe w'=>∃kb fb mb,e=.returned (nmV kb fb)/\NM w' kb fb cb mb []/\Bq w w'/\w.heap.size<=mb:=by
 have iE:= @run_makeMap Tryz.prog;have z:=hB.z;have HB:=ai hB;go_enter func32,ntmps32
 go_wp2
 go_ret;have bR:=(((qt w.heap.size w).alloc (br _)<|Cv #[.func (.func 47) #[] #[Pv cb]] 72).alloc ag<|.map #[] 0).alloc bQ<|Cv #[Mv<|w.heap.size+1] 97;refine⟨w.heap.size+1+1,w.heap.size,w.heap.size+1,rfl,⟨?_,?_,?_,?_,ag,ag,ae⟩,bR,ae⟩
 .have:=xh ((w.alloc<|Cv #[.func (.func 47) #[] #[Pv cb]] 72).alloc<|.map #[] 0) #[Mv<|w.heap.size+1] 97;simpa using this
 .exact((xh w _ _).alloc _).alloc _
 .exact((HB.alloc _).alloc _).alloc _
 .have:=(MS.new Sv<|w.alloc<|Cv #[.func (.func 47) #[] #[Pv cb]] 72).below<|bw<|Cv #[Mv<|w.heap.size+1] 97;simpa[Wl]using this
end
def Wq:pn qD=qD:=by simp_all[pn,qD]
inductive cR(w:World)(P:Nat->Prop):Ty->Value->Prop where
 |var(n:Nat):cR w P (.var n) (.iface 98<|Nv n)
 |aH(c:BA)(L:List Ty)(sa:Option Addr)(sc:Nat)(vs:Nat->Value)(hc:CN c\/c=qD)(aN:L=[]\/∃g,sa=some ⟨g,0,none⟩/\P g/\g<w.heap.size/\∀i,i<L.length->w.cell? ⟨g,i,none⟩=some (vs i))(hr:∀i(h:i<L.length),cR w P L[i]<|vs i):
  cR w P (.aH c L) (.iface 169<|.agg #[.string<|pn c,.slice sa L.length sc])
theorem cR.move{w}{v}(h:cR w P t v)(hs:w.heap.size<=w'.heap.size)(hb:∀b,P b->b<w.heap.size->w'.heap[b]? =w.heap[b]?)(hq:∀b,P b->b<w.heap.size->Q b):cR w' Q t v:=by
 exact NK
def cR.af{w}{v}(h:cR w P t v)(hb:Bq w w'):cR w' P t v:=h.move hb.size (λb _ hz=>hb.block b hz)<|λ_ p _=>p
def cR.wide{w}{v}(h:cR w P t v)(hq:∀b,P b->Q b):cR w Q t v:=h.move (br _) (λ_ _ _=>rfl)<|λb p _=>hq b p
def cR.fr{w}{v}(h:cR w P t v)(hf:Fr S w w')(hS:∀b,P b->b<w.heap.size->¬S b):cR w' P t v:=h.move hf.size (λb p z=>hf.block b z<|hS b p z)<|λ_ p _=>p
def cR.low{w}{v}(h:cR w P t v):cR w (λb=>P b/\b<w.heap.size) t v:=h.move (br _) (λ_ _ _=>rfl)<|λ_ p z=>⟨p,z⟩
def cR.iface{w}{v}(h:cR w P t v):∃a x,v=.iface a x:=by
 cases h<;>exact⟨_,_,rfl⟩
def dE.w{w}{v}(h:dE w P t v):cR w P t v:=by
 induction h with
 |var n=>exact .var n|aH c L sa sc vs hc aN hr ih=>exact .aH c L sa sc vs (j6 hc) aN ih
def s_:∀{L:List Ty},jD L->∀i(h:i<L.length),Whole L[i]
 |[],_,i,h=>tP|t::l,h,0,_=>h.1|t::l,h,i+1,k=>by simpa using s_ h.2 i (by simpa using k)
def cR.v{w}{v}(h:cR w P t v)(hw:Whole t):dE w P t v:=by
 induction h with
 |var n=>exact .var n|aH c L sa sc vs hc aN hr ih=>exact .aH c L sa sc vs (hc.resolve_right hw.1) aN λi hi=>ih i hi<|s_ hw.2 i hi
mutual
def occs:Ty->List Nat
 |.var n=>[n]|.aH _ l=>fV l
def fV:List Ty->List Nat
 |[]=>[]|t::l=>occs t++fV l
end
mutual
def cr:∀(t:Ty)(a:List Nat),vars a t=(occs t).foldl xd a
 |.var n,a=>rfl|.aH c l,a=>by simpa[vars,occs]using xT l a
def xT:∀(l:List Ty)(a:List Nat),bm a l=(fV l).foldl xd a
 |[],a=>rfl|t::l,a=>by simp only[bm,fV,jq];rw[cr t a];exact xT l _
end
def xU:∀(L:List Ty)(i:Nat)(h:i<L.length),fV (L.take<|i+1)=fV (L.take i)++occs L[i]
 |[],i,h=>tP|t::l,0,_=>by simp[fV]|t::l,i+1,h=>by
  have:=xU l i DQ;simp only[ja,fV,jd,this,jl]
def NS σ L i(h:i<L.length):(aS σ L)[i]'(by rw[dV];exact h)=sub σ L[i]:=by simp[gY]
def lA:∀(L:List Ty)(i:Nat)(h:i<L.length),size L[i]<=ah L:=by simp_all[size,ah,w_]
def CR:∀L:List Ty,L.length<=ah L
 |[]=>br _|t::l=>by have:=CR l;have:=size_pos t;simp only[mV,ah];omega
def NT{n:Nat}:∀(L:List Ty)(i:Nat)(h:i<L.length),aD n L[i]->bK n L
 |[],i,h,_=>tP|t::l,0,_,k=>j6 k|t::l,i+1,h,k=>j5 (NT l i DQ<|by simpa using k)
def Rj{P}{t}(ht:P.underlying t=some (.slice e))(hi:P.info? e=some i)(hz:i.zero=some z)(hzc:z.cells=#[z])(h1:i.size=1)(h2:i.bytes=by_)(hby:by_<=16)n(hn:n<=1000000000000)w:
 (Instr.makeSlice t (Nv n)<|Nv n).run P w=.ok (.slice (some ⟨w.heap.size,0,none⟩) n n) (w.alloc<|.cells (qe n z) e):=by
 have hb:(i.bytes:Int)*(n:Int)<=281474976710656:=by
  rw[h2];have:by_*n<=16*1000000000000:=qd hby hn;exact GD
 exact NN
@[simp] theorem aeu n w:(qu (.iface 98<|Iv n) 67 98 true).run ql w=.ok (.tuple #[Iv n,.bool true]) w:=qkr
@[simp] theorem ajM n w:(qu (.iface 98<|Iv n) 67 169 true).run ql w=.ok (.tuple #[.agg #[.string ⟨#[]⟩,.slice none 0 0],.bool false]) w:=qkr
@[simp] theorem agS a b w:(qu (.iface 169<|.agg #[a,b]) 67 98 true).run ql w=.ok (.tuple #[Iv 0,.bool false]) w:=qkr
@[simp] theorem ajN a b w:(qu (.iface 169<|.agg #[a,b]) 67 169 true).run ql w=.ok (.tuple #[.agg #[a,b],.bool true]) w:=qkr
abbrev Wr(B M:Nat->Prop)n b:=¬M b/\(B b\/n<=b)
abbrev GH:=List Nat->(Nat->Prop)->(Nat->Prop)->World->Prop
structure Img g bs cs(σ:Nat->Ty)(N:List Nat->Nat->Prop)(I:GH):Prop where
 eg:∀args w,(callFunc g args).run ql w=.ok (.enter g args) w
 mR:∀acc B M w w',I acc B M w->w.heap.size<=w'.heap.size->(∀b,B b\/M b->w'.heap[b]? =w.heap[b]?)->I acc B M w'
 lt:∀acc B M w,I acc B M w->∀b,B b\/M b->b<w.heap.size
 call:∀acc B M w n,I acc B M w->N acc n->Cq g (bs++#[Nv n]++cs) w λe w'=>
  ∃u B' M',e=.returned u/\cR w' (Wr B M' w.heap.size) (σ n) u/\I (acc++[n]) B' M' w'/\(∀b,B' b->B b\/w.heap.size<=b)/\(∀b,M' b->M b\/w.heap.size<=b)/\Fr M w w'
def Fr.gH{M M'}{a b c}(h:Fr M a b)(k:Fr M' b c)(hm:∀x,M' x->M x\/a.heap.size<=x):Fr M a c:=
 ⟨k.os.trans h.os,k.tape.trans h.tape,k.output.trans h.output,j7 h.size k.size,λx hx hn=>(k.block x (qc hx h.size) (λq=>by obtain r|r:=hm x q;exact hn r;omega)).trans (h.block x hx hn)⟩
def NU σ(I:GH)acc B M t w(e:Ending)w':=
 ∃u B' M',e=.returned u/\cR w' (Wr B M' w.heap.size) (sub σ t) u/\I (acc++occs t) B' M' w'/\(∀b,B' b->B b\/w.heap.size<=b)/\(∀b,M' b->M b\/w.heap.size<=b)/\Fr M w w'
def GI(N:List Nat->Nat->Prop)acc(l:List Nat):=∀i(h:i<l.length),N (acc++l.take i) l[i]
def GI.left(h:GI N acc (l++l')):GI N acc l:=λi hi=>by
 have:=h i bQ
 rwa[List.take_append_of_le_length ae,List.getElem_append_left hi]at this
def GI.right(h:GI N acc (l++l')):GI N (acc++l) l':=λi hi=>by
 have:=h (l.length+i) bQ;rw[List.take_length_add_append,<-jl]at this;simpa using this
def aaF g bs cs σ N I t:=∀(acc:List Nat)(B M:Nat->Prop)(w:World)(v:Value)(Q:Nat->Prop),I acc B M w->GI N acc (occs t)->size t<=1000000000000->cR w Q t v->(∀b,Q b->b<w.heap.size->¬M b)->
 Cq 326 #[v,.func (.func g) bs cs] w (NU σ I acc B M t w)
def aaG σ(I:GH)acc B M(L:List Ty)TC w gk v wr:=
 ∃(j:Nat)(C:Array Value)(B' M':Nat->Prop),Hid (gk=L.length-j)/\j<=L.length/\v=Nv j/\I (acc++fV (L.take j)) B' M' wr/\Hid (∀b,B' b->B b\/w.heap.size+2<=b)/\Hid (∀b,M' b->M b\/w.heap.size+2<=b)/\Fr M w wr/\Bx wr w.heap.size TC/\Bx wr (w.heap.size+1) C/\Hid (C.size=L.length)/\
  Hid (∀i(h:i<L.length),i<j->∃u,C[i]? =some u/\cR wr (λb=>Wr B M' (w.heap.size+2) b/\b<wr.heap.size) (sub σ L[i]) u)
def Ws L j(h:j<L.length):∃r,fV L=fV (L.take j)++(occs L[j]++r):=by
 induction L generalizing j with
 |nil=>simp at h|cons t l ih=>
  cases j with
  |zero=>exact⟨fV l,by simp[fV]⟩|succ j=>
   have⟨r,e⟩:=ih j DQ;exact⟨r,by simp only[ja,fV,jd];rw[e];simp[jl]⟩
section
variable {bs:Array Value} {σ:Nat->Ty} {I:GH}
def aaH(H:Img g bs cs σ N I)n:aaF g bs cs σ N I (.var n):=by
 intro acc B M w v Q hI hN hz hv hQ
 cases hv
 have eg:=H.eg;have HC:=H.call acc B M w n hI (by simpa[occs]using hN 0 (by simp[occs]));go_enter func326,ntmps326;go_wp2_with(go_at_fn g;refine HC.mono ?_;rintro e w1⟨u,B',M',rfl,h2,h3,h4,h5,h6⟩;obtain⟨ta,xa,rfl⟩:=h2.iface;have X:=ai<|show NU σ I acc B M (.var n) w (Rv<|Fv ta xa) w1 from⟨_,B',M',rfl,h2,h3,h4,h5,h6⟩;clear h2 h3 h4 h5 h6);go_ret;exact X
def CU{p:Prop}(h:p:=by
 obtain r|r:=uh hM1 _ q
 .have:=HB _<|j5 r;omega
 .omega):p:=h
def aaI(H:Img g bs cs σ N I)c L(IH:∀i(h:i<L.length),aaF g bs cs σ N I L[i]):aaF g bs cs σ N I (.aH c L):=by
 intro acc B M w v Q HN HNN HZ hv HQ
 cases hv with
 |aH c L sa sc vs hc aN hr=>
 have hL:L.length<=1000000000000:=by have:=CR L;simp only[size]at HZ;omega
 obtain⟨i0,vH,oW,lY,kE⟩:=info_parts fU;have Ti:=Rj (by_:=16) d_ vH oW rfl lY kE aK L.length hL;have HB:=H.lt acc B M w HN;have HK:=ai H.mR;go_enter func326,ntmps326
 go_wp2
 go_loopg[27] L.length (λgk v wr=>aaG σ I acc B M L #[.string<|pn c,.slice sa L.length sc] w gk v wr)
 case atStart=>
  have b1:Bq w ((w.alloc<|.cells #[.string<|pn c,.slice sa L.length sc] 169).alloc<|.cells (qe L.length .nilIface) 67):=(bw _).alloc ag _;refine⟨0,qe L.length .nilIface,B,M,ai ag,j8 _,rfl,?_,ai<|λb hb=>j6 hb,ai<|λb hb=>j6 hb,Fr.of b1,?_,?_,ai ag,ai<|λi _ hi=>absurd hi ae⟩
  .simpa[fV]using HK _ _ _ _ _ HN b1.size (λb hb=>b1.block b<|HB b hb)
  .exact(xh w _ _).below (bw _)
  .have:=xh (w.alloc<|.cells #[.string<|pn c,.slice sa L.length sc] 169) (qe L.length .nilIface) 67;simpa using this
 case round=>
  obtain⟨j,C,B1,M1,c_,hj,rfl,HN1,hB1,hM1,F1,T1,P1,hC,hT⟩:=hrel;have zw:=F1.size;have tz:=T1.z;have pz:=P1.z;by_cases bh:j<L.length
  .have hd:(j:Int)<(L.length:Int):=ae;obtain⟨g1,rfl,hg,kC,bU⟩:∃g,sa=some ⟨g,0,none⟩/\Q g/\g<w.heap.size/\∀i,i<L.length->w.cell? ⟨g,i,none⟩=some (vs i):=by
    exact rN
   have cg:wr.cell? ⟨g1,j,none⟩=some (vs j):=by
    rw[qp (a:=⟨g1,j,none⟩) (w:=w)<|F1.block g1 kC<|HQ g1 hg kC];exact bU j bh
   have PJ:=(hr j bh).low.fr F1<|λb p _=>HQ b p.1 p.2;obtain⟨tv,xv,hv⟩:=PJ.iface;obtain⟨rr,hrr⟩:=Ws L j bh;have hNj:GI N (acc++fV (L.take j)) (occs L[j]):=by
    have:=HNN;simp only[occs]at this;rw[hrr]at this;exact this.right.left
   have hQ1:∀b,(Q b/\b<w.heap.size)->b<wr.heap.size->¬M1 b:=λb p _ q=>by
    obtain r|r:=uh hM1 b q
    .exact HQ b p.1 p.2 r
    .omega
   have HC:=IH j bh _ B1 M1 wr (vs j) _ HN1 hNj (by have:=lA L j bh;have:=HZ;simp only[size]at this;omega) PJ hQ1;rw[hv]at cg HC;obtain⟨tc,tf,_⟩:=T1;go_wp2_with fail;refine HC.mono ?_;rintro e w1⟨u,B2,M2,rfl,HU,HN2,ed,AD,HF⟩;obtain⟨tu,xu,rfl⟩:=HU.iface;have hpb:¬M1 (w.heap.size+1):=λq=>by
    exact CU
   have htb:¬M1 w.heap.size:=λq=>by
    exact CU
   have P2:=P1.fr HF hpb;have T2:=(show Bx wr w.heap.size #[.string<|pn c,.slice (some ⟨g1,0,none⟩) L.length sc]from⟨tc,tf,tz⟩).fr HF htb;have uw:j<C.size:=qBh;have cj:=(P2.c j).trans<|qh uw;have fj:=P2.f j;have P3:=P2.aO j (.iface tu xu) (C.setIfInBounds j<|.iface tu xu) rfl uw;have T3:=T2.bN (show w.heap.size≠w.heap.size+1 by omega) j (.iface tu xu);have yN:=F1.gH HF (λx q=>by obtain r|r:=uh hM1 x q;exact j6 r;exact j5 ae);have z2:=HF.size
   go_wp2
   go_roundg(L.length-(j+1))
   case measure=>rw[uh c_];omega
   case rel=>
    have dw:∀b,b≠w.heap.size+1->(w1.setCell ⟨w.heap.size+1,j,none⟩<|.iface tu xu).heap[b]? =w1.heap[b]? :=λb hb=>qs _ _ _ _ (by show b≠w.heap.size+1;exact hb);have Zq:(w1.setCell ⟨w.heap.size+1,j,none⟩<|.iface tu xu).heap.size=w1.heap.size:=xH;have y8:∀b,B2 b->B b\/w.heap.size+2<=b:=λb hb=>by
     obtain q|q:=ed b hb
     .exact hB1 b q
     .exact j5 ae
    have hm3:∀b,M2 b->M b\/w.heap.size+2<=b:=λb hb=>by
     obtain q|q:=AD b hb
     .exact hM1 b q
     .exact j5 ae
    have hn3:∀b,(B b\/w.heap.size+2<=b)->b≠w.heap.size+1:=λb hb e=>by
     obtain q|q:=hb
     .have:=HB b<|j6 q;omega
     .omega
    have hn4:∀b,(M b\/w.heap.size+2<=b)->b≠w.heap.size+1:=λb hb e=>by
     obtain q|q:=hb
     .have:=HB b<|j5 q;omega
     .omega
    refine⟨j+1,C.setIfInBounds j<|.iface tu xu,B2,M2,ai rfl,ae,iF,?_,ai y8,ai hm3,?_,T3,P3,ai (by simp;exact hC),ai<|λi hi Y'=>?_⟩
    .rw[xU L j bh,<-jl];exact HK _ _ _ _ _ HN2 ae (λb hb=>dw b (by obtain q|q:=hb;exact hn3 b<|y8 b q;exact hn4 b<|hm3 b q))
    .exact yN.set (j5 ae) j _
    .by_cases e:i=j
     .subst e;refine⟨.iface tu xu,by simp[uw],?_⟩
      have hL1:∀b,Wr B1 M2 wr.heap.size b->Wr B M2 (w.heap.size+2) b:=λb p=>⟨p.1,by
       obtain q|q:=p.2
       .exact hB1 b q
       .exact j5 ae⟩
      exact HU.move ae (λb p z=>dw b<|hn3 b (hL1 b p).2)<|λb p z=>⟨hL1 b p,ae⟩
     .obtain⟨u',ux,uy⟩:=uh hT i hi ae;refine⟨u',by rw[qf ae];exact ux,?_⟩;have h3:=uy.fr HF<|λb p _=>p.1.1;refine h3.move ae (λb p z=>dw b<|hn3 b p.1.2)<|λb p z=>⟨⟨λq=>?_,p.1.2⟩,ae⟩;obtain r|r:=AD b q
      .exact p.1.1 r
      .have:=p.2;omega
  .have hd:decide ((j:Int)<(L.length:Int))=false:=bQ;have ej:j=L.length:=ae;subst ej;obtain⟨tc,tf,_⟩:=T1
   go_wp2
   go_ret;refine⟨_,B1,M1,rfl,?_,?_,λb hb=>?_,λb hb=>?_,F1⟩
   .have Vh:=dV σ L;simp only[sub];rw[<-Vh];refine .aH c _ _ _ (λi=>C.getD i .nilIface) hc (j5 ⟨w.heap.size+1,rfl,⟨λq=>?_,j5 ae⟩,P1.z,λi hi=>?_⟩)<|λi hi=>?_
    .exact CU
    .rw[Vh]at hi;obtain⟨u,hu,_⟩:=uh hT i hi hi;rw[P1.c i,hu];simp[qg,hu]
    .have zP:i<L.length:=by rw[Vh]at hi;exact hi
     obtain⟨u,hu,Qv⟩:=uh hT i zP zP;have:C.getD i .nilIface=u:=qBm;rw[this,NS σ L i zP];exact Qv.wide λb p=>⟨p.1.1,by obtain q|q:=p.1.2;exact j6 q;exact j5 ae⟩
   .simp only[occs];rw[<-jf (l:=L)];exact HN1
   .obtain q|q:=uh hB1 b hb
    .exact j6 q
    .exact j5 ae
   .obtain q|q:=uh hM1 b hb
    .exact j6 q
    .exact j5 ae
def xV(H:Img g bs cs σ N I):∀t,aaF g bs cs σ N I t
 |.var n=>aaH H n|.aH c L=>aaI H c L λi h=>xV H L[i]
 termination_by t=>size t
 decreasing_by have:=lA L i h;simp only[size];omega
end
section
variable {w:World}
def qL:Cq 124 #[] w λe w'=>e=.returned (.iface 169<|.agg #[.string mO,.slice none 0 0])/\w'=w:=by
 go_enter func124,ntmps124
 go_wp2
 go_ret;exact⟨rfl,rfl⟩
def mZ:Cq 125 #[] w λe w'=>e=.returned (.iface 169<|.agg #[.string iA,.slice none 0 0])/\w'=w:=by
 go_enter func125,ntmps125
 go_wp2
 go_ret;exact⟨rfl,rfl⟩
def wG:Cq 330 #[] w λe w'=>e=.returned (.iface 169<|.agg #[.string iB,.slice none 0 0])/\w'=w:=by
 go_enter func330,ntmps330
 go_wp2
 go_ret;exact⟨rfl,rfl⟩
def lV:mN mO:=⟨73,[110,116],toList_mk _,aK⟩
def jY:mN iA:=⟨66,[111,111,108],toList_mk _,aK⟩
def qM:mN iB:=⟨85,[110,105,116],toList_mk _,aK⟩
def Eg w P(h:mN c):cR w P (.aH c []) (.iface 169<|.agg #[.string c,.slice none 0 0]):=by
 have:=cR.aH (w:=w) (P:=P) c [] none 0 (λ_=>Zv) (j6<|j5<|j5 h) (j6 rfl) (λi hi=>by simp at hi);rw[eJ h]at this;exact this
def lU c a b(w:World)(e:Ending)w':=
 e=.returned (.iface 169<|.agg #[.string<|pn c,.slice (some ⟨w.heap.size,0,none⟩) 2 2])/\w'=w.alloc (.cells #[a,b] 67)
def tS ta tb xa xb:Cq 350 #[.iface ta xa,.iface tb xb] w (lU ot (.iface ta xa) (.iface tb xb) w):=by
 go_enter func350,ntmps350
 go_wp2
 go_ret;rw[lU];rw[jM];exact⟨rfl,rfl⟩
def Mp ta tb xa xb:Cq 351 #[.iface ta xa,.iface tb xb] w (lU lT (.iface ta xa) (.iface tb xb) w):=by
 go_enter func351,ntmps351
 go_wp2
 go_ret;rw[lU];rw[jN];exact⟨rfl,rfl⟩
def lU.ty(hc:CN c){a b}{va vb}(ha:cR w Q a va)(hb:cR w Q b vb)(hq:Q w.heap.size):
 cR (w.alloc<|.cells #[va,vb] 67) Q (.aH c [a,b]) (.iface 169<|.agg #[.string<|pn c,.slice (some ⟨w.heap.size,0,none⟩) 2 2]):=by
 have⟨bl,bx⟩:=mM w #[va,vb] 67;refine cR.aH c [a,b] (some ⟨w.heap.size,0,none⟩) 2 (λi=>if i=0 then va else vb) (j6 hc) (j5 ⟨w.heap.size,rfl,hq,bx.z,λi hi=>?_⟩) (λi hi=>?_)
 .have:=bx.c i;obtain _|_|i:=i
  .exact this
  .exact this
  .simp at hi;omega
 .obtain _|_|i:=i
  .exact ha.af bl
  .exact hb.af bl
  .simp at hi;omega
end
def Wt(h:CN c):pn c≠qD:=by
 have e:qD.toList=[116,111,111,32,108,97,114,103,101]:=toList_mk _;obtain rfl|rfl|h:=h
 .rw[jM];intro q;have:=congrArg xk q;rw[e,toList_mk]at this;simp at this
 .rw[jN];intro q;have:=congrArg xk q;rw[e,toList_mk]at this;simp at this
 .rw[eJ h];intro q;subst q;exact cP h 116 _ aK e
def agT(L:List Ty)TC w gk(v s:Value)wr:=
 ∃(j:Nat),Hid (gk=L.length-j)/\j<=L.length/\v=Nv j/\s=.int .i64 ((1+pI (L.take j):Nat):Int)/\Bq w wr/\Bx wr w.heap.size TC
def xW:∀(L:List Ty)(i:Nat)(h:i<L.length),pI (L.take<|i+1)=pI (L.take i)+sz L[i]
 |[],i,h=>tP|t::l,0,_=>by simp[pI]|t::l,i+1,h=>by
  have:=xW l i DQ;simp only[ja,pI,jd,this,Nat.add_assoc]
def uz:∀(L:List Ty)(i:Nat),pI (L.take i)<=pI L
 |[],i=>ag|t::l,0=>by simp[pI]|t::l,i+1=>by have:=uz l i;simp only[ja,pI];omega
section
variable {w:World}
def SzC t:=∀(w:World)(v:Value)(Q:Nat->Prop),cR w Q t v->size t<=1000000000000->Cq 315 #[v] w λe w'=>e=.returned (Nv<|sz t)/\Bq w w'
def aev n:SzC (.var n):=by
 intro w v Q hv hz
 cases hv
 go_enter func315,ntmps315
 go_wp2
 go_ret;exact⟨by simp[sz],bw _⟩
def aew c L(IH:∀i(h:i<L.length),SzC L[i]):SzC (.aH c L):=by
 intro w v Q hv HZ
 cases hv with
 |aH c L sa sc vs hc aN hr=>
 by_cases ec:c=qD
 .subst ec;rw[Wq];rw[qD];go_enter func315,ntmps315
  go_wp2
  go_ret;exact⟨by simp[sz,qD],bw _⟩
 .have dw:pn c≠qD:=by
   obtain h|h:=hc
   .exact Wt h
   .exact absurd h ec
  have hd0:((pn c).toList==[116,111,111,32,108,97,114,103,101])=false:=by
   rw[<-Bool.not_eq_true,beq_iff_eq];intro q;exact dw<|toList_inj<|q.trans (toList_mk [116,111,111,32,108,97,114,103,101]).symm
  go_enter func315,ntmps315
  go_wp2
  go_loopg[5,21] L.length (λgk s v wr=>agT L #[Sv<|pn c,Lv sa L.length sc] w gk v s wr)
  case atStart=>exact⟨0,ai ag,j8 _,rfl,by simp[pI],bw _,xh w _ _⟩
  case round=>
   obtain⟨j,c_,hj,rfl,rfl,y_,Qx⟩:=hrel;have hZ:=HZ;by_cases bh:j<L.length
   .have hd:(j:Int)<(L.length:Int):=ae;obtain⟨g1,rfl,hg,kC,bU⟩:∃g,sa=some ⟨g,0,none⟩/\Q g/\g<w.heap.size/\∀i,i<L.length->w.cell? ⟨g,i,none⟩=some (vs i):=by
     exact rN
    have cg:wr.cell? ⟨g1,j,none⟩=some (vs j):=by
     rw[qp (a:=⟨g1,j,none⟩) (w:=w)<|y_.block g1 kC];exact bU j bh
    have PJ:=(hr j bh).af y_;have⟨tv,xv,hv⟩:=PJ.iface;have hzj:=lA L j bh;simp only[size]at hZ;have hlen:=CR L;have HC:=IH j bh wr (vs j) Q PJ ae;rw[hv]at cg HC;have hle:=uz L<|j+1;rw[xW L j bh]at hle;have agP:=J6 L;have hs0:((1+pI (L.take j):Nat):Int)=1+(pI (L.take j):Int):=ae;generalize hA:pI (L.take j)=A at*;generalize hB:sz L[j]=B at*;go_wp2_with fail;refine HC.mono ?_;rintro e w1⟨rfl,Qq⟩
    go_wp2
    go_roundg(L.length-(j+1))
    case measure=>rw[uh c_];omega
    case rel=>
     have z1:=y_.size;refine⟨j+1,ai rfl,ae,iF,?_,y_.trans<|Qq.mono z1,Qx.below Qq⟩;rw[xW L j bh,hA,hB];go_num
   .have hd:decide ((j:Int)<(L.length:Int))=false:=bQ;have ej:j=L.length:=ae;subst ej
    go_wp2
    go_ret;refine⟨?_,y_⟩;rw[jf];simp only[sz];rw[if_neg ec];rfl
def oC:∀t,SzC t
 |.var n=>aev n|.aH c L=>aew c L λi h=>oC L[i]
 termination_by t=>size t
 decreasing_by have:=lA L i h;simp only[size];omega
end
abbrev f_(w:World)e base v xs:=w.ownsRow base e 1 v xs.length xs
def f_.new(w:World)e C base(hb:base<=w.heap.size)(hl:C.length<=1000000000000)n(hn:n=C.length):f_ (w.alloc<|.cells C.toArray e) e base (.slice (some ⟨w.heap.size,0,none⟩) n n) C:=by
 subst hn;exact⟨ag,.inr ⟨w.heap.size,C.length,C.toArray,rfl,hb,heap_alloc_new w _,br _,qmo,ag,ag⟩⟩
def GK{w:World}{b'}{size}{v:Value}(h:w.ownsRow b' e size v n xs)(hb:base<=b'):w.ownsRow base e size v n xs:=by
 obtain⟨h1,h2⟩:=h;obtain h2|⟨g,cap,mL,r1,r2,r3⟩:=h2
 .exact⟨h1,.inl h2⟩
 .exact⟨h1,.inr ⟨g,cap,mL,r1,j7 hb r2,r3⟩⟩
def uX{P}w base t ty e i z size bytes(ht:P.underlying t=some (.slice e))(hi:P.info? e=some i)(hz:i.zero=some z)(Wu:i.size=size)(hby:i.bytes=bytes)(hzs:z.cells.size=size)(eG:0<size)v n xs(gT:w.ownsRow base e size v n xs)a m c news(hl:news.length=m*size)(NY:∀j u,news[j]? =some u->w.cell? (a.add j)=some u)(h1:∀u∈news,u.oneCell'=true)(h63:n+m<=maxLen)(KY:(n+m)*bytes<=140737488355328)(uo:base<=w.heap.size):
 ∃v' w',(Builtin.append_ #[t,t] ty #[v,.slice (some a) m c]).run P w=.ok v' w'/\w'.ownsRow base e size v' (n+m) (xs++news)/\w.grownBy w' v.ownBlock/\∀k,v'.ownBlock=some k->v.ownBlock=some k\/w.heap.size<=k:=by
 have acz:=gT;obtain⟨rfl,rfl⟩|⟨g,cap,mL,rfl,hbg,hg,hnc,Jd,Mo,agU⟩:=gT.2
 .have hx:=jk (by simpa using gT.1);subst hx;have⟨v',w',q1,q2,q3,_⟩:=run_append_own w w.heap.size t ty e i z size bytes ht hi hz Wu hby hzs eG (Lv none 0 0) 0 [] (qr w _ e size) a m c news hl NY h1 h63 KY<|br _;exact⟨v',w',q1,GK q2 uo,q3,λk hk=>j5 (World.ownsRow.lt q2 k hk).1⟩
 .have⟨v',w',q1,q2,q3,_⟩:=run_append_own w base t ty e i z size bytes ht hi hz Wu hby hzs eG _ n xs acz a m c news hl NY h1 h63 KY uo;refine⟨v',w',q1,q2,q3,?_⟩;subst Wu;by_cases acA:n+m<=cap
  .have aiF:n*i.size+news.length<=mL.size:=by rw[hl,Mo,<-Nat.add_mul];exact Nat.mul_le_mul_right _ acA
   have hr:=run_append_room (P:=P) w t ty e i ht hi g n cap mL hg a m c news hl NY h1 acA aiF;rw[hr]at q1;injection q1 with q1 _;subst q1;exact λk hk=>j6 hk
  .have holds:=acz.cells (g:=g) rfl;have hr:=run_append_grow (P:=P) w t ty e i z ht hi hz ⟨g,0,none⟩ n cap xs gT.1 holds a m c news hl NY ae (by rw[maxLen]at h63;omega) (growslice_fits ae (by rw[hby];exact KY));rw[hr]at q1;injection q1 with q1 _;subst q1;intro k hk;simp[Value.ownBlock]at hk;exact j5 ae
def acB{T}(hT:Tryz.prog.underlying T=some (.slice e))(hI:(Tryz.prog.info? e).map (λi=>(i.zero,i.size,i.bytes))=some (some z,1,by_))(hzc:z.cells.size=1)(hby:by_<=16){w:World}{a}{Q}(hgd:o.guard=none)s x(ho:o.op=.call {callee:=.builtin .append,args:=#[s,x],argTypes:=#[T,T]}){b0}{v:Value}{news}(hs:a.eval s=v)(gT:f_ w e base v xs)(hx:a.eval x=u)(hn:f_ w e b0 u news)(h1:∀u∈news,u.oneCell'=true)(hz:xs.length+news.length<=1000000000000)(uo:base<=w.heap.size)(h:∀v' w',f_ w' e base v' (xs++news)->w.grownBy w' v.ownBlock->(∀k,v'.ownBlock=some k->v.ownBlock=some k\/w.heap.size<=k)->wpList ql ops Q rest (a.put o.dst v') w'):wpList ql ops Q (o::rest) a w:=by
 have⟨i0,hi,oW,lY,kE⟩:=info_parts hI;have QT:=hn;obtain⟨hl,hc⟩:=hn;obtain⟨rfl,h0⟩|⟨g,cap,mL,rfl,hg,hh,r⟩:=hc
 .have e1:=jk h0;subst e1;refine wpList_append_own_none hgd s x T ho base e i0 1 hT hi v xs.length xs hs gT hx ?_;exact h v w (by simpa using gT) ⟨rfl,rfl,rfl,br _,λ_ _ _=>rfl⟩ (λk hk=>j6 hk)
 .refine wpList_plain hgd λK hK=>?_;have⟨v',w',hr,h2,h3,h4⟩:=uX (P:=ql) w base T o.type e i0 _ 1 by_ hT hi oW lY kE hzc aK v xs.length xs gT ⟨g,0,none⟩ news.length cap news ae (λj z e=>QT.cells rfl j z e) h1 qmo (by have:(xs.length+news.length)*by_<=1000000000000*16:=qd hz hby;omega) uo;rw[Oper.wp,execOp];simp only[ho,resolve,invoke,builtin,Sem.run_bind,Sem.run_pure,Result.andThen_ok,List.map_toArray,jh,j3,hs,hx,hr];exact hK _ _ (h v' w' (by rw[f_];rw[vg];exact h2) h3 h4)
def gS{w:World}{v:Value}(h:f_ w e base v xs)(hn:0<xs.length):∃g cp m,v=.slice (some ⟨g,0,none⟩) m cp/\base<=g/\g<w.heap.size/\Hid (m=xs.length):=by
 have h':=h;obtain⟨h1,h2⟩:=h;obtain⟨rfl,q⟩|⟨g,cp,mL,rfl,hg,hh,r⟩:=h2
 .omega
 .exact⟨g,cp,xs.length,rfl,hg,(World.ownsRow.lt h' g rfl).2,ai rfl⟩
def aaJ:(Tryz.prog.info? 98).map (λi=>(i.zero,i.size,i.bytes))=some (some<|Iv 0,1,8):=qkr
def Ad:Tryz.prog.underlying 464=some (.slice 98):=qkr
def kU{w:World}{c}(h:f_ w e base (.slice (some ⟨g,0,none⟩) n c) xs)j(hj:j<xs.length):w.cell? ⟨g,j,none⟩=some xs[j]:=by
 have e1:=World.ownsRow.cells h (g:=g) rfl j xs[j] (jc hj);have e2:(⟨g,0,none⟩:Addr).add j=⟨g,j,none⟩:=by
  rw[Addr.add];split
  .grind
  .simp
 rwa[e2]at e1
def ik{w:World}{v:Value}(h:f_ w e base v xs):∀k,v.ownBlock=some k->base<=k/\k<w.heap.size:=λk hk=>World.ownsRow.lt h k hk
def kv{w:World}{v:Value}(h:f_ w e base v xs)(hb:∀k,v.ownBlock=some k->w'.heap[k]? =w.heap[k]?):f_ w' e base v xs:=rq h hb
def mW(l:List Nat):List Value:=l.map λ(n:Nat)=>Nv n
def VI mb mm lb base(acc:List Nat)B M w:=
 ∃(L:List (Int×Value))(v:Value),(B=λb=>b=mb)/\(M=λb=>b=mm\/b=lb\/v.ownBlock=some b)/\Bx w mb #[Mv mm]/\MS (λn:Int=>Iv n) w mm L/\(∀n:Nat,aY (n:Int) L=if n∈acc then some (Nv<|acc.count n)else none)/\Bx w lb #[v]/\f_ w 98 base v (mW<|acc.foldl xd [])/\base<=w.heap.size
def KZ acc(n m:Nat):(acc++[n]).count m=acc.count m+if n=m then 1 else 0:=yV
def wi w:(zeroValue 3).run ql w=.ok (Iv 0) w:=qkr
section
variable {w:World} {mm lb:Nat}
def GN{w}{row}{b}{C}(h:Bx w b C)(hg:w.grownBy w' row)(hn:row≠some b):Bx w' b C:=h.same hg.size<|hg.block b h.z<|λe=>hn e.symm
def agV mb mm lb base acc(B M:Nat->Prop)n w(e:Ending)w':=
 e=.returned (.iface 98<|Nv n)/\∃B' M',VI mb mm lb base (acc++[n]) B' M' w'/\(∀b,B' b->B b\/w.heap.size<=b)/\(∀b,M' b->M b\/w.heap.size<=b)/\Fr M w w'
def cU:∀(acc l:List Nat),(acc.foldl xd l).length<=l.length+acc.length
 |[],l=>ag|a::acc,l=>by
  have:=cU acc<|xd l a;have h2:(xd l a).length<=l.length+1:=by rw[xd];split<;>simp
  simp only[jz,mV];omega
def fW(n:Nat):∀(acc l:List Nat),n∈acc.foldl xd l↔n∈l\/n∈acc
 |[],l=>ag|a::acc,l=>by
  simp only[jz,fW n acc,ET,jm];constructor
  .rintro((h|h)|h)
   .exact j6 h
   .exact j5 (j6 h)
   .exact j5 (j5 h)
  .rintro(h|h|h)
   .exact j6 (j6 h)
   .exact j6 (j5 h)
   .exact j5 h
def Rk acc B M(n:Nat)(ajO:acc.length<1000000000000)(h:VI mb mm lb base acc B M w)(hd:mb≠mm/\mb≠lb/\mm≠lb)(hb:mb<base/\mm<base/\lb<base):
 Calls ql 332 #[.int .i64 (n:Int),.pointer<|some ⟨mb,0,none⟩,.pointer<|some ⟨lb,0,none⟩] w (agV mb mm lb base acc B M n w):=by
 obtain⟨L,v,rfl,rfl,so,iE,Rl,HL,HO,b4⟩:=h;obtain⟨d1,d2,d3⟩:=hd;obtain⟨b1,b2,b3⟩:=hb;have aiG:acc.count n<=acc.length:=List.count_le_length;have hl:=iE.look (KL.num qm) qn (wi w) (n:Int) trivial (λ_ _=>trivial) false;rw[Rl n]at hl;have hl':(qv 171 (.map<|some mm) (.int .i64 (n:Int)) false).run ql w=.ok (.int .i64 (acc.count n:Int)) w:=by
  by_cases hm:n∈acc
  .rw[if_pos hm]at hl;simpa using hl
  .rw[if_neg hm]at hl;rw[List.count_eq_zero_of_not_mem hm];simpa using hl
 have HG:∀m:Nat,aY (m:Int) (bD (n:Int) (.int .i64<|(acc.count n:Int)+1) L)=if m∈acc++[n]then some (.int .i64 ((acc++[n]).count m:Int))else none:=by
  intro m;rw[aJ,KZ];by_cases e:n=m
  .subst e;simp
  .have e':¬(n:Int)=(m:Int):=ae;rw[if_neg e',Rl m];simp[e,Ne.symm e]
 have NZ:∀w',MS (λn:Int=>q9 .i64 n) w' mm (bD (n:Int) (.int .i64<|(acc.count n:Int)+1) L)->(qv 171 (.map<|some mm) (.int .i64 (n:Int)) false).run ql w'=.ok (.int .i64<|(acc.count n:Int)+1) w':=by
  intro w' hM;have hl:=hM.look (KL.num qm) qn (wi w') (n:Int) trivial (λ_ _=>trivial) false;rw[aJ,if_pos rfl]at hl;simpa using hl
 have HV:=ik HO;have HM:=ai iE;have HB:=ai so;have HH:=ai NZ;obtain⟨c,f,z⟩:=so;by_cases hm:n∈acc
 .have ZI:=List.count_pos_iff.2 hm;have ajP:((acc.count n:Int)+1==1)=false:=bQ;go_enter func332,ntmps332;go_wp2_with(refine aU _ rfl _ _ _ _ (Or.inr rfl) (KL.num Tryz.underlying98) Tryz.underlying171 _ _ rfl HM (n:Int) (.int .i64<|(acc.count n:Int)+1) rfl rfl trivial (λ_ _=>trivial) ?_;intro w' H' O';have NZ:=uh HH w' H';obtain⟨c1,f1,z1⟩:=HB.one O' d1;have AD:=ai H';have O2:=ai O';clear H' O');go_ret;have O:=uh O2;refine⟨rfl,_,_,⟨_,v,rfl,rfl,⟨c1,f1,z1⟩,AD,HG,HL.one O d3.symm,?_,by rw[O.size];exact b4⟩,λb q=>Or.inl q,λb q=>Or.inl q,⟨O.os,O.tape,O.output,by rw[O.size];exact br _,λk _ hn=>O.block k<|λe=>hn<|Or.inl e⟩⟩;have es:(acc++[n]).foldl Un.seen []=acc.foldl Un.seen []:=by
   rw[jq];exact EZ<|(fW n acc []).2<|j5 hm
  rw[es];exact kv HO λk hk=>O.block k (λe=>by have:=HV k hk;omega)
 .have h0:=List.count_eq_zero_of_not_mem hm;rw[h0]at hl' HG HH aiG;have ES:(acc++[n]).foldl xd []=acc.foldl xd []++[n]:=by
   rw[jq];show xd _ n=_;rw[xd,if_neg<|λq=>hm<|by simpa using(fW n acc []).1 q]
  have wj:(mW<|acc.foldl xd []).length+[q9 .i64 (n:Int)].length<=1000000000000:=by
   have hlen:=cU acc [];simp[mW]at hlen⊢;omega
  have aex:∀u∈[Value.int .i64 (n:Int)],u.oneCell'=true:=qAn;have HA:∀w',f_ w' 98 base v (mW<|acc.foldl Un.seen [])->Hid (f_ (w'.alloc<|.cells #[.int .i64 (n:Int)] 98) 98 base v<|mW<|acc.foldl Un.seen []):=λw' ho=>ai<|kv ho λk hk=>(MapKept.heap_alloc _ _).2 k (ik ho k hk).2;go_enter func332,ntmps332
  go_wp2_with(first
   |(refine aU _ rfl _ _ _ _ (j5 rfl) (KL.num qm) qn _ _ rfl HM (n:Int) (.int .i64 1) rfl rfl trivial (λ_ _=>trivial) ?_;intro w' H' O';have NZ:=uh HH w' H';obtain⟨c1,f1,z1⟩:=HB.one O' d1;obtain⟨cl,fl,zl⟩:=HL.one O' d3.symm;have OW:=ai (kv HO<|λk hk=>O'.block k (λe=>by have:=HV k hk;omega));have AD:=ai H';have O2:=ai O';have Zk:w.heap.size<=w'.heap.size:=Nat.le_of_eq O'.size.symm;clear H' O')
   |(at_builtin;go_loud(refine acB Ad aaJ rfl aK rfl (.tmp 13) (.tmp 15) rfl rfl (uh<|HA w' OW) rfl (f_.new w' 98 [.int .i64 (n:Int)] 0 (j8 _) ag 1 rfl) aex wj (j7 b4<|j7 Zk ag) ?_);intro v2 w2 o2 g2 k2;obtain⟨g3,cp3,m3,rfl,_,_,M3⟩:=gS o2 ag;obtain⟨c2,f2,z2⟩:=GN (Bx.below (show Bx w' lb #[v]from⟨cl,fl,zl⟩)<|bw<|.cells #[.int .i64 (n:Int)] 98) g2 (λe=>by have:=HV lb e;omega);have OV:=ai o2;have GV:=ai g2;have KV:=ai k2;clear o2 g2 k2))
  go_ret;have O:=uh O2;have g:=uh GV;have o:=uh OV;have bl:Below w'.heap.size w' (w'.alloc<|.cells #[.int .i64 (n:Int)] 98):=bw _;have hzz:=g.size;have lY:=bl.size;have hv:=HV;have hold:∀k,k<w.heap.size->k≠mm->k≠lb->v.ownBlock≠some k->(w2.setCell ⟨lb,0,none⟩<|.slice (some ⟨g3,0,none⟩) m3 cp3).heap[k]? =w.heap[k]? :=λk h1 h2 h3 h4=>by
   rw[qs _ _ _ _ (by show k≠lb;exact h3),g.block k ae<|λe=>h4 e.symm,bl.block k ae,O.block k h2]
  have Zq:(w2.setCell ⟨lb,0,none⟩<|.slice (some ⟨g3,0,none⟩) m3 cp3).heap.size=w2.heap.size:=xH;have aiH:∀k,k<w.heap.size->k≠lb->v.ownBlock≠some k->(w2.setCell ⟨lb,0,none⟩<|.slice (some ⟨g3,0,none⟩) m3 cp3).heap[k]? =w'.heap[k]? :=λk h1 h3 h4=>by
   rw[qs _ _ _ _ (by show k≠lb;exact h3),g.block k ae<|λe=>h4 e.symm,bl.block k ae]
  have nb:∀k,k<base->v.ownBlock≠some k:=λk h e=>by have:=hv k e;omega
  have ho2:=ik o;refine⟨rfl,_,_,⟨_,.slice (some ⟨g3,0,none⟩) m3 cp3,rfl,rfl,?_,?_,HG,?_,?_,ae⟩,λb q=>j6 q,λb q=>?_,⟨?_,?_,?_,ae,λk hk hn=>hold k hk (λe=>hn<|j6 e) (λe=>hn<|j5<|j6 e)<|λe=>hn<|j5<|j5 e⟩⟩
  .exact HB.same ae (hold mb z d1 d2<|nb mb b1)
  .exact AD.same (aiH mm ae d3<|nb mm b2)
  .exact Bx.aO (C:=#[v]) ⟨c2,f2,z2⟩ 0 _ _ rfl ag
  .rw[ES];have e:mW (acc.foldl xd []++[n])=mW (acc.foldl xd [])++[.int .i64 (n:Int)]:=by simp[mW]
   rw[e];exact kv o λk hk=>qs _ _ _ _ (by show k≠lb;intro e;have:=(ho2 k hk).1;omega)
  .obtain q|q|q:=q
   .exact j6 (j6 q)
   .exact j6 (j5<|j6 q)
   .have:=(ho2 b q).1;by_cases hbw:b<w.heap.size
    .obtain r|r:=uh KV b q
     .exact j6 (j5<|j5 r)
     .exact absurd r bQ
    .exact j5 ae
  .exact g.os.trans O.os
  .exact g.tape.trans O.tape
  .exact g.output.trans O.output
def aaK acc B M w w'(h:VI mb mm lb base acc B M w)(hz:w.heap.size<=w'.heap.size)(hb:∀b,B b\/M b->w'.heap[b]? =w.heap[b]?):VI mb mm lb base acc B M w':=by
 obtain⟨L,v,rfl,rfl,so,iE,Rl,hlb,gT,b4⟩:=h;exact⟨L,v,rfl,rfl,so.same hz<|hb mb<|j6 rfl,iE.same<|hb mm<|j5<|j6 rfl,Rl,hlb.same hz<|hb lb<|j5<|j5<|j6 rfl,kv gT λk hk=>hb k<|j5<|j5<|j5 hk,j7 b4 hz⟩
def agW acc B M w(h:VI mb mm lb base acc B M w):∀b,B b\/M b->b<w.heap.size:=by
 obtain⟨L,v,rfl,rfl,so,iE,Rl,hlb,gT,b4⟩:=h;rintro b(rfl|rfl|rfl|q)
 .exact so.z
 .exact iE.lt
 .exact hlb.z
 .exact(ik gT b q).2
def Wv(hd:mb≠mm/\mb≠lb/\mm≠lb)(hb:mb<base/\mm<base/\lb<base):Img 332 #[] #[Pv mb,Pv lb] Ty.var (λacc _=>acc.length<1000000000000) (VI mb mm lb base) where
 eg:=enters_of Tryz.func332 qkr rfl
 mR:=aaK
 lt:=agW
 call acc B M w n h hN:=(Rk acc B M n hN h hd hb).mono λe w'⟨h1,B',M',h2,h3,h4,h5⟩=>⟨_,B',M',h1,.var n,h2,h3,h4,h5⟩
end
mutual
def cV:∀t:Ty,(occs t).length<=size t
 |.var n=>by simp[occs,size]|.aH c l=>by have:=AQ l;simp only[occs,size];omega
def AQ:∀l:List Ty,(fV l).length<=ah l
 |[]=>by simp[fV,ah]|t::l=>by have:=cV t;have:=AQ l;simp only[fV,ah,vg];omega
end
def Rm t w(e:Ending)w':=∃v,e=.returned v/\f_ w' 98 w.heap.size v (mW<|vars [] t)/\Bq w w'
def e_{w:World}{v:Value}(h:cR w Q t v)(hz:size t<=1000000000000):Cq 320 #[v] w (Rm t w):=by
 obtain⟨ta,xa,rfl⟩:=h.iface;have bl:Bq w (((w.alloc<|Cv #[Lv none 0 0] 464).alloc<|.map #[] 0).alloc<|Cv #[Mv<|w.heap.size+1] 171):=((bw _).alloc ag _).alloc bQ _;have hI:VI (w.heap.size+2) (w.heap.size+1) w.heap.size (w.heap.size+3) [] (λb=>b=w.heap.size+2) (λb=>b=w.heap.size+1\/b=w.heap.size\/(Lv none 0 0).ownBlock=some b) (((w.alloc<|Cv #[Lv none 0 0] 464).alloc<|.map #[] 0).alloc<|Cv #[Mv<|w.heap.size+1] 171):=by
  refine⟨[],Lv none 0 0,rfl,rfl,?_,?_,λn=>by simp[aY],?_,qr _ _ _ _,ag⟩
  .have:=xh ((w.alloc<|Cv #[Lv none 0 0] 464).alloc<|.map #[] 0) #[Mv<|w.heap.size+1] 171;simpa using this
  .have:=(MS.new (λn:Int=>Iv n)<|w.alloc<|Cv #[Lv none 0 0] 464).below<|bw<|Cv #[Mv<|w.heap.size+1] 171;simpa using this
  .exact((xh w #[Lv none 0 0] 464).below<|bw _).below (bw _)
 have HC:=xV (Wv (mb:=w.heap.size+2) (mm:=w.heap.size+1) (lb:=w.heap.size) (base:=w.heap.size+3) ae ae) t [] _ _ _ _ (λb=>Q b/\b<w.heap.size) hI (λi hi=>by have:=cV t;simp;omega) hz (h.low.af bl) (λb q _ r=>by obtain r|r|r:=r;omega;omega;cases r);have HB:=ai bl;have iE:= @run_makeMap Tryz.prog;go_enter func320,ntmps320;go_wp2_with fail;refine HC.mono ?_;rintro e w1⟨u,B',M',rfl,hU,⟨L,v,rfl,rfl,so,iE,Rl,hlb,HO,b4⟩,hB,hM,F⟩;have z1:=F.size;have HF:=ai F;obtain⟨c2,f2,z2⟩:=hlb
 go_wp2
 go_ret;refine⟨v,rfl,?_,?_⟩
 .have e:List.foldl xd [] ([]++occs t)=vars [] t:=by rw[cr];rfl
  rw[<-e];exact GK HO ae
 .have F:=uh HF;have b:=uh HB;exact⟨F.os.trans b.os,F.tape.trans b.tape,F.output.trans b.output,j7 b.size F.size,λi hi=>(F.block i (qc hi b.size) (λq=>by obtain q|q|q:=q;omega;omega;cases q)).trans (b.block i hi)⟩
def Ro:(Tryz.prog.info? 67).map (λi=>(i.zero,i.size,i.bytes))=some (some .nilIface,1,16):=qkr
def CV(l:List Nat):List Value:=l.map λ(n:Nat)=>qz 98<|Nv n
def aey l w1 V gk v wr:=
 ∃(j:Nat)(u:Value),Hid (gk=l.length-j)/\j<=l.length/\v=Nv j/\Bq w1 wr/\w1.heap.size+1<=wr.heap.size/\Bx wr w1.heap.size #[.string ⟨#[116,111,111,32,108,97,114,103,101]⟩,u]/\f_ wr 98 (w1.heap.size+1) V (mW l)/\f_ wr 67 (w1.heap.size+1) u (CV<|l.take j)/\Hid (∀k,u.ownBlock=some k->V.ownBlock≠some k)
def dD{w:World}{v:Value}(h:f_ w e base v xs)(hn:xs.length=n):∃va vc,v=.slice va n vc:=by
 subst hn;obtain⟨h1,h2⟩:=h;obtain⟨rfl,q⟩|⟨g,cp,mL,rfl,_⟩:=h2
 .exact⟨none,0,by rw[q]⟩
 .exact⟨_,_,rfl⟩
def Ww(l:List Nat)j(h:j<l.length):CV (l.take<|j+1)=CV (l.take j)++[qz 98<|Nv<|l[j]]:=by
 rw[CV];rw[ji h,jx];rfl
section
variable {w:World}
def aez{b}{wr}(h:f_ wr 67 b u (CV l))(hl:l≠[])(hP:∀k,b<=k->P k):∃sa sc,u=.slice sa l.length sc/\cR wr P (.aH qD<|l.map Ty.var) (.iface 169<|.agg #[.string qD,u]):=by
 have hln:0<(CV l).length:=by simp[CV];exact Nat.pos_of_ne_zero<|λe=>hl<|jk e
 obtain⟨g,cp,m,rfl,hg,kC,hm⟩:=gS h hln;have hm:=uh hm;simp only[CV,jy]at hm;subst hm;refine⟨_,_,rfl,?_⟩;have:=cR.aH (w:=wr) (P:=P) qD (l.map Ty.var) (some ⟨g,0,none⟩) cp (λi=>(CV l).getD i Zv) (j5 rfl) (j5 ⟨g,rfl,hP g hg,kC,λi hi=>?_⟩)<|λi hi=>?_
 .rw[Wq,jy]at this;exact this
 .have zP:i<(CV l).length:=by simpa[CV]using hi
  rw[kU h i zP,ju,jc zP];rfl
 .have zP:i<(CV l).length:=by simpa[CV]using hi
  rw[ju,jc zP];simp only[CV,List.getElem_map,Option.getD_some];exact .var _
def N7 t(Q:Nat->Prop)w(e:Ending)w':=∃u,e=.returned u/\cR w' (λb=>Q b\/w.heap.size<=b) (bG t) u/\Bq w w'
def GO{p:Prop}(h:p:=by
 rw[cr];have:=cU (occs t) [];have:=cV t;simp at*
 omega):p:=h
def Wx{v:Value}(h:cR w Q t v)(hz:size t<=1000000000000):Calls ql 325 #[v] w (N7 t Q w):=by
 obtain⟨ta,xa,rfl⟩:=h.iface;have HS:=oC t w _ Q h ae;have hsl:=ace t;have HT:=ai h;clear h;by_cases hs:sz t<=48
 .have hd:(sz t:Int)<=48:=ae;go_enter func325,ntmps325;go_wp2_with fail;refine HS.mono ?_;rintro e w1⟨rfl,HB⟩;clear HS
  go_wp2
  go_ret;unfold N7 bG;rw[if_pos hs];exact⟨_,rfl,((uh HT).af HB).wide λb q=>j6 q,HB⟩
 .have hd:¬(sz t:Int)<=48:=ae;have HV:=λ(W:World)(hb:Below w.heap.size w W)=>e_ ((uh HT).af hb) hz;go_enter func325,ntmps325;go_wp2_with fail;refine HS.mono ?_;rintro e w1⟨rfl,b1⟩;have HB:=ai b1;have z1:=b1.size;clear b1 HS;have HC:=HV (w1.alloc<|.cells #[.string ⟨#[116,111,111,32,108,97,114,103,101]⟩,.slice none 0 0] 169)<|HB.alloc ae _;clear HV;go_wp2_with fail;refine HC.mono ?_;rintro e w2⟨V,rfl,HO,b2⟩;have wj:(vars [] t).length<=1000000000000:=by
   exact GO
  generalize wo:vars [] t=l at*;clear HC;obtain⟨va,vc,rfl⟩:=dD HO (n:=l.length) (by simp[mW]);have ed:=ai b2;clear b2
  go_wp2
  go_loopg[14] l.length (λgk v wr=>aey l w1 (.slice va l.length vc) gk v wr)
  case atStart=>
   have b2:=uh ed;have b1:Below w1.heap.size w1 (w1.alloc<|.cells #[.string ⟨#[116,111,111,32,108,97,114,103,101]⟩,.slice none 0 0] 169):=bw _;have kE:=b2.size;have hz3:(w1.alloc<|.cells #[.string ⟨#[116,111,111,32,108,97,114,103,101]⟩,.slice none 0 0] 169).heap.size=w1.heap.size+1:=ag;rw[hz3]at kE;exact⟨0,.slice none 0 0,ai ag,j8 _,rfl,b1.trans<|b2.mono b1.size,kE,(xh w1 _ _).below b2,by simpa using HO,qr _ _ _ _,ai<|λk hk=>by cases hk⟩
  case round=>
   obtain⟨j,u,c_,hj,rfl,F1,zz,T1,O1,O2,hdj⟩:=hrel;by_cases bh:j<l.length
   .have hd:(j:Int)<(l.length:Int):=ae;have hjv:j<(mW l).length:=by simpa[mW]using bh
    obtain⟨gv,cpv,mv,hv,hgv,kC,_⟩:=gS O1 ae;injection hv with Jy TE hv3;subst Jy;have cg:=kU O1 j hjv;rw[show(mW l)[j]=q9 .i64 (l[j]:Int) by simp[mW]]at cg;obtain⟨sa,sc,rfl⟩:=dD O2 (n:=j) (by simp[CV];omega);generalize hx:l[j]=x at*;have y_:=ai F1;have O1':=ai O1;have O2':=ai O2;have Qx:=ai T1;have aex:∀u∈[qz 98<|.int .i64 (x:Int)],u.oneCell'=true:=qAn;have hlen:(CV<|l.take j).length+[qz 98<|.int .i64 (x:Int)].length<=1000000000000:=by simp[CV];omega
    have HA:Hid (f_ (wr.alloc<|.cells #[.iface 98<|.int .i64 (x:Int)] 67) 67 (w1.heap.size+1) (.slice sa j sc)<|CV<|l.take j):=ai<|kv O2 λk hk=>(xf _ _).2 k (ik O2 k hk).2;obtain⟨tc,tf,tz⟩:=T1;clear F1 O1 O2 TE hv3;go_wp2_with(at_builtin;go_loud(refine acB d_ Ro rfl aK rfl (.tmp 19) (.tmp 22) rfl rfl HA rfl (f_.new wr 67 [.iface 98<|.int .i64 (x:Int)] 0 (j8 _) ag 1 rfl) aex hlen (j7 zz ag) ?_);intro v2 w3 o2 g2 k2;obtain⟨g3,cp3,m3,rfl,_,_,M3⟩:=gS o2 ag;obtain⟨c2,f2,z2⟩:=GN (Bx.below Qx<|bw<|.cells #[.iface 98<|.int .i64 (x:Int)] 67) g2 (λe=>by have:=(ik O2' _ e).1;omega);have OV:=ai o2;have GV:=ai g2;have KV:=ai k2;clear o2 g2 k2);go_roundg(l.length-(j+1))
    case measure=>rw[uh c_];omega
    case rel=>
     have g:=uh GV;have o:=uh OV;have f1:=uh y_;have o1:=uh O1';have ho2:=ik o;have bl:Below wr.heap.size wr (wr.alloc<|.cells #[.iface 98<|.int .i64 (x:Int)] 67):=bw _;have lY:=bl.size;have hzz:=g.size;have Zq:(w3.setCell ⟨w1.heap.size,1,none⟩<|.slice (some ⟨g3,0,none⟩) m3 cp3).heap.size=w3.heap.size:=xH;have gT:∀k,(xc sa j sc).ownBlock=some k->w1.heap.size+1<=k:=λk hk=>(ik (uh O2') k hk).1;have hold:∀k,k<wr.heap.size->k≠w1.heap.size->(xc sa j sc).ownBlock≠some k->(w3.setCell ⟨w1.heap.size,1,none⟩<|.slice (some ⟨g3,0,none⟩) m3 cp3).heap[k]? =wr.heap[k]? :=λk h1 h3 h4=>by
      rw[qs _ _ _ _ (by show k≠w1.heap.size;exact h3),g.block k ae<|λe=>h4 e.symm,bl.block k ae]
     refine⟨j+1,.slice (some ⟨g3,0,none⟩) m3 cp3,ai rfl,ae,iF,⟨?_,?_,?_,?_,λk hk=>?_⟩,ae,?_,?_,?_,ai<|λk hk hk2=>?_⟩
     .exact g.os.trans f1.os
     .exact g.tape.trans f1.tape
     .exact g.output.trans f1.output
     .have:=f1.size;omega
     .have:=f1.size;exact(hold k ae ae (λe=>by have:=gT k e;omega)).trans (f1.block k hk)
     .exact Bx.aO (C:=#[.string ⟨#[116,111,111,32,108,97,114,103,101]⟩,.slice sa j sc]) ⟨c2,f2,z2⟩ 1 _ _ rfl ag
     .exact kv o1 λk hk=>hold k (ik o1 k hk).2 (λe=>by have:=(ik o1 k hk).1;omega)<|λe=>uh hdj k e hk
     .rw[Ww l j bh,hx];exact kv o λk hk=>qs _ _ _ _ (by show k≠w1.heap.size;intro e;have:=(ho2 k hk).1;omega)
     .obtain r|r:=uh KV k hk
      .exact uh hdj k r hk2
      .have:=(ik o1 k hk2).2;omega
   .have hd:decide ((j:Int)<(l.length:Int))=false:=bQ;have ej:j=l.length:=ae;subst ej;obtain⟨tc,tf,tz⟩:=T1;have O2':=ai O2;have y_:=ai F1;clear O1 O2 F1
    go_wp2
    go_ret;have f1:=uh y_;have o2:=uh O2';rw[jf]at o2;refine⟨_,rfl,?_,HB.trans<|f1.mono z1⟩;have hc:bG t=.aH qD (l.map Ty.var):=by unfold bG;rw[if_neg hs,wo]
    rw[hc];by_cases hl:l=[]
    .subst hl;obtain⟨q1,q2⟩:=o2;obtain⟨sa,sc,rfl⟩:=dD (uh O2') (n:=0) (by simp[CV]);have:=cR.aH (w:=wr) (P:=λb=>Q b\/w.heap.size<=b) qD [] sa sc (λ_=>.nilIface) (j5 rfl) (j6 rfl) (λi hi=>by simp at hi);rw[Wq]at this;exact this
    .obtain⟨_,_,_,h⟩:=aez o2 hl (P:=λb=>Q b\/w.heap.size<=b)<|λk hk=>j5 ae;exact h
end
end
section
open Go.MapKept
section
variable {enc:κ->Value}
def MG(enc:κ->Value)(w:World)(b:Nat)(L:List (κ×Value)):=∃es clock,w.heap[b]? =some (.map es clock)/\es.toList.map (λe=>(e.key,e.val))=L.map (λp=>(enc p.1,p.2))/\(es.toList.map (·.born)).Nodup/\(∀e∈es.toList,e.born<clock)/\(L.map (·.1)).Nodup
variable {w:World} {b:Nat} {L:List (κ×Value)} {P:Program} {k t:TypeId}
def MG.ms(h:MG enc w b L):MS enc w b L:=by grind[MG,MS]
def MG.same(h:MG enc w b L)(hb:w'.heap[b]? =w.heap[b]?):MG enc w' b L:=by grind[MG]
def MG.new(enc:κ->Value)(w:World):MG enc (w.alloc<|.map #[] 0) w.heap.size []:=⟨#[],0,(xf w _).1,rfl,ag,ag,ag⟩
def MG.nodup(h:MG enc w b L):(L.map (·.1)).Nodup:=by grind[MG]
def agX{es:List MapEntry}(h:es.map (λe=>(e.key,e.val))=L.map (λp=>(enc p.1,p.2))):es.map (·.key)=(L.map (·.1)).map enc:=by
 have:=congrArg (List.map Prod.fst) h;simpa[List.map_map,Function.comp_def]using this
def IG(enc:κ->Value)(w:World)(r gb:Nat)(L:List (κ×Value))(done:List κ)cnt:=∃(es:Array MapEntry)(clock since:Nat)(seen:Array Nat)(c0:Nat),w.heap[gb]? =some (.map es clock)/\es.toList.map (λe=>(e.key,e.val))=L.map (λp=>(enc p.1,p.2))/\(es.toList.map (·.born)).Nodup/\(∀e∈es.toList,e.born<since)/\since<=c0/\since<=clock/\w.heap[r]? =some (.mapIter (some gb) since seen c0)/\(L.map (·.1)).Nodup/\(leftOf es seen).size=cnt/\∀e∈es.toList,∀x,e.key=enc x->(seen.contains e.born=true↔x∈done)
def IG.same{cnt}{done}(h:IG enc w r gb L done cnt)(h1:w'.heap[gb]? =w.heap[gb]?)(h2:w'.heap[r]? =w.heap[r]?):IG enc w' r gb L done cnt:=by
 obtain⟨es,clock,since,seen,c0,a1,a2,a3,a4,a5,a6,a7,a8⟩:=h;exact⟨es,clock,since,seen,c0,h1.trans a1,a2,a3,a4,a5,a6,h2.trans a7,a8⟩
def IG.lt{cnt}{done}(h:IG enc w r gb L done cnt):gb<w.heap.size/\r<w.heap.size/\gb≠r:=by grind[cnt,IG]
def MG.range(h:MG enc w b L)(ht:P.underlying t=some (.map k e)):∃o cnt,(Instr.range t<|Mv b).run P w=.ok (Pv w.heap.size) (w.alloc o)/\IG enc (w.alloc o) w.heap.size b L [] cnt:=by
 obtain⟨es,clock,a1,a2,a3,a4,a5⟩:=h;have bA:=(Array.getElem?_eq_some_iff.1 a1).1;refine⟨_,_,run_range_map w t _ _ b es clock ht a1,es,clock,clock,#[],clock,((xf w _).2 _ bA).trans a1,a2,a3,a4,br _,br _,heap_alloc_new w _,a5,rfl,λe he x hx=>ag⟩
def MG.one{c}(h:MG enc w b L)(o:One c w w')(hn:b≠c):MG enc w' b L:=h.same<|o.block b hn
end
section
variable [DecidableEq κ] {enc:κ->Value}
variable {w:World} {b:Nat} {L:List (κ×Value)} {P:Program} {k t:TypeId}
def MG.lt(h:MG enc w b L):b<w.heap.size:=h.ms.lt
def MG.af(h:MG enc w b L)(hb:Bq w w'):MG enc w' b L:=h.same<|hb.block b h.lt
def MG.fr(h:MG enc w b L)(hf:Fr S w w')(hn:¬S b):MG enc w' b L:=h.same<|hf.block b h.lt hn
def rO(l:List MapEntry)j f(hf:∀e,(f e).born=e.born):(l.modify j f).map (·.born)=l.map (·.born):=by
 induction l generalizing j with
 |nil=>cases j<;>simp|cons e r ih=>grind
def GP{x y:κ}{v:Value}:∀{L:List (κ×Value)},y∈(bD x v L).map (·.1)->y=x\/y∈L.map (·.1)
 |[],h=>by simpa[bD]using h|p::l,h=>by
  rw[bD]at h;split at h
  .rename_i e;simp only[jh,jm]at h⊢;obtain h|h:=h
   .exact j6 h
   .exact j5 (j5 h)
  .simp only[jh,jm]at h⊢;obtain h|h:=h
   .exact j5 (j6 h)
   .obtain q|q:=GP h
    .exact j6 q
    .exact j5 (j5 q)
def pU{x:κ}{v:Value}:∀{L:List (κ×Value)},(L.map (·.1)).Nodup->((bD x v L).map (·.1)).Nodup
 |[],_=>by simp[bD]|p::l,h=>by
  simp only[jh,jo]at h;rw[bD];split
  .rename_i e;simp only[jh,jo];rw[<-e];exact h
  .rename_i e;simp only[jh,jo];refine⟨λq=>?_,pU h.2⟩;obtain r|r:=GP q
   .exact e r
   .exact h.1 r
def MG.put(K:KL P k enc (λ_ _=>True))(h:MG enc w b L)(ht:P.underlying t=some (.map k e))x v:∃o,(qw t (Mv b) (enc x) v).run P w=.ok () (setBlock w b o)/\MG enc (setBlock w b o) b (bD x v L):=by
 obtain⟨es,clock,hb,l9,hn,hk,hd⟩:=h;have hf:=K.fin x L es.toList w trivial (λ_ _=>trivial) l9;rw[qw];simp only[Sem.run_bind,run_underlying ht,xi,MapKept.run_getObj_map hb,K.chk,hf]
 cases vD:vC x L 0 with
 |none=>
  refine⟨.map (es.push {key:=enc x,val:=v,born:=clock})<|clock+1,by rw[vD]at hf;simp[hf,xi];exact xg _ hb,_,_,(heap_setBlock_same hb _),?_,?_,?_,pU hd⟩
  .rw[nF x v L<|nH x L 0 vD];simp[l9]
  .simp only[Array.toList_push,jx,jh,j3];rw[jv];refine⟨hn,ag,?_⟩;intro a ha c hc;obtain⟨e,he,rfl⟩:=List.mem_map.1 ha;simp only[List.mem_singleton]at hc;have:=hk e he;omega
  .grind
 |some p=>
  obtain⟨j,u⟩:=p;have⟨_,e0,h2,h3,h4⟩:=Ct (enc:=enc) x v L es.toList 0 j u l9 vD;have Jl:es[j]? =some e0:=by simpa using h2
  refine⟨.map (es.modify j λe=>{e with key:=enc x,val:=v}) clock,?_,_,_,(heap_setBlock_same hb _),by simpa using h4,?_,?_,pU hd⟩
  .rw[vD]at hf;simp[hf,xi,Jl,h3,Instr.keyThatStays,K.bit];exact xg _ hb
  .rw[qk,rO es.toList j (λe=>{e with key:=enc x,val:=v}) (λ_=>rfl)];exact hn
  .intro e he;have:e.born∈(es.modify j λe=>{e with key:=enc x,val:=v}).toList.map (·.born):=jp he;rw[qk,rO es.toList j (λe=>{e with key:=enc x,val:=v}) (λ_=>rfl)]at this;have⟨e',h1,h2⟩:=List.mem_map.1 this;rw[<-h2];exact hk e' h1
def b8(K:KL P k enc (λ_ _=>True))(ht:P.underlying t=some (.map k e)){a}{Q}(hg:o.guard=none)m x v(qB:o.op=Op.insert t m x v\/o.op=Op.mapUpdate t m x v)(hm:a.eval m=Mv b)(hM:MG enc w b L)key val(hx:a.eval x=enc key)(hv:a.eval v=val)(hK:∀w',MG enc w' b (bD key val L)->One b w w'->wpList P ops Q rest (a.put o.dst undef) w'):
 wpList P ops Q (o::rest) a w:=by
 refine wpList_plain hg λK' hK'=>?_;have⟨ob,kJ,r1⟩:=hM.put K ht key val;rw[Oper.wp];obtain qB|qB:=qB<;>
 .simp[execOp,qB,hm,hx,hv,kJ,xi];exact hK' _ _<|hK _ r1<|One.set w b ob
def rP{x:κ}:∀{L:List (κ×Value)},(aY x L).isSome=true↔x∈L.map (·.1)
 |[]=>by simp[aY]|p::l=>by
  rw[aY];split
  .rename_i e;simp[e]
  .rename_i e;rw[rP (L:=l)];simp only[jh,jm];exact⟨j5,λq=>q.elim (λq=>absurd q.symm e) id⟩
def N8{x:κ}{v:Value}:∀{L:List (κ×Value)},(L.map (·.1)).Nodup->(x,v)∈L->aY x L=some v
 |[],_,h=>tP|p::l,hn,h=>by
  simp only[jh,jo]at hn;rw[aY];obtain rfl|h:=List.mem_cons.1 h
  .simp
  .have:p.1≠x:=λe=>hn.1 (by rw[e];exact jp (f:=(·.1)) h);rw[if_neg this];exact N8 hn.2 h
def oM{x:κ}{v:Value}:∀{L:List (κ×Value)},aY x L=some v->(x,v)∈L
 |[],h=>ZC|p::l,h=>by
  rw[aY]at h;split at h
  .rename_i e;simp only[Option.some.injEq]at h;subst e h;simp
  .exact jj _ (oM h)
def agY enc P w r gb L(done:List κ)(cnt:Nat):=((∀x v,aY x L=some v->x∈done)/\(qx (Pv r) false 0).run P w=.ok (.tuple #[.bool false]) w)\/
    ∃x v w1 aB,x∉done/\aY x L=some v/\(qx (Pv r) false 0).run P w=.ok (.tuple #[.bool true,enc x,v]) w1/\IG enc w1 r gb L (x::done) aB/\aB<cnt/\Fr (λb=>b=r) w w1/\w1.heap.size=w.heap.size/\(Instr.entry<|Pv r).run P w1=.ok (.tuple #[enc x,v]) w1
def IG.next(aiI:∀x y,enc x=enc y->x=y){cnt}{done}(h:IG enc w r gb L done cnt):agY enc P w r gb L done cnt:=by
 have⟨hg1,hr1,dw⟩:=h.lt;obtain⟨es,clock,since,seen,c0,a1,a2,a3,a4,a5,a6,a7,a8,a10,a11⟩:=h;have Wy:=agX a2;rcases run_next_at (P:=P) w 0 r gb since c0 seen es clock a7 a1 a4 a5 with⟨h0,kJ⟩|⟨e,he,w1,vo,kJ⟩
 .left;refine⟨λx v hx=>?_,kJ⟩;have qJ:=rP.1 (by rw[hx];rfl);have:enc x∈es.toList.map (·.key):=yV;have⟨e,he,hk⟩:=List.mem_map.1 this;exact(a11 e he x hk).1 (all_seen es seen h0 e he)
 .right;have⟨Tj,he2⟩:=mem_left he;obtain⟨x,hx,hxL⟩:∃x,e.key=enc x/\(x,e.val)∈L:=by
   have:(e.key,e.val)∈es.toList.map (λe=>(e.key,e.val)):=jp (f:=λe:MapEntry=>(e.key,e.val)) Tj;rw[a2]at this;have⟨p,hp,q⟩:=List.mem_map.1 this;obtain⟨px,pv⟩:=p;simp only[Prod.mk.injEq]at q;exact⟨px,q.1.symm,by rw[<-q.2];exact hp⟩
  have yP:x∉done:=λq=>by
   have:=(a11 e Tj x hx).2 q;rw[he2]at this;cases this
  have K9:w1.heap=w.heap:=by obtain rfl|rfl:=vo<;>rfl
  have b1:∀k,k≠r->(setBlock w1 r<|.mapIter (some gb) since (seen.push e.born) clock).heap[k]? =w.heap[k]? :=λk hk=>by
   have:(setBlock w1 r<|.mapIter (some gb) since (seen.push e.born) clock).heap[k]? =w1.heap[k]? :=by simp[setBlock,qi,Ne.symm hk]
   rw[this,K9]
  have b2:(setBlock w1 r<|.mapIter (some gb) since (seen.push e.born) clock).heap[r]? =some (.mapIter (some gb) since (seen.push e.born) clock):=by
   have hr2:r<w1.heap.size:=by rw[K9];exact hr1
   simp[setBlock,qi,hr2]
  have eG:(setBlock w1 r<|.mapIter (some gb) since (seen.push e.born) clock).heap.size=w.heap.size:=by simp[setBlock,K9]
  have hnk:(es.toList.map (·.key)).Nodup:=yV;refine⟨x,e.val,_,_,yP,N8 a8 hxL,by rw[kJ,hx],⟨es,clock,since,seen.push e.born,clock,(b1 gb dw).trans a1,a2,a3,a4,a6,a6,b2,a8,rfl,λe' he' y hy=>?_⟩,by rw[<-a10];exact left_shrinks es seen e he,⟨by obtain rfl|rfl:=vo<;>rfl,by obtain rfl|rfl:=vo<;>rfl,by obtain rfl|rfl:=vo<;>rfl,by rw[eG];exact br _,λk _ hk=>b1 k hk⟩,eG,?_⟩
  .rw[contains_push];simp only[Bool.or_eq_true,beq_iff_eq,jm];constructor
   .rintro(q|q)
    .grind
    .have:e'=e:=born_inj a3 he' Tj q;rw[this,hx]at hy;exact j6 (aiI _ _ hy).symm
   .rintro(q|q)
    .right;have:e'=e:=by
      have hk:e'.key=e.key:=by rw[hy,hx,q]
      exact entry_eq_of_key (by rw[List.Nodup,List.pairwise_map]at hnk;exact hnk) he' Tj hk
     rw[this]
    .grind
  .have:=run_entry_at (P:=P) (setBlock w1 r<|.mapIter (some gb) since (seen.push e.born) clock) r gb since seen es clock e b2 ((b1 gb dw).trans a1) Tj a3;rw[hx]at this;exact this
end
end
section
open Go.MapKept Un
abbrev oS:Int->Value:=λn=>Iv n
def GQ:∀x y,oS x=oS y->x=y:=λx y h=>by injection h
abbrev KLV:KL ql 98 oS (λ_ _=>True):=KL.num qm
def eU w P b(D:Nat->Option Ty):=
 ∃L,MG oS w b L/\(∀n:Nat,aY (n:Int) L=none->D n=none)/\(∀(n:Nat)u,aY (n:Int) L=some u->∃t,D n=some t/\cR w P t u)/\∀x u,aY x L=some u->∃n:Nat,x=(n:Int)
def BL(D:Nat->Option Ty)n:=(D n).getD<|.var n
section
variable {w:World} {b:Nat}
theorem eU.move(h:eU w P b D)(hs:w.heap.size<=w'.heap.size)(hb:w'.heap[b]? =w.heap[b]?)(hp:∀x,P x->x<w.heap.size->w'.heap[x]? =w.heap[x]?)(hq:∀x,P x->x<w.heap.size->Q x):eU w' Q b D:=by
 obtain⟨L,h1,h2,h3,h4⟩:=h;exact⟨L,h1.same hb,h2,λn u hu=>by have⟨t,e,ht⟩:=h3 n u hu;exact⟨t,e,ht.move hs hp hq⟩,h4⟩
def eU.lt(h:eU w P b D):b<w.heap.size:=qAr
def eU.af(h:eU w P b D)(hb:Bq w w'):eU w' P b D:=h.move hb.size (hb.block b h.lt) (λx _ hx=>hb.block x hx)<|λ_ p _=>p
def eU.fr(h:eU w P b D)(hf:Fr S w w')(hb:¬S b)(hS:∀x,P x->x<w.heap.size->¬S x):eU w' P b D:=h.move hf.size (hf.block b h.lt hb) (λx p z=>hf.block x z<|hS x p z)<|λ_ p _=>p
def eU.wide(h:eU w P b D)(hq:∀x,P x->Q x):eU w Q b D:=h.move (br _) rfl (λ_ _ _=>rfl) (λx p _=>hq x p)
def eU.low(h:eU w P b D):eU w (λx=>P x/\x<w.heap.size) b D:=h.move (br _) rfl (λ_ _ _=>rfl) (λx p z=>⟨p,z⟩)
def eU.new(w:World)P:eU (w.alloc<|.map #[] 0) P w.heap.size (λ_=>none):=⟨[],MG.new oS w,λ_ _=>rfl,λn u h=>ZC,λx u h=>ZC⟩
def aaL w:(zeroValue 67).run ql w=.ok .nilIface w:=qkr
def eU.look(h:eU w P b D){tm}(ht:Tryz.prog.underlying tm=some (.map 98 67))n:(∃t u,D n=some t/\cR w P t u/\(qv tm (Mv b) (Nv n) true).run ql w=.ok (.tuple #[u,.bool true]) w)\/
 (D n=none/\(qv tm (Mv b) (Nv n) true).run ql w=.ok (.tuple #[.nilIface,.bool false]) w):=by
 obtain⟨L,h1,h2,h3,h4⟩:=h;have hl:=h1.ms.look KLV ht (aaL w) (n:Int) trivial (λ_ _=>trivial) true
 cases hg:aY (n:Int) L with
 |none=>grind|some u=>grind
def gV:Tryz.prog.underlying 457=some (.map 98 67):=qkr
def nW:Tryz.prog.underlying 498=some (.map 98 67):=qkr
def dO:Tryz.prog.underlying 216=some (.map 9 467):=qkr
def aaM(h:eU w P b D)n:Cq 327 #[Mv b,Nv n] w λe w'=>∃u,e=.returned u/\cR w P (BL D n) u/\w'=w:=by
 obtain⟨t,u,e1,H1,hl⟩|⟨e1,hl⟩:=h.look gV n
 .obtain⟨ta,xa,rfl⟩:=H1.iface;have E1:=ai e1;go_enter func327,ntmps327
  go_wp2
  go_ret;exact⟨_,rfl,by rw[BL];rw[uh E1];exact H1,rfl⟩
 .have E1:=ai e1;go_enter func327,ntmps327
  go_wp2
  go_ret;exact⟨_,rfl,by rw[BL];rw[uh E1];exact .var n,rfl⟩
def ImI(P:Nat->Prop)n0 b D(_:List Nat)(B M:Nat->Prop)w:=(B=λx=>P x/\x<n0)/\(M=λ_=>False)/\eU w (λx=>P x/\x<n0) b D/\n0<=w.heap.size
def Rp(hb:P b){n0:Nat}(hn:b<n0):Img 327 #[Mv b] #[] (BL D) (λ_ _=>True) (ImI P n0 b D) where
 eg:=enters_of Tryz.func327 qkr rfl
 mR acc B M w w' h hz hk:=by
  obtain⟨rfl,rfl,h1,h2⟩:=h;exact⟨rfl,rfl,h1.move hz (hk b<|j6 ⟨hb,hn⟩) (λx p _=>hk x<|j6 p)<|λ_ p _=>p,j7 h2 hz⟩
 lt acc B M w h:=by
  obtain⟨rfl,rfl,h1,h2⟩:=h;rintro x(p|p)
  .omega
  .exact p.elim
 call acc B M w n h _:=by
  obtain⟨rfl,rfl,h1,h2⟩:=h;refine(aaM h1 n).mono ?_;rintro e w'⟨u,rfl,hu,rfl⟩;exact⟨u,_,_,rfl,hu.wide λx p=>⟨λq=>q,j6 p⟩,⟨rfl,rfl,h1,h2⟩,λx p=>j6 p,λx p=>j6 p,Fr.refl _ _⟩
def N9 t(P:Nat->Prop)w(e:Ending)w':=∃u,e=.returned u/\cR w' (λx=>P x\/w.heap.size<=x) t u/\Bq w w'
def Fr.none(h:Fr S w w')(hS:∀b,¬S b):Bq w w':=⟨h.os,h.tape,h.output,h.size,λk hk=>h.block k hk<|hS k⟩
def Eh(h:eU w P b D)(hb:P b){v}(ht:cR w Q t v)(hz:size t<=1000000000000)(kE:size (sub (BL D) t)<=1000000000000):Cq 314 #[Mv b,v] w (N9 (bG<|sub (BL D) t) P w):=by
 have HC:=xV (Rp (D:=D) hb h.lt) t [] _ _ w v Q ⟨rfl,rfl,h.low,br _⟩ (λi hi=>trivial) hz ht<|λx _ _=>id;obtain⟨ta,xa,rfl⟩:=ht.iface;go_enter func314,ntmps314;go_wp2_with fail;refine HC.mono ?_;rintro e w1⟨u,B',M',rfl,hU,_,_,_,F⟩;obtain⟨tu,xu,rfl⟩:=hU.iface;have b1:=F.none<|λ_ q=>q;have HB:=ai b1;have HK:=Wx hU kE;go_wp2_with fail;refine HK.mono ?_;rintro e w2⟨u2,rfl,HU,ed⟩;obtain⟨tu2,xu2,rfl⟩:=HU.iface
 go_wp2
 go_ret;have b1:=uh HB;refine⟨_,rfl,HU.wide λx p=>?_,b1.trans<|ed.mono b1.size⟩;obtain p|p:=p
 .obtain q|q:=p.2
  .exact j6 q.1
  .exact j5 q
 .exact j5 (j7 b1.size p)
end
section
variable {w:World} {b:Nat}
def CW{κ:Type}enc(L:List (κ×Value))(w:World)(e:Ending)(w':World):=e=.returned (Mv w.heap.size)/\MG enc w' w.heap.size L/\Bq w w'/\w'.heap.size=w.heap.size+1
def Rq{enc}{L:List (κ×Value)}{es:Array MapEntry}{clock:Nat}(h:es.toList.map (λe=>(e.key,e.val))=L.map (λp=>(enc p.1,p.2))/\(es.toList.map (·.born)).Nodup/\(∀e∈es.toList,e.born<clock)/\(L.map (·.1)).Nodup):CW enc L w (.returned<|Mv w.heap.size) (w.alloc<|.map es clock):=
 ⟨rfl,⟨es,clock,(xf w _).1,h⟩,bw _,ag⟩
def cG:Tryz.prog.underlying 220=some (.map 9 116):=qkr
def CX{p:Prop}(h:p:=by
 simp only[xi];rw[Oper.upon_value]
 go_wp2
 go_ret
 exact Rq HR):p:=h
def Wz(h:MG oS w b L):Cq 356 #[Mv b] w (CW oS L w):=by
 obtain⟨es,clock,hb,HR⟩:=h;have hq:=λw=>run_eql_map_nil_sl (P:=Tryz.prog) w 457 _ _ (some b) gV;go_enter func356,ntmps356;go_wp2_with fail;rw[run_callFunc_extern Tryz.func357 qkr qkr qkr (e:=Extern.MapsClone.clone) qkr,run_maps_clone_sl w 457 hb];simp only[Result.andThen];rw[Oper.upon_value];go_wp2_with fail;rw[run_typeAssert_map_sl _ 457 _ _ _ _ gV];exact CX
def Tz{L}(h:MG qy w b L):Cq 347 #[Mv b] w (CW qy L w):=by
 obtain⟨es,clock,hb,HR⟩:=h;have hq:=λw=>run_eql_map_nil_sl (P:=Tryz.prog) w 216 _ _ (some b) dO;go_enter func347,ntmps347;go_wp2_with fail;rw[run_callFunc_extern Tryz.func357 qkr qkr qkr (e:=Extern.MapsClone.clone) qkr,run_maps_clone_sl w 216 hb];simp only[Result.andThen];rw[Oper.upon_value];go_wp2_with fail;rw[run_typeAssert_map_sl _ 216 _ _ _ _ dO];exact CX
def WA{L}(h:MG qy w b L):Cq 394 #[Mv b] w (CW qy L w):=by
 obtain⟨es,clock,hb,HR⟩:=h;have hq:=λw=>run_eql_map_nil_sl (P:=Tryz.prog) w 220 _ _ (some b) cG;go_enter func394,ntmps394;go_wp2_with fail;rw[run_callFunc_extern Tryz.func357 qkr qkr qkr (e:=Extern.MapsClone.clone) qkr,run_maps_clone_sl w 220 hb];simp only[Result.andThen];rw[Oper.upon_value];go_wp2_with fail;rw[run_typeAssert_map_sl _ 220 _ _ _ _ cG];exact CX
theorem eU.bD(h2:∀m:Nat,aY (m:Int) L=none->D m=none)(h3:∀(m:Nat)v,aY (m:Int) L=some v->∃t,D m=some t/\cR w P t v)(h4:∀x v,aY x L=some v->∃m:Nat,x=(m:Int))(ht:cR w P t u)(hP:¬P b)(o:One b w w')(hM:MG oS w' b (Go.Proofs.YtfnkchdeheeiiaaGreatDoor.bD (n:Int) u L)):eU w' P b (dQ D n<|some t):=by
 have mv:∀{t v},cR w P t v->cR w' P t v:=λh=>h.move Jc (λx p _=>o.block x<|λe=>hP<|e▸p)<|λ_ p _=>p;refine⟨_,hM,λm hm=>?_,λm v hm=>?_,λx v hx=>?_⟩
 .rw[aJ]at hm;by_cases e:(n:Int)=(m:Int)
  .grind
  .rw[if_neg e]at hm;have e':¬m=n:=λq=>e (by rw[q]);simp only[dQ,e',if_false];exact h2 m hm
 .rw[aJ]at hm;by_cases e:(n:Int)=(m:Int)
  .rw[if_pos e]at hm;injection hm with hm;have e':m=n:=ae;subst hm;simp only[dQ,e',if_true];exact⟨t,rfl,mv ht⟩
  .rw[if_neg e]at hm;have e':¬m=n:=λq=>e (by rw[q]);simp only[dQ,e',if_false];have⟨t',q1,q2⟩:=h3 m v hm;exact⟨t',q1,mv q2⟩
 .rw[aJ]at hx;by_cases e:(n:Int)=x
  .exact⟨n,e.symm⟩
  .grind
def jW{tm}(htm:Tryz.prog.underlying tm=some (.map 98 67)){a}{Q}(hg:o.guard=none)m x v(qB:o.op=Op.insert tm m x v\/o.op=Op.mapUpdate tm m x v)(hm:a.eval m=Mv b)(h:eU w P b D)(hP:¬P b)(ht:cR w P t u)n(hx:a.eval x=Nv n)(hv:a.eval v=u)(hK:∀w',eU w' P b (dQ D n<|some t)->One b w w'->wpList ql ops Q rest (a.put o.dst undef) w'):
 wpList ql ops Q (o::rest) a w:=by
 obtain⟨L,h1,h2,h3,h4⟩:=h;exact b8 KLV htm hg m x v qB hm h1 (n:Int) u hx hv λw' hM o=>hK w' (eU.bD h2 h3 h4 ht hP o hM) o
def thD(D1 D2:Nat->Option Ty)(done:List Int)(n:Nat):Option Ty:=if(n:Int)∈done then(match D1 n with|some t=>some (bG<|sub (BL D2) t)|none=>D2 n)else D2 n
def xX(D1 D2:Nat->Option Ty)n:=match D1 n with|some t=>some (bG<|sub (BL D2) t)|none=>D2 n
def ThR(P:Nat->Prop)b1 D1 D2 L w gk wr:=
 ∃done,IG oS wr (w.heap.size+1) b1 L done gk/\eU wr (λx=>(P x/\x<w.heap.size)\/w.heap.size+2<=x) w.heap.size (thD D1 D2 done)/\Bq w wr
def WB(P:Nat->Prop)D1 D2 w(e:Ending)w':=
 ∃b3,e=.returned (Mv b3)/\w.heap.size<=b3/\eU w' (λx=>P x\/w.heap.size<=x) b3 (xX D1 D2)/\Bq w w'
def aaN{b1 b2}{D2}(h1:eU w P b1 D1)(h2:eU w P b2 D2)(hp2:P b2)(hz:∀n t,D1 n=some t->size t<=1000000000000/\size (sub (BL D2) t)<=1000000000000):
 Cq 346 #[Mv b1,Mv b2] w (WB P D1 D2 w):=by
 have H2:=ai h2;have l1:=h1.lt;have l2:=h2.lt;obtain⟨L1,M1,q12,q13,q14⟩:=h1;obtain⟨L2,m2,q22,q23,q24⟩:=h2;have HC:=Wz m2;have Q1:=And.intro q12<|And.intro q13 q14;have Q2:=And.intro q22<|And.intro q23 q24;go_enter func346,ntmps346;go_wp2_with fail;refine HC.mono ?_;rintro e w1⟨rfl,m3,k1,zz⟩;have⟨o,cnt,Y_,kT⟩:=(M1.af k1).range gV;rw[zz]at Y_ kT;have k2:Bq w (w1.alloc o):=k1.alloc (by rw[zz];omega) _;have HI:=ai kT;have HK:=ai k2;have S0:Hid (eU (w1.alloc o) (λx=>(P x/\x<w.heap.size)\/w.heap.size+2<=x) w.heap.size D2):=by
  obtain⟨r1,r2,r3⟩:=Q2;refine ai ⟨L2,m3.af<|bw _,r1,λn u hu=>?_,r3⟩;have⟨t,e,ht⟩:=r2 n u hu;exact⟨t,e,ht.move k2.size (λx _ hx=>k2.block x hx)<|λx p z=>j6 ⟨p,z⟩⟩
 go_wp2
 go_loopg[] cnt (λgk wr=>ThR P b1 D1 D2 L1 w gk wr)
 case atStart=>
  refine⟨[],HI,?_,HK⟩;have e:thD D1 D2 []=D2:=by funext n;simp[thD]
  rw[e];exact S0
 case round=>
  obtain⟨done,HI,HS,HB⟩:=hrel;have hiz:=HI.lt;have zr:=HB.size;rcases HI.next (P:=ql) GQ with⟨ha,Bz⟩|⟨x,u,w2,aB,hxd,Mg,Bz,HI1,bA,u_,eG,hen⟩
  .go_wp2
   go_ret;refine⟨w.heap.size,rfl,br _,?_,HB⟩;have e:thD D1 D2 done=xX D1 D2:=by
    funext n;unfold thD xX;by_cases q:(n:Int)∈done
    .rw[if_pos q]
    .rw[if_neg q];have:D1 n=none:=by
      cases hg:aY (n:Int) L1 with
      |none=>exact Q1.1 n hg|some v=>exact absurd (ha _ v hg) q
     rw[this]
   rw[<-e];exact HS.wide λx p=>by obtain p|p:=p;exact j6 p.1;exact j5 ae
  .obtain⟨r1,r2,r3⟩:=Q1;obtain⟨n,rfl⟩:=r3 x u Mg;have⟨t,E1,ht⟩:=r2 n u Mg;have⟨lY,kE⟩:=hz n t E1;obtain⟨ta,xa,rfl⟩:=ht.iface;have F1:=u_;have kb:∀i,i<w.heap.size->w2.heap[i]? =w.heap[i]? :=λi hi=>(F1.block i ae ae).trans<|HB.block i hi;have ed:Bq w w2:=⟨F1.os.trans HB.os,F1.tape.trans HB.tape,F1.output.trans HB.output,ae,kb⟩;have HC:=Eh (H2.low.move ed.size (kb b2 l2) (λx p _=>kb x p.2)<|λx p _=>p) (⟨hp2,l2⟩:P b2/\b2<w.heap.size) (ht.af ed) lY kE;have S2:=HS.fr F1 ae (λx p _=>by obtain p|p:=p<;>omega);go_wp2_with fail;refine HC.mono ?_;rintro e w3⟨u3,rfl,hU,k3⟩;obtain⟨tu,xu,rfl⟩:=hU.iface;have z3:=k3.size;have S3:=S2.af k3;have U3:=hU.wide (Q:=λx=>(P x/\x<w.heap.size)\/w.heap.size+2<=x) λx p=>by obtain p|p:=p;exact j6 p;exact j5 ae
   have I3:=HI1.same (k3.block b1 ae)<|k3.block _ ae;have K3:=ed.trans<|k3.mono ae;go_wp2_with(refine jW gV rfl _ _ _ (j5 rfl) rfl S3 ae U3 n rfl rfl ?_;intro w4 H' O';have S4:=ai H';have O4:=ai O';clear H' O');go_roundg aB
   case measure=>exact bA
   case rel=>
    have o:=uh O4;refine⟨(n:Int)::done,I3.same (o.block b1 ae)<|o.block _ ae,?_,?_⟩
    .have e:thD D1 D2 ((n:Int)::done)=dQ (thD D1 D2 done) n (some<|bG<|sub (BL D2) t):=by
      funext m;unfold dQ;by_cases q:m=n
      .subst q;unfold thD;rw[if_pos ag,if_pos rfl,E1]
      .have:¬(m:Int)=(n:Int):=ae;unfold thD;simp[q,this]
     rw[e];exact S4
    .have k:=K3;exact⟨o.os.trans k.os,o.tape.trans k.tape,o.output.trans k.output,by rw[o.size];exact k.size,λi hi=>(o.block i ae).trans<|k.block i hi⟩
end
def uY(rk:Nat->Nat):Ty->Nat
 |.var n=>rk n+1|.aH _ _=>0
structure agZ(K:Nat->Option Ty)R t t1:Prop where
 eq:sub R t1=sub R t
 op:∀n,t1=.var n->K n=none
def ag0(J:Ty->Prop)(K:Nat->Option Ty)R rk P t w gk v wr:=
 ∃t1,Hid (gk=uY rk t1)/\wr=w/\cR w P t1 v/\Hid (J t1)/\Hid (sub R t1=sub R t)
section
variable {w:World} {b:Nat} {rk:Nat->Nat}
def WD(J:Ty->Prop)(hJ:∀n t,K n=some t->J t)(h:eU w P b K)(hK:sk K R rk){v}(ht:cR w P t v)(h0:J t):Cq 361 #[Mv b,v] w λe w'=>∃u t1,e=.returned u/\cR w P t1 u/\agZ K R t t1/\J t1/\w'=w:=by
 obtain⟨ta,xa,rfl⟩:=ht.iface;go_enter func361,ntmps361
 go_wp2
 go_loopg[1] (uY rk t) (λgk v wr=>ag0 J K R rk P t w gk v wr)
 case atStart=>exact⟨t,ai rfl,rfl,ht,ai h0,ai rfl⟩
 case round=>
  obtain⟨t1,c_,rfl,hT,hJ1,hE⟩:=hrel
  cases hT with
  |var n=>
   obtain⟨t2,u,e1,H2,hl⟩|⟨e1,hl⟩:=h.look nW n
   .obtain⟨tu,xu,rfl⟩:=H2.iface;have E1:=ai e1
    go_wp2
    go_roundg(uY rk t2)
    case measure=>
     rw[uh c_]
     cases t2 with
     |var m=>have:=hK.U7 n m E1;simp only[uY];omega|aH c l=>simp only[uY];omega
    case rel=>exact⟨t2,ai rfl,rfl,H2,ai<|hJ n t2 E1,ai (by rw[<-uh hE];exact(hK.shut n t2 E1).symm)⟩
   .have E1:=ai e1
    go_wp2
    go_ret;exact⟨_,.var n,rfl,.var n,⟨hE,λm hm=>by cases hm;exact E1⟩,hJ1,rfl⟩
  |aH c L sa sc vs hc aN hr=>
   go_wp2
   go_ret;exact⟨_,.aH c L,rfl,.aH c L sa sc vs hc aN hr,⟨hE,λm hm=>by cases hm⟩,uh hJ1,rfl⟩
end
def K_ g cs(l:List Nat)(p:Nat->Bool)w:=∀(W:World)(n:Nat),n∈l->Bq w W->Cq g (#[Nv n]++cs) W λe w'=>e=.returned (.bool<|p n)/\Bq W w'
def IxV(l:List Nat)(p:Nat->Bool)k:=(k= -1/\∀n∈l,p n=false)\/∃i,∃h:i<l.length,k=(i:Int)/\p l[i]=true/\∀j(hj:j<l.length),j<i->p l[j]=false
def ag1(l:List Nat)(p:Nat->Bool)w gk v wr:=
 ∃j:Nat,Hid (gk=l.length-j)/\j<=l.length/\v=Nv j/\Bq w wr/\Hid (∀i(hi:i<l.length),i<j->p l[i]=false)
section
variable {w:World} {v:Value} {p:Nat->Bool}
def eS l:(mW l).length=l.length:=by simp[mW]
def mX(eg:∀args w,(callFunc g args).run ql w=.ok (.enter g args) w)(ho:f_ w 98 base v (mW l))(hl:l.length<=1000000000000)(hp:K_ g cs l p w):
 Cq 370 #[v,.func (.func g) #[] cs] w λe w'=>∃k,e=.returned (Iv k)/\IxV l p k/\Bq w w':=by
 obtain⟨va,vc,rfl⟩:=dD ho (n:=l.length)<|eS l;go_enter func370,ntmps370
 go_wp2
 go_loopg[8] l.length (λgk v wr=>ag1 l p w gk v wr)
 case atStart=>exact⟨0,ai ag,j8 _,rfl,qt _ _,ai<|λi _ hi=>absurd hi ae⟩
 case round=>
  obtain⟨j,c_,hj,rfl,HK,mS⟩:=hrel;by_cases bh:j<l.length
  .have hd:(j:Int)<(l.length:Int):=ae;have hjv:j<(mW l).length:=by rw[eS];exact bh
   have⟨gv,cpv,mv,hv,hgv,kC,_⟩:=gS ho ae;injection hv with Jy TE hv3;subst Jy;have cg0:=kU ho j hjv;rw[show(mW l)[j]=Nv (l[j]) by simp[mW]]at cg0;have cg:=(qp (a:=⟨gv,j,none⟩)<|HK.block gv kC).trans cg0;have HC:=hp wr l[j] (jt bh) HK;clear cg0 TE hv3
   cases hpj:p l[j]with
   |true=>
    rw[hpj]at HC;generalize hx:l[j]=x at*;go_wp2_with(go_at_fn g;refine HC.mono ?_;rintro e w1⟨rfl,k1⟩;have HK1:=ai k1;clear k1);go_ret;have k:=HK;exact⟨j,rfl,j5 ⟨j,bh,rfl,by rw[hx];exact hpj,mS⟩,k.trans<|HK1.mono k.size⟩
   |false=>
    rw[hpj]at HC;generalize hx:l[j]=x at*;go_wp2_with(go_at_fn g;refine HC.mono ?_;rintro e w1⟨rfl,k1⟩;have HK1:=ai k1;clear k1);go_roundg(l.length-(j+1))
    case measure=>rw[uh c_];omega
    case rel=>
     have k:=HK;refine⟨j+1,ai rfl,ae,iF,k.trans<|HK1.mono k.size,ai<|λi hi Y'=>?_⟩;by_cases e:i=j
     .subst e;rw[hx];exact hpj
     .exact mS i hi ae
  .have hd:decide ((j:Int)<(l.length:Int))=false:=bQ;have ej:j=l.length:=ae;subst ej
   go_wp2
   go_ret;refine⟨-1,rfl,j6 ⟨rfl,λn hn=>?_⟩,HK⟩;obtain⟨i,hi,rfl⟩:=List.getElem_of_mem hn;exact mS i hi hi
def IxV.any{k}(h:IxV l p k):decide (0<=k)=l.any p:=by grind[IxV]
def xY(eg:∀args w,(callFunc g args).run ql w=.ok (.enter g args) w)(ho:f_ w 98 base v (mW l))(hl:l.length<=1000000000000)(hp:K_ g cs l p w):
 Cq 371 #[v,.func (.func g) #[] cs] w λe w'=>e=.returned (.bool<|l.any p)/\Bq w w':=by
 have HC:=mX eg ho hl hp;obtain⟨va,vc,rfl⟩:=dD ho (n:=l.length)<|eS l;go_enter func371,ntmps371;go_wp2_with fail;refine HC.mono ?_;rintro e w1⟨k,rfl,hk,HK⟩;have HA:=hk.any
 go_wp2
 go_ret;refine⟨?_,HK⟩;rw[<-HA];rfl
end
section
variable {b:Nat} {rk:Nat->Nat}
open Classical in
noncomputable def xZ (R:Nat->Ty) (v:Nat) (n:Nat):Bool:=decide (aD v<|R n)
open Classical in
def GU R v t:(vars [] t).any (xZ R v)=decide (aD v<|sub R t):=by
 have h:∀n,n∈vars [] t↔aD n t:=λn=>by simpa using bI t [] n
 by_cases q:aD v (sub R t)
 .rw[decide_eq_true q,List.any_eq_true];have⟨m,h1,h2⟩:=(Go.Proofs.YtfnkchdeheeiiaaGreatDoor.Un.kX t).1 q;exact⟨m,(h m).2 h1,by simp[xZ,h2]⟩
 .rw[decide_eq_false q,List.any_eq_false];intro m hm;simp only[xZ,decide_eq_true_eq];exact λr=>q<|(Go.Proofs.YtfnkchdeheeiiaaGreatDoor.Un.kX t).2 ⟨m,(h m).1 hm,r⟩
def N_ P b K R v t:=∀(w:World)(x:Value),eU w P b K->cR w P t x->size t<=1000000000000->
 Cq 367 #[Mv b,x,Nv v] w λe w'=>e=.returned (.bool<|(vars [] t).any<|xZ R v)/\Bq w w'
def N'{p:Prop}(h:p:=by
 rw[hb]at HC;go_enter func372,ntmps372;go_wp2_with fail;refine HC.mono ?_;rintro e w1⟨rfl,HK⟩
 go_wp2
 go_ret
 exact⟨rfl,HK⟩):p:=h
def La(hK:sk K R rk)(hs:∀n t,K n=some t->size t<=1000000000000){v:Nat}(hv:K v=none)n(IH:∀t,K n=some t->N_ P b K R v t){sb vb}(h:eU W P b K)(h1:Bx W sb #[Mv b])(h2:Bx W vb #[Nv v]):
 Cq 372 #[Nv n,Pv sb,Pv vb] W λe w'=>e=.returned (.bool<|xZ R v n)/\Bq W w':=by
 obtain⟨c1,f1,z1⟩:=h1;obtain⟨c2,f2,z2⟩:=h2;obtain⟨t,u,e1,ht,hl⟩|⟨e1,hl⟩:=h.look nW n
 .obtain⟨tu,xu,rfl⟩:=ht.iface;have dw:n≠v:=λq=>by rw[q,hv]at e1;cases e1
  have hd:((n:Int)==(v:Int))=false:=bQ;have HC:=IH t e1 W _ h ht<|hs n t e1;have eo:(vars [] t).any (xZ R v)=xZ R v n:=by
   rw[GU,xZ,hK.shut n t e1]
  rw[eo]at HC
  cases hb:xZ R v n with
  |true=>
   exact N'
  |false=>
   exact N'
 .have eo:xZ R v n=decide (n=v):=by
   exact decide_eq_decide.2 (by rw[hK.open_ n e1];simp[aD])
  rw[eo];by_cases hnv:n=v
  .subst hnv;go_enter func372,ntmps372
   go_wp2
   go_ret;exact⟨ag,qt _ _⟩
  .have hd:((n:Int)==(v:Int))=false:=bQ;go_enter func372,ntmps372
   go_wp2
   go_ret;exact⟨by simp[hnv],qt _ _⟩
def Rr(hK:sk K R rk)(hs:∀n t,K n=some t->size t<=1000000000000){v:Nat}(hv:K v=none)t(IH:∀n,aD n t->∀t',K n=some t'->N_ P b K R v t'):N_ P b K R v t:=by
 intro w x HH ht hz;have kb:Bq w ((w.alloc<|Cv #[Mv b] 498).alloc<|Cv #[Nv v] 98):=(bw _).alloc ag _;have b1:Bx ((w.alloc<|Cv #[Mv b] 498).alloc<|Cv #[Nv v] 98) w.heap.size #[Mv b]:=(xh w _ _).below<|bw _;have B2:Bx ((w.alloc<|Cv #[Mv b] 498).alloc<|Cv #[Nv v] 98) (w.heap.size+1) #[Nv v]:=by
  have:=xh (w.alloc<|Cv #[Mv b] 498) #[Nv v] 98;simpa using this
 have HV:=e_ (ht.af kb) hz;obtain⟨ta,xa,rfl⟩:=ht.iface;have hlen:(vars [] t).length<=1000000000000:=by
  exact GO
 have KB:=ai kb;have B1:=ai b1;go_enter func367,ntmps367;go_wp2_with fail;refine HV.mono ?_;rintro e w1⟨V,rfl,ho,k1⟩;have⟨va,vc,hva⟩:=dD ho (n:=(vars [] t).length)<|eS _;have hT:K_ 372 #[Pv w.heap.size,Pv<|w.heap.size+1] (vars [] t) (xZ R v) w1:=λW n hn hb=>
  have kW:=(KB.trans<|k1.mono KB.size).trans<|hb.mono<|j7 KB.size k1.size
  La hK hs hv n (λt' ht'=>IH n (by simpa using(bI t [] n).1 hn) t' ht') (HH.af kW) ((B1.below k1).below hb) ((B2.below k1).below hb)
 have HC:=xY (enters_of Tryz.func372 qkr rfl) ho hlen hT;have K1:=ai k1;subst hva;go_wp2_with fail;refine HC.mono ?_;rintro e w2⟨rfl,K2⟩
 go_wp2
 go_ret;have kb:=uh KB;have k1:=uh K1;exact⟨rfl,(kb.trans<|k1.mono kb.size).trans<|K2.mono<|j7 kb.size k1.size⟩
def WI(hK:sk K R rk)(hs:∀n t,K n=some t->size t<=1000000000000){v:Nat}(hv:K v=none):∀(s f:Nat)(t:Ty),size (sub R t)<=s->uY rk t<=f->N_ P b K R v t:=by
 intro s
 induction s using j9 with
 |ind s ihs=>
  intro f
  induction f using j9 with
  |ind f ihf=>
   intro t h1 h2;refine Rr hK hs hv t λn hn t' ht'=>?_;have e:=hK.shut n t' ht'
   cases t with
   |var m=>
    simp only[aD]at hn;subst hn;simp only[sub]at h1;rw[e]at h1;simp only[uY]at h2;refine ihf (uY rk t') ?_ t' h1<|br _
    cases t' with
    |var u=>have:=hK.U7 m u ht';simp only[uY];omega|aH c l=>simp only[uY];omega
   |aH c l=>
    have h3:=iS R n l qBx;simp only[sub,size]at h1;exact ihs (size<|sub R t') (by rw[<-e];omega) (uY rk t') t' (br _)<|br _
end
structure TyI(V:List Nat)t:Prop where
 v:∀m,aD m t->m∈V
 z:size t<=48
 w:Whole t
def zR V(K:Nat->Option Ty):=∀n t,K n=some t->n∈V/\TyI V t
def opL(V:List Nat)(K:Nat->Option Ty):Nat:=(V.filter λn=>(K n).isNone).length
def aeA(h:n∈V)(e:K n=none):opL V (dQ K n<|some t)<opL V K:=by
 refine filter_lt (m:=n) (λi hi=>?_) h QX (by simp[dQ]);by_cases q:i=n
 .simp[dQ,q]at hi
 .simpa[dQ,q]using hi
def GW V K K'(R R':Nat->Ty):=(K'=K/\R'=R)\/opL V K'<opL V K
def cC P b V K R x y w(e:Ending)w':=
 ∃ok:Bool,e=.returned (.bool ok)/\Fr (λi=>i=b) w w'/\
  (ok=true->∃K' R' M5,eU w' P b K'/\sk K' R' M5/\zR V K'/\Made R R' x y/\GW V K K' R R')/\
  (ok=false->∀σ,sub σ (sub R x)≠sub σ (sub R y))
section
variable {w:World} {b:Nat} {rk:Nat->Nat}
def zR.qA(h:zR V K):∀n t,K n=some t->size t<=1000000000000:=λn t e=>by have:=(h n t e).2.z;omega
def Oa{p:Prop}(h:p:=by
 go_enter func362,ntmps362;go_wp2_with fail;refine HC.mono ?_;rintro e w1⟨rfl,K1⟩;have S1:=HS.af K1;have T1:=ht.af K1;go_wp2_with(refine jW nW rfl _ _ _ (Or.inr rfl) rfl S1 hP T1 n rfl rfl ?_;intro w4 H' O';have S4:=ai H';have O4:=ai O';clear H' O');go_ret;have o:=uh O4
 exact⟨true,rfl,(Fr.of K1).trans ⟨o.os,o.tape,o.output,Jc,λk _ hk=>o.block k hk⟩,λ_=>HY HO _ S4,λh=>by(cases h)⟩):p:=h
def Ob{p:Prop}(h:p:=by
 go_enter func362,ntmps362;go_wp2_with fail;refine HC.mono ?_;rintro e w1⟨rfl,K1⟩
 go_wp2
 go_ret
 exact⟨false,rfl,Fr.of K1,λh=>by(cases h),λ_ σ=>HN σ HO⟩):p:=h
def GX(h:eU w P b K)(hP:¬P b)(hK:sk K R rk)(hI:zR V K)(hn:K n=none)(hnV:n∈V){x}(ht:cR w P t x)(hti:TyI V t)(hh:∀u,t=.var u->K u=none):
 Cq 362 #[Mv b,Nv n,x] w (cC P b V K R (.var n) t w):=by
 have HS:=ai h;by_cases WJ:t=.var n
 .subst WJ
  cases ht
  have h1:=aeu;go_enter func362,ntmps362
  go_wp2
  go_ret;exact⟨true,rfl,Fr.refl _ _,λ_=>⟨K,R,rk,HS,hK,hI,Made.refl rfl,j6 ⟨rfl,rfl⟩⟩,λh=>JB⟩
 .have HC:=WI (P:=P) (b:=b) hK hI.qA hn (size<|sub R t) (uY rk t) t (br _) (br _) w x h ht (by have:=hti.z;omega);rw[GU]at HC;have HN:∀σ,aD n (sub R t)->sub σ (sub R<|.var n)≠sub σ (sub R t):=λσ ho=>by
   cases t with
   |var u=>
    have:=hK.open_ u<|hh u rfl;simp[sub,this,aD]at ho;exact absurd (by rw[ho]) WJ
   |aH c l=>exact aak hK hn ho σ
  have HY:¬aD n (sub R t)->∀w',eU w' P b (dQ K n<|some t)->∃K' R' M5,eU w' P b K'/\sk K' R' M5/\zR V K'/\Made R R' (.var n) t/\GW V K K' R R':=λho w' hw=>by
   have⟨M5,gG⟩:=hK.bind hn ho hh;refine⟨_,_,M5,hw,gG,λm s e=>?_,Made.bind hK hn ho,j5<|aeA hnV hn⟩;by_cases q:m=n
   .simp only[dQ,q,if_true,Option.some.injEq]at e;subst e q;exact⟨hnV,hti⟩
   .simp only[dQ,q,if_false]at e;exact hI m s e
  obtain⟨ta,xa,rfl⟩:=ht.iface;have key:(∃m,ta=98/\xa=Iv m/\(m==(n:Int))=false)\/∃p q,ta=169/\xa=Av #[p,q]:=by
   cases ht with
   |var m=>exact j6 ⟨m,rfl,rfl,by simp;intro e;exact WJ<|by rw[show m=n by omega]⟩|aH c L sa sc vs hc aN hr=>exact j5 ⟨_,_,rfl,rfl⟩
  cases ho:(@decide (aD n<|sub R t)<|xj _)with
  |true=>
   rw[ho]at HC;have HO:= @of_decide_eq_true _ (xj _) ho;obtain⟨m,rfl,rfl,hm⟩|⟨p,q,rfl,rfl⟩:=key
   .have h1:=aeu;exact Ob
   .have h1:=agS;exact Ob
  |false=>
   rw[ho]at HC;have HO:= @of_decide_eq_false _ (xj _) ho;obtain⟨m,rfl,rfl,hm⟩|⟨p,q,rfl,rfl⟩:=key
   .have h1:=aeu;exact Oa
   .have h1:=agS;exact Oa
end
@[simp] theorem ajD a b w:(qu (.iface 169<|.agg #[a,b]) 67 169 false).run ql w=.ok (.agg #[a,b]) w:=qkr
def aV(w:World)o:(w.alloc o).heap.size=w.heap.size+1:=ag
def pk w C1 C2 v1 v2 wc:=∃p q,v1=Pv p/\v2=Pv q/\w.heap.size<=p/\w.heap.size<=q/\Bx wc p C1/\Bx wc q C2/\Bq w wc
theorem pk.a w C1 C2 t1 t2:pk w C1 C2 (Pv w.heap.size) (Pv<|w.heap.size+1) ((w.alloc<|.cells C1 t1).alloc<|.cells C2 t2).drew:=by
 refine⟨_,_,rfl,rfl,br _,Nat.le_succ _,((xh w C1 t1).below<|bw _).g_,?_,((bw _).alloc ag _).drew⟩;have:=xh (w.alloc<|Cv C1 t1) C2 t2;simp only[aV]at this;exact this.g_
def pk.b w C1 C2 t1 t2:pk w C1 C2 (Pv<|w.heap.size+1) (Pv w.heap.size) ((w.alloc<|.cells C2 t2).alloc<|.cells C1 t1).drew:=by grind[pk,pk.a]
def aeB P b V K R(L L2:List Ty)p q C0 C1 w gk c wr:=
 ∃(j:Nat)(K':Nat->Option Ty)(R':Nat->Ty)(M5:Nat->Nat),Hid (gk=L.length-j)/\j<=L.length/\c=Nv j/\Fr (λi=>i=b) w wr/\eU wr P b K'/\sk K' R' M5/\zR V K'/\nD R R' (L.take j) (L2.take j)/\Hid (GW V K K' R R')/\Bx wr p C0/\Bx wr q C1
def Oc{p:Prop}(h:p:=by
 rw[jM,jN]at h;have:=congrArg xk h;rw[e1,e2]at this;simp at this):p:=h
def aaO{d}(hc:CN c)(hd:CN d)(h:pn c=pn d):c=d:=by
 have e1:(⟨#[45,62]⟩:BA).toList=[45,62]:=toList_mk _;have e2:(⟨#[44]⟩:BA).toList=[44]:=toList_mk _;obtain rfl|rfl|hc:=hc<;>obtain rfl|rfl|hd:=hd
 .rfl
 .exact Oc
 .rw[jM,eJ hd]at h;exact absurd (by rw[<-h,e1])<|cP hd 45 [62] aK
 .exact Oc
 .rfl
 .rw[jN,eJ hd]at h;exact absurd (by rw[<-h,e2])<|cP hd 44 [] aK
 .rw[jM,eJ hc]at h;exact absurd (by rw[h,e1])<|cP hc 45 [62] aK
 .rw[jN,eJ hc]at h;exact absurd (by rw[h,e2])<|cP hc 44 [] aK
 .rw[eJ hc,eJ hd]at h;exact h
def TyI.at{V}{c}{L}(h:TyI V (.aH c L))i(hi:i<L.length):TyI V L[i]:=
 ⟨λm hm=>h.v m<|NT L i hi hm,by have:=lA L i hi;have:=h.z;simp only[size]at this;omega,s_ h.w.2 i hi⟩
section
variable {b:Nat}
def ag2 P b V K R rk x y:=∀(w:World)(v u:Value),eU w P b K->sk K R rk->zR V K->TyI V x->TyI V y->cR w P x v->cR w P y u->
 Cq 354 #[Mv b,v,u] w (cC P b V K R x y w)
def cC.fr{w:World}{e:Ending}(h:cC P b V K R x y w e w'):Fr (λi=>i=b) w w':=by grind[cC]
def cC.up{w:World}{e:Ending}(h:cC P b V K R x y w0 e w')(hb:Bq w w0):cC P b V K R x y w e w':=by
 obtain⟨ok,h1,h2,h3,h4⟩:=h;exact⟨ok,h1,(Fr.of hb).trans h2,h3,h4⟩
def GW.trans{K1 K2}{R1 R2}(h:GW V K K1 R R1)(k:GW V K1 K2 R1 R2):GW V K K2 R R2:=by grind[GW]
def cC.of{x' y'}{w:World}{e:Ending}(h:cC P b V K R x' y' w e w')(hx:sub R x'=sub R x)(hy:sub R y'=sub R y):cC P b V K R x y w e w':=by
 obtain⟨ok,h1,h2,h3,h4⟩:=h;refine⟨ok,h1,h2,λe=>?_,λe σ=>by rw[<-hx,<-hy];exact h4 e σ⟩;have⟨K',R',M5,q1,q2,q3,q4,q5⟩:=h3 e;exact⟨K',R',M5,q1,q2,q3,q4.aaj hx hy,q5⟩
def cC.swap{K}{R}{x y}{w}{e}{w'}(h:cC P b V K R x y w e w'):cC P b V K R y x w e w':=by
 obtain⟨ok,h1,h2,h3,h4⟩:=h;refine⟨ok,h1,h2,λe=>?_,λe σ q=>h4 e σ q.symm⟩;have⟨K',R',M5,q1,q2,q3,q4,q5⟩:=h3 e;exact⟨K',R',M5,q1,q2,q3,q4.swap,q5⟩
def WL(hP:¬P b):∀(f s:Nat)(K:Nat->Option Ty)(R:Nat->Ty)(rk:Nat->Nat)(x y:Ty),opL V K<=f->size (sub R x)<=s->ag2 P b V K R rk x y:=by
 intro f
 induction f using j9 with
 |_ f ihf=>
 intro s
 induction s using j9 with
 |_ s ihs=>
  intro K R rk x y Hf Hs w v u h hK hI hx hy hv hu;have HS:=ai h;have HH1:=WD (TyI V) (λn t e=>(hI n t e).2) h hK hv hx;have yS:=WD (TyI V) (λn t e=>(hI n t e).2) h hK hu hy;obtain⟨ta,xa,rfl⟩:=hv.iface;obtain⟨tb,xb,rfl⟩:=hu.iface;go_enter func354,ntmps354;go_wp2_with fail;refine HH1.mono ?_;rintro e w1⟨v1,x1,rfl,Jy,Od,Rs,rfl⟩;obtain⟨wE,wF,rfl⟩:=Jy.iface;clear HH1;go_wp2_with fail;refine yS.mono ?_;rintro e w2⟨u1,y1,rfl,ux,hd2,hy1,rfl⟩;obtain⟨tb1,xb1,rfl⟩:=ux.iface;clear yS h hv hu
  cases x1 with
  |var n=>
   have HC:=GX HS hP hK hI (Od.op n rfl) (Rs.v n rfl) ux hy1 hd2.op
   cases Jy
   have E:=And.intro Od.eq hd2.eq;clear Od hd2 ux;go_wp2_with fail;refine HC.mono ?_;intro e w3 uA;have HQ:=uA.of E.1 E.2;obtain⟨ok,rfl,-⟩:=uA;clear HC
   go_wp2
   go_ret;exact HQ
  |aH c L=>
  cases y1 with
  |var n=>
   have HC:=GX HS hP hK hI (hd2.op n rfl) (hy1.v n rfl) Jy Rs Od.op;have key:∃p q,wE=169/\wF=Av #[p,q]:=by cases Jy;exact⟨_,_,rfl,rfl⟩
   obtain⟨p,q,rfl,rfl⟩:=key
   cases ux
   have E:=And.intro Od.eq hd2.eq;clear Od hd2 Jy;go_wp2_with fail;refine HC.mono ?_;intro e w3 uA;have HQ:=uA.swap.of E.1 E.2;obtain⟨ok,rfl,-⟩:=uA;clear HC
   go_wp2
   go_ret;exact HQ
  |aH d L2=>
   cases Jy with
   |aH _ _ sa sc vs hc aN hr=>
   cases ux with
   |aH _ _ sa2 sc2 vs2 Zd xG hr2=>
   have hc:=hc.resolve_right Rs.w.1;have Zd:=Zd.resolve_right hy1.w.1;have E:=And.intro Od.eq hd2.eq;clear Od hd2;go_wp2_with fail;go_cut[11,12]from 40 (λv1 v2 wc=>pk w2 #[Sv<|pn c,Lv sa L.length sc] #[Sv<|pn d,Lv sa2 L2.length sc2] v1 v2 wc)
   case first=>
    clear ihf ihs hr hr2 aN xG;go_region
    all_goals(
     go_wp2_with fail
     go_meet
     case rel=>first|exact pk.a w2 _ _ _ _|exact pk.b w2 _ _ _ _)
   case rest=>
    obtain⟨p,q,rfl,rfl,zp,zq,X1,X2,KC⟩:=hcut;obtain⟨c1,f1,z1⟩:=X1;obtain⟨c2,f2,z2⟩:=X2;by_cases hcd:c=d
    .subst hcd;by_cases hlen:L.length=L2.length
     .have hd0:((L.length:Int) !=(L2.length:Int))=false:=bQ;have ajQ:L.length<=48:=by have:=CR L;have:=Rs.z;simp only[size]at this;omega
      have HE:=ai hlen;have T1:=show Bx wc p #[Sv<|pn c,Lv sa L.length sc]from⟨c1,f1,z1⟩;have T2:=show Bx wc q #[Sv<|pn c,Lv sa2 L2.length sc2]from⟨c2,f2,z2⟩;clear hlen
      go_wp2
      go_loopg[61] L.length (λgk c1 wr=>aeB P b V K R L L2 p q #[Sv<|pn c,Lv sa L.length sc] #[Sv<|pn c,Lv sa2 L2.length sc2] w2 gk c1 wr)
      case atStart=>exact⟨0,K,R,rk,ai ag,j8 _,rfl,Fr.of KC,HS.af KC,hK,hI,by simpa using nD.nil R,ai<|j6 ⟨rfl,rfl⟩,T1,T2⟩
      case round=>
       clear T1 T2 c1 c2 f1 f2 z1 z2;obtain⟨j,K1,R1,rk1,c_,hj,rfl,y_,S1',hK1,hI1,HM1,hL1,T1,T2⟩:=hrel;have hlen:=uh HE;by_cases bh:j<L.length
       .have hd:(j:Int)<(L.length:Int):=ae;have hd':(j:Int)<(L2.length:Int):=ae;have Ru:j<L2.length:=ae;obtain⟨g1,rfl,hg1,lY,WM⟩:=aN.resolve_left<|λe=>qBs;obtain⟨g2,rfl,Rw,kE,WO⟩:=xG.resolve_left (λe=>by subst e;simp at Ru);have nb:∀i,P i->i<w2.heap.size->¬i=b:=λi hi _ e=>hP<|e▸hi;have a1:=(qp (a:=⟨g1,j,none⟩)<|y_.block g1 lY<|nb g1 hg1 lY).trans<|WM j bh;have a2:=(qp (a:=⟨g2,j,none⟩)<|y_.block g2 kE<|nb g2 Rw kE).trans<|WO j Ru;have t1:=(hr j bh).fr y_ nb;have t2:=(hr2 j Ru).fr y_ nb;have ih:ag2 P b V K1 R1 rk1 L[j] L2[j]:=by
         have hs1:size (sub R L[j])<=ah (aS R L):=by
          have:=lA (aS R L) j (by rw[dV];exact bh)
          rwa[NS R L j bh]at this
         have AR:=Hs;rw[<-E.1]at AR;simp only[sub,size]at AR;obtain⟨rfl,rfl⟩|bA:=uh hL1
         .exact ihs (size<|sub R1 L[j]) ae K1 R1 rk1 L[j] L2[j] Hf (br _)
         .exact ihf (opL V K1) (by have:=Hf;omega) (size<|sub R1 L[j]) K1 R1 rk1 L[j] L2[j] (br _) (br _)
        have HC:=λ(W:World)(hb:Bq wr W)=>ih W (vs j) (vs2 j) (S1'.af hb) hK1 hI1 (Rs.at j bh) (hy1.at j Ru) (t1.af hb)<|t2.af hb;have⟨tu1,xu1,e1⟩:=t1.iface;have⟨tu2,xu2,e2⟩:=t2.iface;rw[e1]at a1 HC;rw[e2]at a2 HC;have Qx:=ai T1;have ZQ:=ai T2;obtain⟨c1,f1,z1⟩:=T1;obtain⟨c2,f2,z2⟩:=T2;clear ih t1 t2 hK1 hI1 WM WO hlen;go_wp2_with fail;go_cut[61,76]from 61 to 77 (λc3 v3 wd=>c3=Nv j/\∃ok,v3=.bool (!ok)/\cC P b V K1 R1 L[j] L2[j] wr (Rv<|.bool ok) wd)
        case first=>
         clear ihf ihs hr hr2 aN xG HM1 hL1 c_ HS hK hI hx hy Hf Hs E KC;go_region_with(go_at_call 354;refine(HC _ (qt _ _).drew).mono ?_;intro e w3 uA;have HQ:=ai uA;obtain⟨ok,rfl,-⟩:=uA)
         all_goals(
          go_wp2_with fail
          go_meet
          case rel=>exact⟨rfl,ok,rfl,HQ.up (qt _ _).drew⟩)
        case rest=>
         obtain⟨rfl,ok,rfl,HQ⟩:=hcut;have F2:=HQ.fr;have ze:=HQ.fr.size;have zr:=y_.size;have U1:=ai (Qx.fr F2 (λe=>by have:=HS.lt;omega));have U2:=ai (ZQ.fr F2 (λe=>by have:=HS.lt;omega));have HF:=y_.trans F2;clear F2 c1 f1 z1 c2 f2 z2 a1 a2 HC
         cases ok with
         |false=>
          go_wp2
          go_ret;refine cC.of ⟨false,rfl,HF,λh=>by(cases h),λ_ σ=>?_⟩ E.1 E.2;obtain⟨ok,q1,_,_,q4⟩:=HQ;have q4:=q4 (by injection q1 with q1;injection q1 with q1;exact q1.symm);rw[GY L j bh,GY L2 j Ru];exact HM1.no bQ q4 c c σ
         |true=>
          go_wp2
          go_roundg(L.length-(j+1))
          case measure=>rw[uh c_];omega
          case rel=>
           obtain⟨ok,q1,_,q3,_⟩:=HQ;have⟨K2,R2,rk2,r1,r2,r3,r4,r5⟩:=q3 (by injection q1 with q1;injection q1 with q1;exact q1.symm);refine⟨j+1,K2,R2,rk2,ai rfl,ae,iF,HF,r1,r2,r3,?_,ai ?_,U1,U2⟩
           .rw[ji bh,ji Ru];exact HM1.snoc bQ r4
           .exact hL1.trans r5
       .have hd:decide ((j:Int)<(L.length:Int))=false:=bQ;have ej:j=L.length:=ae;subst ej;clear hlen
        go_wp2
        go_ret;refine cC.of ⟨true,rfl,y_,λ_=>⟨K1,R1,rk1,S1',hK1,hI1,?_,hL1⟩,λh=>by(cases h)⟩ E.1 E.2;have hm:=HM1;rw[jf,uh HE,jf]at hm;exact hm.aH c
     .have hd0:((L.length:Int) !=(L2.length:Int))=true:=bQ
      go_wp2
      go_ret;refine cC.of ⟨false,rfl,Fr.of KC,λh=>by(cases h),λ_ σ=>QU hlen⟩ E.1 E.2
    .have dw:pn c≠pn d:=λe=>hcd<|aaO hc Zd e;have hd0:¬(pn c).toList=(pn d).toList:=λe=>dw<|toList_inj e;clear dw
     go_wp2
     go_ret;refine cC.of ⟨false,rfl,Fr.of KC,λh=>by(cases h),λ_ σ=>J4 hcd⟩ E.1 E.2
end
namespace Un
def dF.Oe{t'}(h:dF t' t)(hw:Whole t):bG t'=bG t:=by grind[dF,Whole,bG,sz,nE]
def dF.acC t(hw:Whole t):dF (bG t) t:=(dF.refl t).cut hw
def GZ n:bG (.var n)=.var n:=by simp[bG,sz]
def wH(h:size t<=48)(hw:Whole t):bG t=t:=by grind[size,Whole,bG,nE]
def eW(hw:Whole t){C}(h:(vars [] t).length<=C)(hC:48<=C):size (bG t)<=1+C:=QV h hC λq=>J7 q
end Un
section
variable {rk:Nat->Nat}
def G7 t n(h:n∈occs t):aD n t:=by
 have:n∈vars [] t:=by rw[cr];exact(fW n _ _).2 (j5 h)
 simpa using(bI t [] n).1 this
def WQ(K:Nat->Option Ty)(R:Nat->Ty)(D:Nat->Option Ty):=∀n t,D n=some t->t=bG (R n)/\K n≠none
structure x_(K:Nat->Option Ty)(R:Nat->Ty):Prop where
 whole:∀n,Whole<|R n
 len:∀n,(vars []<|R n).length<=1000
 small:∀n t,K n=some t->size t<=48
theorem x_.size(h:x_ K R)n:size (bG<|R n)<=1001:=by have:=eW (h.whole n) (h.len n) aK;omega
def Rx(hK:sk K R rk)(hF:x_ K R)(e:K n=some t):bG (sub (λm=>bG<|R m) t)=bG (R n):=by
 have h:dF (sub (λm=>bG<|R m) t) (R n):=by
  rw[hK.shut n t e];exact(dF.refl t).sub λm _=>dF.acC _<|hF.whole m
 exact h.Oe<|hF.whole n
abbrev Ry(B:Nat->Prop)n wb x:=(B x\/n<=x)/\x≠wb
def Og(b wb:Nat)K R B(D:Nat->Option Ty)n w(e:Ending)w':=
 ∃u D',e=.returned u/\cR w' (Ry B w.heap.size wb) (bG<|R n) u/\eU w' (Ry B w.heap.size wb) wb D'/\WQ K R D'/\(∀m,D m≠none->D' m≠none)/\(K n≠none->D' n≠none)/\Fr (λi=>i=wb) w w'
structure CY b wb K R(B:Nat->Prop)D(w:World):Prop where
 lt:∀x,B x->x<w.heap.size
 nw:¬B wb
 wl:wb<w.heap.size
 bb:B b
 s:eU w B b K
 d:eU w B wb D
 g:WQ K R D
def WR b wb K R n:=∀(w:World)(B:Nat->Prop)(D:Nat->Option Ty),CY b wb K R B D w->
 Cq 363 #[Mv b,Mv wb,Nv n] w (Og b wb K R B D n w)
def ag3 b wb sx wx K R(B:Nat->Prop)(D:Nat->Option Ty)(_:List Nat)B1 M1 W:=
 (M1=λi=>i=wb)/\(∀x,B x->B1 x)/\B1 sx/\B1 wx/\Bx W sx #[Mv b]/\Bx W wx #[Mv wb]/\∃D1,CY b wb K R B1 D1 W/\∀m,D m≠none->D1 m≠none
variable {b wb sx wx:Nat} {B:Nat->Prop}
def WS(IH:WR b wb K R n){B1}(h1:Bx W sx #[Mv b])(h2:Bx W wx #[Mv wb])(h:CY b wb K R B1 D1 W):
 Cq 368 #[Nv n,Pv sx,Pv wx] W (Og b wb K R B1 D1 n W):=by
 obtain⟨c1,f1,z1⟩:=h1;obtain⟨c2,f2,z2⟩:=h2;have HC:=IH W B1 D1 h;go_enter func368,ntmps368;go_wp2_with fail;refine HC.mono ?_;intro e w1 hp;have HP:=ai hp;obtain⟨u,D',rfl,hu,-⟩:=hp;obtain⟨ta,xa,rfl⟩:=hu.iface
 go_wp2
 go_ret;exact HP
def aaP(IH:∀n,aD n t->WR b wb K R n)(hsw:sx≠wb/\wx≠wb):Img 368 #[] #[Pv sx,Pv wx] (λm=>bG<|R m) (λ_ n=>aD n t) (ag3 b wb sx wx K R B D) where
 eg:=enters_of Tryz.func368 qkr rfl
 mR acc B1 M1 w w' h hz hk:=by
  obtain⟨rfl,h1,h2,h3,h4,h5,D1,h6,h7⟩:=h;refine⟨rfl,h1,h2,h3,h4.same hz<|hk _<|j6 h2,h5.same hz<|hk _<|j6 h3,D1,⟨λx p=>qc (h6.lt x p) hz,h6.nw,qc h6.wl hz,h6.bb,?_,?_,h6.g⟩,h7⟩
  .exact h6.s.move hz (hk b<|j6 h6.bb) (λx p _=>hk x<|j6 p) (λ_ p _=>p)
  .exact h6.d.move hz (hk wb<|j5 rfl) (λx p _=>hk x<|j6 p) (λ_ p _=>p)
 lt acc B1 M1 w h:=by
  obtain⟨rfl,h1,h2,h3,h4,h5,D1,h6,h7⟩:=h;rintro x(p|rfl)
  .exact h6.lt x p
  .exact h6.wl
 call acc B1 M1 w n h hN:=by
  obtain⟨rfl,h1,h2,h3,h4,h5,D1,h6,h7⟩:=h;refine(WS (IH n hN) h4 h5 h6).mono ?_;rintro e w'⟨u,D',rfl,hu,hd,hg,hm,_,F⟩;have wl:=h6.wl;have hz:=F.size;refine⟨u,λx=>B1 x\/(w.heap.size<=x/\x<w'.heap.size),_,rfl,hu.wide λx p=>⟨p.2,p.1⟩,⟨rfl,λx p=>j6<|h1 x p,j6 h2,j6 h3,h4.fr F hsw.1,h5.fr F hsw.2,D',⟨?_,?_,ae,j6 h6.bb,?_,?_,hg⟩,λm q=>hm m<|h7 m q⟩,?_,λx q=>j6 q,F⟩
  .rintro x(p|p)
   .have:=h6.lt x p;omega
   .exact p.2
  .rintro(p|p)
   .exact h6.nw p
   .omega
  .exact(h6.s.fr F (λe=>h6.nw<|e▸h6.bb)<|λx p _ e=>h6.nw<|e▸p).wide λx p=>j6 p
  .refine hd.low.wide λx p=>?_;obtain q|q:=p.1.1
   .exact j6 q
   .omega
  .grind
def aaQ(hK:sk K R rk)(hF:x_ K R)n(IH:∀t,K n=some t->∀m,aD m t->WR b wb K R m):WR b wb K R n:=by
 intro w B D h;have kb:Bq w ((w.alloc<|Cv #[Mv b] 498).alloc<|Cv #[Mv wb] 457):=(bw _).alloc ag _;have x1:Bx ((w.alloc<|Cv #[Mv b] 498).alloc<|Cv #[Mv wb] 457) w.heap.size #[Mv b]:=(xh w _ _).below<|bw _;have x2:Bx ((w.alloc<|Cv #[Mv b] 498).alloc<|Cv #[Mv wb] 457) (w.heap.size+1) #[Mv wb]:=by
  have:=xh (w.alloc<|Cv #[Mv b] 498) #[Mv wb] 457;simpa using this
 have bl:=h.lt b h.bb;have wl:=h.wl;obtain⟨c1,f1,z1⟩:=x1;obtain⟨c2,f2,z2⟩:=x2;have KB:=ai kb;have HH:=ai h;obtain⟨t,u,E1,h1,hl⟩|⟨E1,hl⟩:=(h.d.af kb).look gV n
 .obtain⟨ta,xa,rfl⟩:=h1.iface;have H1:=ai h1;go_enter func363,ntmps363
  go_wp2
  go_ret;have h:=uh HH;have nw:∀x,B x->Ry B w.heap.size wb x:=λx p=>⟨j6 p,λe=>h.nw<|e▸p⟩;obtain⟨rfl,_⟩:=h.g n t E1;exact⟨_,D,rfl,H1.wide nw,(h.d.af KB).wide nw,h.g,λm q=>q,λ_=>by rw[E1];simp,Fr.of KB⟩
 .obtain⟨t,u,e2,h1,NZ⟩|⟨e2,NZ⟩:=(h.s.af kb).look nW n
  .have E2:=ai e2;have hI:ag3 b wb w.heap.size (w.heap.size+1) K R B D [] (λx=>B x\/x=w.heap.size\/x=w.heap.size+1) (λi=>i=wb) ((w.alloc<|Cv #[Mv b] 498).alloc<|Cv #[Mv wb] 457):=by
    refine⟨rfl,λx p=>j6 p,j5<|j6 rfl,j5<|j5 rfl,⟨c1,f1,z1⟩,⟨c2,f2,z2⟩,D,⟨?_,?_,ae,j6 h.bb,(h.s.af kb).wide λx p=>j6 p,(h.d.af kb).wide λx p=>j6 p,h.g⟩,λm q=>q⟩
    .rintro x(p|rfl|rfl)
     .have:=h.lt x p;omega
     .omega
     .omega
    .rintro(p|p|p)
     .exact h.nw p
     .omega
     .omega
   have aiJ:=hF.small n t e2;have HC:=xV (aaP (IH t e2) ae) t [] _ _ _ u B hI (λi hi=>?_) ae h1<|λx p _ q=>h.nw<|q▸p
   case refine_1=>exact G7 t _<|jt hi
   have eG:size (sub (λm=>bG<|R m) t)<=1000000000000:=by
    have:=gZ (λm=>bG<|R m) 1001 t (λm _=>hF.size m) aK;have:1001*size t<=1001*48:=Nat.mul_le_mul_left _ aiJ;omega
   have HCL:=Rx hK hF e2;obtain⟨ta,xa,rfl⟩:=h1.iface;go_enter func363,ntmps363;go_wp2_with fail;refine HC.mono ?_;rintro e w1⟨u1,B1,M1,rfl,ux,⟨rfl,q1,q2,q3,q4,q5,D1,q6,q7⟩,hB1,hM1,yW⟩;obtain⟨tu,xu,rfl⟩:=ux.iface;have HCu:=Wx ux eG;have Q:=And.intro q6<|And.intro q7 hB1;have zf:=yW.size;obtain⟨c3,f3,z3⟩:=q4;obtain⟨c4,f4,z4⟩:=q5;go_wp2_with fail;refine HCu.mono ?_;rintro e w2⟨u2,rfl,uy,K2⟩;rw[HCL]at uy;obtain⟨tu2,xu2,rfl⟩:=uy.iface;obtain⟨q6,HM,hB1⟩:=Q;have z2':=K2.size;have c5:=(Bx.below (show Bx w1 (w.heap.size+1) #[Mv wb]from⟨c4,f4,z4⟩) K2).c
   have Mh:∀x,B1 x->Ry B w.heap.size wb x:=λx p=>⟨by
    obtain  (r|r|r)|r:=hB1 x p
    .exact j6 r
    .exact j5 ae
    .exact j5 ae
    .simp only[aV]at r;exact j5 ae,λe=>q6.nw<|e▸p⟩
   have S2:=(q6.d.af K2).wide Mh
   have U2:=ai (uy.wide (Q:=Ry B w.heap.size wb) λx p=>by
    obtain⟨p1,(p2|p2|p2)|p2⟩|p:=p
    .exact⟨j6 p2,p1⟩
    .exact⟨j5 ae,p1⟩
    .exact⟨j5 ae,p1⟩
    .simp only[aV]at p2;exact⟨j5 ae,p1⟩
    .exact⟨j5 (by simp only[aV]at zf;omega),by simp only[aV]at zf;omega⟩)
   have HG:=ai q6.g;go_wp2_with(refine jW gV rfl _ _ _ (j5 rfl) rfl S2 (λq=>q.2 rfl) U2 n rfl rfl ?_;intro w4 H' O';have S4:=ai H';have O4:=ai O';clear H' O');go_ret;have o:=uh O4;refine⟨_,dQ D1 n<|some<|bG<|R n,rfl,U2.move Jc (λx p _=>o.block x p.2)<|λ_ p _=>p,S4,λm s hs=>?_,λm hm=>?_,λ_=>by simp[dQ],?_⟩
   .by_cases q:m=n
    .simp only[dQ,q,if_true,Option.some.injEq]at hs;subst q;exact⟨hs.symm,by rw[uh E2];simp⟩
    .simp only[dQ,q,if_false]at hs;exact HG m s hs
   .by_cases q:m=n
    .simp[dQ,q]
    .simp only[dQ,q,if_false];exact HM m hm
   .exact(((Fr.of KB).trans yW).low<|K2|>.mono (by have:=KB.size;omega)).trans ⟨o.os,o.tape,o.output,Jc,λk _ hk=>o.block k hk⟩
  .have E2:=ai e2;go_enter func363,ntmps363
   go_wp2
   go_ret;have h:=uh HH;have nw:∀x,B x->Ry B w.heap.size wb x:=λx p=>⟨j6 p,λe=>h.nw<|e▸p⟩;refine⟨_,D,rfl,?_,(h.d.af KB).wide nw,h.g,λm q=>q,λq=>absurd E2 q,Fr.of KB⟩;rw[hK.open_ n<|uh E2,GZ];exact .var n
def G9(hK:sk K R rk)(hF:x_ K R):∀(s r n:Nat),size (R n)<=s->rk n<=r->WR b wb K R n:=by
 intro s
 induction s using j9 with
 |ind s ihs=>
  intro r
  induction r using j9 with
  |ind r ihr=>
   intro n h1 h2;refine aaQ hK hF n λt e m hm=>?_;have q:=hK.shut n t e
   cases t with
   |var u=>
    simp only[aD]at hm;subst hm;have:=hK.U7 n u e;refine ihr (rk u) ae u ?_<|br _;rw[q]at h1;simpa[sub]using h1
   |aH c l=>
    have h3:=iS R m l (by simpa[aD]using hm);have h4:=congrArg size q;simp only[sub,size]at h4;exact ihs (size<|R m) ae (rk m) m (br _)<|br _
end
end
section
open Un
mutual
def m0:Nd->Ty
 |.mk k s _ L _ _ _=>.aH (eX k s)<|Tk L
def Tk:List Nd->List Ty
 |[]=>[]|x::l=>m0 x::Tk l
end
def vM:∀L,(Tk L).length=L.length
 |[]=>rfl|_::l=>by simp[Tk,vM l]
def Oh:∀(L:List Nd)(i:Nat)(h:i<L.length),(Tk L)[i]'(by rw[vM];exact h)=m0 L[i]
 |x::l,0,_=>rfl|x::l,i+1,h=>by simp only[Tk,jd];exact Oh l i DQ
inductive N0:Nd->Prop where
 |two(k:Nat)(s:BA)(n:Nat)(x y:Nd)(f t a:Nat)(hk:k=17\/k=6)(hx:N0 x)(hy:N0 y):N0 (.mk k s n [x,y] f t a)
 |up(s:BA)(n:Nat)(L:List Nd)(f t a:Nat)(hl:L.length<=1001)(hL:∀i(h:i<L.length),N0 L[i]):N0 (.mk 2 s n L f t a)
def C6:∀(L:List Nd),(∀i(h:i<L.length),∀ns,(∀n,¬aD n (aI ns<|es L[i]).1)->size (aI ns<|es L[i]).1<=1000->N0 L[i]/\aI ns (es L[i])=(m0 L[i],ns))->∀ns,(∀n,¬bK n (aA ns<|tU L).1)->ah (aA ns<|tU L).1<=1000->
 (∀i(h:i<L.length),N0 L[i])/\aA ns (tU L)=(Tk L,ns)/\L.length<=1000
 |[],_,ns,_,_=>⟨λi h=>absurd h ag,rfl,ag⟩|x::l,H,ns,ho,hz=>by
  simp only[tU,aA,bK,ah,not_or]at ho hz;have⟨h1,h2⟩:=H 0 ag ns (λn=>(ho n).1)<|j7 (Nat.le_add_right _ _) hz;have h2:aI ns (es x)=(m0 x,ns):=h2;rw[h2]at ho hz;have hz:size (m0 x)+ah (aA ns<|tU l).1<=1000:=hz;have⟨h3,h4,h5⟩:=C6 l (λi hi=>H (i+1) bQ) ns (λn=>(ho n).2) ae;have h6:1<=size (m0 x):=by cases x with|mk k s n L f t a=>simp only[m0,size];omega
  have h7:∀(l:List Ty),l.length<=ah l:=by
   intro l
   induction l with
   |nil=>simp
   |cons t l ih=>simp only[mV,ah];have:1<=size t:=by cases t<;>simp[size]
                 omega
  have h8:=h7<|Tk l;rw[h4]at hz;rw[vM]at h8;refine⟨λi hi=>?_,?_,?_⟩
  .cases i with
   |zero=>exact h1|succ i=>exact h3 i qBl
  .simp[tU,aA,h2,h4,Tk]
  .simp only at hz;simp only[mV];omega
def acD{w:World}{v}(h:PT w Q nd v):∀ns,(∀n,¬aD n (aI ns<|es nd).1)->size (aI ns<|es nd).1<=1000->N0 nd/\aI ns (es nd)=(m0 nd,ns):=by
 induction h with
 |var s n f t a x y hq hx hy=>
  intro ns ho _;exfalso;simp only[es,aI,if_true]at ho;exact ho _ rfl
 |fn s n a b f t at_ x y va vb ha hb Kl Km=>
  intro ns ho hz;have e0:∀k,k=17\/k=6->aI ns (es<|.mk k s n [a,b] f t at_)=(.aH (eX k s) (aA ns<|tU [a,b]).1,(aA ns<|tU [a,b]).2):=λk hk=>by obtain rfl|rfl:=hk<;>simp[es,aI]
  rw[e0 _<|j6 rfl]at ho hz⊢;simp only[size,aD]at ho hz
  have⟨h3,h4,h5⟩:=C6 [a,b] (λi hi=>by
   have pT:i=0\/i=1:=D9;obtain rfl|rfl:=pT
   .exact Kl
   .exact Km) ns ho ae
  refine⟨.two 17 s n a b f t at_ (j6 rfl) (h3 0 ag)<|h3 1 ag,?_⟩;rw[h4];simp[m0]
 |pr s n a b f t at_ x y va vb ha hb Kl Km=>
  intro ns ho hz;have e0:∀k,k=17\/k=6->aI ns (es<|.mk k s n [a,b] f t at_)=(.aH (eX k s) (aA ns<|tU [a,b]).1,(aA ns<|tU [a,b]).2):=λk hk=>by obtain rfl|rfl:=hk<;>simp[es,aI]
  rw[e0 _<|j5 rfl]at ho hz⊢;simp only[size,aD]at ho hz
  have⟨h3,h4,h5⟩:=C6 [a,b] (λi hi=>by
   have pT:i=0\/i=1:=D9;obtain rfl|rfl:=pT
   .exact Kl
   .exact Km) ns ho ae
  refine⟨.two 6 s n a b f t at_ (j5 rfl) (h3 0 ag)<|h3 1 ag,?_⟩;rw[h4];simp[m0]
 |up s n L f t at_ x y x' y' sa sc vs hu aN hr hx hy ih=>
  intro ns ho hz;have e0:aI ns (es<|.mk 2 s n L f t at_)=(.aH (eX 2 s) (aA ns<|tU L).1,(aA ns<|tU L).2):=by simp[es,aI]
  rw[e0]at ho hz⊢;simp only[size,aD]at ho hz;have⟨h3,h4,h5⟩:=C6 L ih ns ho ae;refine⟨.up s n L f t at_ ae h3,?_⟩;rw[h4];simp[m0]
def WU T w(e:Ending)w':=∃u,e=.returned u/\dE w' (λb=>w.heap.size<=b) T u/\Fr (λ_=>False) w w'
def WU.up{w:World}{e}(h:WU T w0 e w')(hb:Bq w w0):WU T w e w':=by
 obtain⟨u,h1,h2,h4⟩:=h;exact⟨u,h1,h2.wide λb p=>j7 hb.size p,(Fr.of hb).trans h4⟩
def C7 nd:=∀(w:World)(Q:Nat->Prop)(v:Value),PT w Q nd v->Cq 44 #[v,.nilFunc] w (WU (m0 nd) w)
def WV(L:List Nd)w gk v wr:=
 ∃(j:Nat)(C:Array Value),Hid (gk=L.length-j)/\j<=L.length/\v=Nv j/\Fr (λ_=>False) w wr/\Bx wr w.heap.size C/\Hid (C.size=L.length)/\
  Hid (∀i(h:i<L.length),i<j->∃u,C[i]? =some u/\dE wr (λb=>w.heap.size<b/\b<wr.heap.size) (m0 L[i]) u)
section
variable {w:World}
def AU c(AE:CN c)L sa sc(vs:Nat->Value)(hL:L.length<=1001)(aN:L=[]\/∃g,sa=some ⟨g,0,none⟩/\Q g/\g<w.heap.size/\∀i,i<L.length->w.cell? ⟨g,i,none⟩=some (vs i))(hr:∀i(h:i<L.length),PT w Q L[i]<|vs i)(IH:∀i(h:i<L.length),C7 L[i]):
 Cq 71 #[.string<|pn c,.nilFunc,.slice sa L.length sc] w (WU (.aH c<|Tk L) w):=by
 obtain⟨i0,vH,oW,lY,kE⟩:=info_parts fU;have Ti:=iV (by_:=16) d_ vH oW rfl lY kE aK L.length hL;go_enter func71,ntmps71
 go_wp2
 go_loopg[15] L.length (λgk v wr=>WV L w gk v wr)
 case atStart=>
  exact⟨0,qe L.length .nilIface,ai ag,j8 _,rfl,Fr.of<|bw _,xh w _ _,ai ag,ai<|λi _ hi=>absurd hi ae⟩
 case round=>
  obtain⟨j,C,c_,hj,rfl,F1,B1,hC,hT⟩:=hrel;have zw:=F1.size;by_cases bh:j<L.length
  .have hd:(j:Int)<(L.length:Int):=ae;obtain⟨g,rfl,hg,kC,bU⟩:∃g,sa=some ⟨g,0,none⟩/\Q g/\g<w.heap.size/\∀i,i<L.length->w.cell? ⟨g,i,none⟩=some (vs i):=by
    exact rN
   have cg:wr.cell? ⟨g,j,none⟩=some (vs j):=by
    rw[qp (a:=⟨g,j,none⟩) (w:=w)<|F1.block g kC id];exact bU j bh
   have PJ:=(hr j bh).fr F1<|λb p _ q=>q;obtain⟨tv,xv,hv⟩:=PJ.bJ;have HC:=IH j bh wr Q (vs j) PJ;rw[hv]at cg HC;go_wp2_with fail;refine HC.mono ?_;rintro e w1⟨u,rfl,HU,HF⟩;obtain⟨tu,xu,rfl⟩:=HU.iface;have B2:=B1.fr HF id;have uw:j<C.size:=qBh;have cj:=(B2.c j).trans<|qh uw;have fj:=B2.f j;have B3:=B2.aO j (.iface tu xu) (C.setIfInBounds j<|.iface tu xu) rfl uw;have yN:=F1.trans HF;have z2:=HF.size;have zb:=B1.z
   go_wp2
   go_roundg(L.length-(j+1))
   case measure=>rw[uh c_];omega
   case rel=>
    refine⟨j+1,C.setIfInBounds j<|.iface tu xu,ai rfl,ae,iF,yN.set (j5<|br _) j _,B3,ai (by simp;exact hC),ai<|λi hi Y'=>?_⟩;have iC:∀b,w.heap.size<b->b<w1.heap.size->(w1.setCell ⟨w.heap.size,j,none⟩<|.iface tu xu).heap[b]? =w1.heap[b]? :=λb hb _=>qs _ _ _ _ (by show b≠w.heap.size;omega);have Zq:(w1.setCell ⟨w.heap.size,j,none⟩<|.iface tu xu).heap.size=w1.heap.size:=xH;by_cases e:i=j
    .subst e;refine⟨.iface tu xu,by simp[uw],?_⟩;exact HU.low.move ae (λb p z=>iC b qAy z)<|λb p z=>⟨qAy,ae⟩
    .obtain⟨u',ux,uy⟩:=uh hT i hi ae;refine⟨u',by rw[qf ae];exact ux,?_⟩;have h3:=uy.fr HF<|λb p _ q=>q;exact h3.move ae (λb p z=>iC b p.1 z)<|λb p z=>⟨p.1,ae⟩
  .have hd:decide ((j:Int)<(L.length:Int))=false:=bQ;have ej:j=L.length:=ae;subst ej
   go_wp2
   go_ret;refine⟨_,rfl,?_,F1⟩;have Vh:=vM L;rw[<-Vh];refine .aH c _ _ _ (λi=>C.getD i .nilIface) AE (j5 ⟨w.heap.size,rfl,br _,B1.z,λi hi=>?_⟩)<|λi hi=>?_
   .obtain⟨u,hu,_⟩:=uh hT i ae ae;rw[B1.c i,hu];simp[qg,hu]
   .obtain⟨u,hu,Qv⟩:=uh hT i ae ae;have:C.getD i .nilIface=u:=qBm;rw[this,Oh L i ae];exact Qv.wide λb p=>qAu
end
section
variable {w:World}
def Oi{T}(hk:k=17/\T=161/\cn=ot\/k=6/\T=163/\cn=lT)s n x y f t a(hx:C7 x)(hy:C7 y):C7 (.mk k s n [x,y] f t a):=by
 intro w Q v hp;have e:m0 (.mk k s n [x,y] f t a)=.aH cn (Tk [x,y]):=by obtain⟨rfl,rfl,rfl⟩|⟨rfl,rfl,rfl⟩:=hk<;>simp[m0,eX]
 rw[e];obtain⟨x1,y1,va,vb,ha,hb,rfl⟩:∃x1 y1 va vb,PT w Q x va/\PT w Q y vb/\v=Fv T (Av #[Iv x1,Iv y1,va,vb]):=by obtain⟨rfl,rfl,rfl⟩|⟨rfl,rfl,rfl⟩:=hk<;>(cases hp;exact⟨_,_,_,_,qas,qas,rfl⟩)
 obtain⟨ta,xa,rfl⟩:=ha.bJ;obtain⟨tb,xb,rfl⟩:=hb.bJ;have bR:Bq w ((w.alloc<|Cv #[Iv x1,Iv y1,Fv ta<|Av xa,Fv tb<|Av xb] T).alloc<|Cv #[Fv ta<|Av xa,Fv tb<|Av xb] 92):=(bw _).alloc ag _;have BR:=(xh (w.alloc<|Cv #[Iv x1,Iv y1,Fv ta<|Av xa,Fv tb<|Av xb] T) #[Fv ta<|Av xa,Fv tb<|Av xb] 92);have eG:(w.alloc<|Cv #[Iv x1,Iv y1,Fv ta<|Av xa,Fv tb<|Av xb] T).heap.size=w.heap.size+1:=ag;rw[eG]at BR
 have HC:=ai (AU (w:=((w.alloc<|Cv #[Iv x1,Iv y1,Fv ta<|Av xa,Fv tb<|Av xb] T).alloc<|Cv #[Fv ta<|Av xa,Fv tb<|Av xb] 92)) (Q:=λb=>Q b\/b=w.heap.size+1) cn (by obtain⟨-,-,rfl⟩|⟨-,-,rfl⟩:=hk;exact j6 rfl;exact j5<|j6 rfl) [x,y] (some ⟨w.heap.size+1,0,none⟩) 2 (λi=>if i=0 then Fv ta (Av xa)else Fv tb (Av xb)) ag
  (j5 ⟨w.heap.size+1,rfl,j5 rfl,ag,λi hi=>by
   have pT:i=0\/i=1:=D9;rw[BR.c i]
   obtain rfl|rfl:=pT<;>rfl⟩)
  (λi hi=>by
   have pT:i=0\/i=1:=D9;obtain rfl|rfl:=pT
   .exact(ha.af bR).wide λb p=>j6 p
   .exact(hb.af bR).wide λb p=>j6 p)
  (λi hi=>by
   have pT:i=0\/i=1:=D9;obtain rfl|rfl:=pT
   .exact hx
   .exact hy))
 obtain⟨rfl,rfl,rfl⟩|⟨rfl,rfl,rfl⟩:=hk;all_goals
  first|rw[jM]at HC|rw[jN]at HC
  exact vJ
def aeC s n L f t a(hl:L.length<=1001)(hL:∀i(h:i<L.length),C7 L[i]):C7 (.mk 2 s n L f t a):=by
 intro w Q v hp;have e:m0 (.mk 2 s n L f t a)=.aH s (Tk L):=by simp[m0,eX]
 rw[e]
 cases hp with
 |up s n L f t at_ x y x' y' sa sc vs hu aN hr hx hy=>
 clear hx hy;have bR:Bq w (w.alloc<|Cv #[Iv x,Iv y,Iv x',Iv y',Sv s,Lv sa L.length sc] 166):=bw _
 have HC:=ai (AU (Q:=Q) s (j5<|j5 hu) L sa sc vs hl
  (aN.imp id λq=>by
   obtain⟨g,q1,q2,q3,q4⟩:=q
   exact⟨g,q1,q2,bQ,λi hi=>(qp (a:=⟨g,i,none⟩)<|bR.block g q3).trans<|q4 i hi⟩)
  (λi hi=>(hr i hi).af bR) hL)
 rw[eJ hu]at HC;clear aN hr;exact vJ
def acE nd(h:N0 nd):C7 nd:=by
 induction h with
 |two k s n x y f t a hk hx hy dA gi=>
  obtain rfl|rfl:=hk
  .exact Oi (j6 ⟨rfl,rfl,rfl⟩) s n x y f t a dA gi
  .exact Oi (j5 ⟨rfl,rfl,rfl⟩) s n x y f t a dA gi
 |up s n L f t a hl hL ih=>exact aeC s n L f t a hl ih
end
end
end Go.Proofs.YtfnkchdeheeiiaaGreatDoor

import Derived.Laws.AppendOwnNone
import Derived.Shelf.SlMaps.Clone
import Derived.Test.YtfnkchdeheeiiaaGreatDoorTPf
import Derived.Test.YtfnkchdeheeiiaaGreatDoorTWj
set_option linter.all false
set_option maxRecDepth 100000
set_option maxHeartbeats 4000000
namespace Go.Proofs.YtfnkchdeheeiiaaGreatDoor
open _root_.List renaming getElem?_eq_getElem->ja,take_length->jc,map_cons->jd,take_succ_eq_append_getElem->jf,mem_cons_of_mem->jh,take_succ_cons->ji,eq_nil_of_length_eq_zero->jj,getElem_cons_succ->jk,nodup_cons->jl,mem_map_of_mem->jm,append_assoc->jo,mem_cons->jp,getElem_mem->jq,getElem_of_mem->jt,foldl_append->ju,getD_eq_getElem?_getD->jv,getElem_append_left->jx,getElem?_take_of_lt->jy,map_nil->jz,mem_singleton->j3,pairwise_map->j5,nodup_append->j6,cons_append->j7,map_append->j8,length_map->j9,foldl_cons->qd,nodup_nil->qe,length->qf,Nodup->qg
open Or renaming inr->qh,inl->qi
open _root_.Nat renaming le_trans->qk,lt_of_lt_of_le->ql,strongRecOn->qm,zero_le->qn,mul_le_mul_left->qp,mul_le_mul->qr,mul_le_mul_right->qs,pos_of_ne_zero->qt
open Go.Proofs.Tryz renaming prog->qu,underlying171->qv,underlying98->qw,underlying9->qx,func366->qy
open Go.World renaming cell?_of_block->qz,setCell->q9,cell?->xc,frozen?->xd,ownsRow_nil->xf
open _root_.Array renaming getElem?_setIfInBounds_ne->xg,replicate->xh,getElem?_eq_getElem->xi,getElem?_setIfInBounds->xj,getD_eq_getD_getElem?->xk,toList_modify->xm
open Go.RowKit.Below renaming heap_setCell->xn,refl->xo
open Go.Value renaming string->xq,ownBlock->xt,iface->xw,int->xy,slice->zd
open In renaming gD->zh,Env->zo,over->zu,Td->zv,B_->zx,ys->zy,qJ->vd
open Go.MapKept renaming heap_alloc->vf,run_setObj_map->vg,run_getObj_map->vh
open Un renaming seen->vo,dR->vw
open Go.Instr renaming typeAssert->v7,lookup->v8,mapUpdate->v9,next->kg
open Go.Lib renaming byteCells->kh
open Go.Result renaming andThen->ki
open _root_.ByteArray renaming toList->kq
open And renaming intro->ku
open Classical renaming propDecidable->kv
open Ne renaming symm->kw
open Go.Op renaming mapUpdate->kx,insert->k9
open Go Go.RowKit Proofs.Tryz
variable {ops:Array Oper} {C cs:Array Value} {c last s:BA} {Γ Lz wQ:zo} {ns:List BA} {L V acc ds l':List Nat} {N:List Nat->Nat->Prop} {rest:List Oper} {l:List UInt8} {xs:List Value} {B S b1 b2 base by_ cb f fb g gb h kb mb n nb pb r wb:Nat} {p:Nat->Bool} {vr:Nat->Nat} {ly:Nat->Option Addr×Nat} {D D1 K:Nat->Option Un.Ty} {F P Q:Nat->Prop} {R:Nat->Un.Ty} {o:Oper} {sa:Option Addr} {row:Option Nat} {κ:Type} {e k:TypeId} {i:TypeInfo} {str:Un.rF} {t x y:Un.Ty} {bv mv u z:Value} {W w':World}
section
open Un
abbrev akH(w:World)base v xs:=w.ownsRow base 9 1 v xs.length xs
structure NL w xb v(l:List BA):Prop where
 o:∃base,akH w base v<|l.map xq
 n:v.ownBlock≠some xb
structure MK where
 nm:BA
 x:NV
 d:Int
 a:Int
end
section
open Go.ChangeMaps Un
def tl(s:BA):BA:=s.extract 1 s.size
def O6(s:BA):=∃r,s.toList=39::r
def xE{r}(h:s.toList=39::r):(tl s).toList=r:=by
 rw[tl];rw[ByteArray.toList_eq]at h⊢;rw[ByteArray.data_extract];simp;rw[h];have:s.size=(39::r).length:=by rw[<-h];simp
 rw[this];simp
def Wm{t}(hs:O6 s)(ht:O6 t)(h:tl s=tl t):s=t:=by
 obtain⟨r,hr⟩:=hs;obtain⟨q,hq⟩:=ht;have:r=q:=by rw[<-xE hr,<-xE hq,h]
 exact toList_inj (by rw[hr,hq,this])
def Wn:Nat->List BA->List (BA×Value)
 |_,[]=>[]|i,a::l=>(tl a,Iv<|(i:Int)+1)::Wn (i+1) l
def Gm(s:BA):∀l i,Wn i (l++[s])=Wn i l++[(tl s,Iv<|((i+l.length:Nat):Int)+1)]
 |[],i=>by simp[Wn]|a::l,i=>by
  simp only[j7,Wn,Gm s l<|i+1];simp;omega
def Wo{s:BA}(hs:O6 s):∀l i,(∀a∈l,O6 a)->s∈l->aX (tl s) (Wn i l)=some (Iv<|((i+ix s l:Nat):Int)+1)
 |[],i,_,h=>tW|a::l,i,h,hm=>by
  rw[Wn,aX];by_cases e:tl a=tl s
  .have:a=s:=Wm (h a ag) hs e;subst this;simp[ix]
  .have cO:¬s=a:=λq=>e (by rw[q]);have hx:ix s (a::l)=ix s l+1:=by
    show(if a.toList=s.toList then 0 else ix s l+1)=_;rw[if_neg<|λq=>cO (toList_inj q).symm]
   rw[if_neg e,Wo hs l (i+1) (λb hb=>h b<|jh _ hb)<|(List.mem_cons.1 hm).resolve_left cO,hx];congr 2;omega
def O7{s:BA}(hs:O6 s):∀l i,(∀a∈l,O6 a)->¬s∈l->aX (tl s) (Wn i l)=none
 |[],i,_,_=>rfl|a::l,i,h,hm=>by
  rw[Wn,aX];have e:¬tl a=tl s:=λq=>hm<|List.mem_cons.2<|qi (Wm (h a ag) hs q).symm;rw[if_neg e];exact O7 hs l (i+1) (λb hb=>h b<|jh _ hb)<|λq=>hm<|jh _ q
structure NM w kb fb cb mb(ns:List BA):Prop where
 bk:Bx w kb #[Mv mb]
 bf:Bx w fb #[.func (.func 47) #[] #[Pv cb]]
 bc:Bx w cb #[Nv ns.length]
 mp:MS xq w mb (Wn 0 ns)
 qo:∀a∈ns,O6 a
 nd:ns.Nodup
 d1:cb≠kb/\cb≠fb/\cb≠mb/\mb≠kb/\mb≠fb
abbrev nmV(kb fb:Nat):Value:=.func (.func 46) #[] #[Pv kb,Pv fb]
def Two cb mb(b:Nat):=b=cb\/b=mb
def NM.fr{S}{w w'}{kb fb cb mb}{ns}(h:NM w kb fb cb mb ns)(hf:Fr S w w')(hS:∀b,S b->b≠kb/\b≠fb/\b≠cb/\b≠mb):NM w' kb fb cb mb ns:=
 ⟨h.bk.fr hf<|λq=>(hS _ q).1 rfl,h.bf.fr hf<|λq=>(hS _ q).2.1 rfl,h.bc.fr hf<|λq=>(hS _ q).2.2.1 rfl,h.mp.same<|hf.block mb h.mp.lt<|λq=>(hS _ q).2.2.2 rfl,h.qo,h.nd,h.d1⟩
def NM.af{w:World}(h:NM w kb fb cb mb ns)(hb:Bq w w'):NM w' kb fb cb mb ns:=h.fr (S:=λ_=>False) (Fr.of hb)<|λ_ q=>q.elim
def NM.set{w}{kb fb cb mb}{ns}(h:NM w kb fb cb mb ns){b}(hb:b≠kb/\b≠fb/\b≠cb/\b≠mb)j v:NM (w.setCell ⟨b,j,none⟩ v) kb fb cb mb ns:=
 h.fr (S:=λx=>x=b) ((Fr.refl (λx=>x=b) w).set (qi rfl) j v) (λx q=>by subst q;exact hb)
section
variable {w:World}
def ab1 w:(zeroValue 98).run qu w=.ok (Iv 0) w:=qkr
def L8 n(hn:n<=2000)(h:Bx w cb #[Nv n]):Cq 47 #[Pv cb] w λe w'=>e=.returned (Iv<|(n:Int)+1)/\w'=w.setCell ⟨cb,0,none⟩ (Iv<|(n:Int)+1):=by
 obtain⟨c,f,z⟩:=h;go_enter func47,ntmps47
 go_wp2
 go_ret;exact⟨rfl,rfl⟩
def L9 kb fb cb mb ns s w(e:Ending)w':=
 e=.returned (.iface 98<|Iv<|(ix s (nW s ns):Int)+1)/\NM w' kb fb cb mb (nW s ns)/\Fr (Two cb mb) w w'
def Gn(h:NM w kb fb cb mb ns)s(hs:O6 s)(hn:ns.length<=2000):Cq 46 #[.string<|tl s,Pv kb,Pv fb] w (L9 kb fb cb mb ns s w):=by
 have hl:=h.mp.look (KL.str qx) Tryz.underlying97 (ab1 w) (tl s) trivial (λ_ _=>trivial) true;have⟨c,f,z⟩:=h.bk;have⟨cf,ff,zf⟩:=h.bf;by_cases hm:s∈ns
 .rw[Wo hs ns 0 h.qo hm]at hl;simp at hl;go_enter func46,ntmps46
  go_wp2
  go_ret;rw[L9];rw[DG hm];exact⟨rfl,h,Fr.refl _ _⟩
 .have hg:=O7 hs ns 0 h.qo hm;rw[hg]at hl;simp at hl;have hd:=h.d1;have pi:=c 0;have HM:=h.mp.tX hd.2.2.1.symm 0<|Iv<|(ns.length:Int)+1;have BK:=ai<|h.bk.bO hd.1.symm 0<|Iv<|(ns.length:Int)+1;have BF:=ai<|h.bf.bO hd.2.1.symm 0<|Iv<|(ns.length:Int)+1;have BC:=h.bc.aP 0 (Iv<|(ns.length:Int)+1) #[Iv<|(ns.length:Int)+1] rfl ag;have F1:=(Fr.refl (Two cb mb) w).set (b:=cb) (Or.inl<|Or.inl rfl) 0<|Iv<|(ns.length:Int)+1;have⟨c1,f1,z1⟩:=uh BK;go_enter func46,ntmps46;go_wp2_with(first|(go_at_call 47;refine(L8 ns.length ae h.bc).mono ?_;rintro e w'⟨rfl,rfl⟩)|(refine aT _ rfl _ _ _ _ (Or.inr rfl) (KL.str Tryz.underlying9) Tryz.underlying97 _ _ rfl HM (tl s) (Iv<|(ns.length:Int)+1) rfl rfl trivial (λ_ _=>trivial) ?_;intro w' H' O';have Bc:=ai H';have O2:=ai O';clear H' O'));go_ret;have e1:=Gp hm;have e2:=DH hm;rw[L9];rw[e1,e2];have O:=uh O2;refine⟨rfl,⟨BK.one O hd.2.2.2.1.symm,BF.one O hd.2.2.2.2.symm,?_,?_,?_,?_,hd⟩,?_⟩
  .have:=BC.one O hd.2.2.1;simpa using this
  .have:=uh Bc;rw[lN _ _ _ hg]at this;rw[Gm];simpa using this
  .intro a ha;obtain q|q:=List.mem_append.1 ha
   .exact h.qo a q
   .simp at q;subst q;exact hs
  .rw[j6];refine⟨h.nd,ag,λa ha b hb=>?_⟩;simp at hb;subst hb;intro e;subst e;exact hm ha
  .have f1:=F1;exact⟨O.os.trans f1.os,O.tape.trans f1.tape,O.output.trans f1.output,by rw[O.size];exact f1.size,λk hk hn=>(O.block k<|λe=>hn<|qh e).trans<|f1.block k hk hn⟩
end
def pn(c:BA):BA:=if c.toList=[62]then⟨#[45,62]⟩else c
def CN c:=c=nB\/c=lj\/nI c
def jI:pn nB=⟨#[45,62]⟩:=by simp_all[pn]
def jJ:pn lj=⟨#[44]⟩:=by simp_all[pn]
def cQ(h:nI c)x r(hx:Pu.Bl x.toNat=false):c.toList≠x::r:=by grind[nI]
def eM(h:nI c):pn c=c:=by rw[pn];rw[if_neg<|cQ h 62 [] aK]
inductive dB(w:World)(P:Nat->Prop):Ty->Value->Prop where
 |var(n:Nat):dB w P (.var n) (.iface 98<|Nv n)
 |aJ(c:BA)(L:List Ty)(sa:Option Addr)(sc:Nat)(vs:Nat->Value)(hc:CN c)(aM:L=[]\/∃g,sa=some ⟨g,0,none⟩/\P g/\g<w.heap.size/\∀i,i<L.length->w.cell? ⟨g,i,none⟩=some (vs i))(hr:∀i(h:i<L.length),dB w P L[i]<|vs i):
  dB w P (.aJ c L) (.iface 169<|.agg #[.string<|pn c,.slice sa L.length sc])
def O_{p:Prop}(h:p:=by
 induction h with
 |var n=>exact .var n|aJ c L sa sc vs hc aM hr ih=>
  refine .aJ c L sa sc vs hc ?_ ih;obtain h0|⟨g,h1,hP,hz,hc⟩:=aM
  .exact qi h0
  .refine qh ⟨g,h1,hq g hP hz,ql hz hs,λi hi=>?_⟩;rw[qz (a:=⟨g,i,none⟩) (w:=w)<|hb g hP hz]
   exact hc i hi):p:=h
theorem dB.move{w:World}{v:Value}(h:dB w P t v)(hs:w.heap.size<=w'.heap.size)(hb:∀b,P b->b<w.heap.size->w'.heap[b]? =w.heap[b]?)(hq:∀b,P b->b<w.heap.size->Q b):dB w' Q t v:=by
 exact O_
def dB.af{w:World}{v:Value}(h:dB w P t v)(hb:Bq w w'):dB w' P t v:=h.move hb.size (λb _ hz=>hb.block b hz)<|λ_ p _=>p
def dB.wide{w:World}{v:Value}(h:dB w P t v)(hq:∀b,P b->Q b):dB w Q t v:=h.move (br _) (λ_ _ _=>rfl)<|λb p _=>hq b p
def dB.fr{S:Nat->Prop}{w:World}{v:Value}(h:dB w P t v)(hf:Fr S w w')(hS:∀b,P b->b<w.heap.size->¬S b):dB w' P t v:=h.move hf.size (λb p z=>hf.block b z<|hS b p z)<|λ_ p _=>p
def dB.low{w:World}{v:Value}(h:dB w P t v):dB w (λb=>P b/\b<w.heap.size) t v:=h.move (br _) (λ_ _ _=>rfl)<|λ_ p z=>⟨p,z⟩
def dB.iface{w:World}{v:Value}(h:dB w P t v):∃a x,v=.iface a x:=by
 cases h<;>exact⟨_,_,rfl⟩
def PT.fr{S:Nat->Prop}{w:World}{nd}{v:Value}(h:PT w P nd v)(hf:Fr S w w')(hS:∀b,P b->b<w.heap.size->¬S b):PT w' P nd v:=h.move hf.size (λb p z=>hf.block b z<|hS b p z)<|λ_ p _=>p
def PT.bJ{w:World}{a}{v:Value}(h:PT w P a v):∃t x,v=.iface t (.agg x):=by
 cases h<;>exact⟨_,_,rfl⟩
def yt z n:madeCells #[z] n=xh n z:=by
 rw[madeCells];apply Array.ext
 .simp
 .grind
def Gq{p:Prop}(h:p:=by
 rw[run_make w t e i z ht hi hz .i64 .i64 n n ae (Int.le_refl _) hb ae,hzc,h1]
 simp[yt]):p:=h
def Gs{p:Prop}(h:p:=by
 have h3:((by_*n:Nat):Int)<=281474976710656:=ae
 rwa[Int.natCast_mul]at h3):p:=h
def gT{P}{t}(ht:P.underlying t=some (.slice e))(hi:P.info? e=some i)(hz:i.zero=some z)(hzc:z.cells=#[z])(h1:i.size=1)(h2:i.bytes=by_)(hby:by_<=16)n(hn:n<=1001)w:
 (Instr.makeSlice t (Nv n)<|Nv n).run P w=.ok (.slice (some ⟨w.heap.size,0,none⟩) n n) (w.alloc<|.cells (xh n z) e):=by
 have hb:(i.bytes:Int)*(n:Int)<=281474976710656:=by
  rw[h2];have:by_*n<=16*1001:=qr hby hn;exact Gs
 exact Gq
def fY:(Tryz.prog.info? 67).map (λi=>(i.zero,i.size,i.bytes))=some (some .nilIface,1,16):=qkr
def dS:Tryz.prog.underlying 167=some (.slice 67):=qkr
def rU kb fb cb mb(ns:List BA)T ns' w(e:Ending)w':=
 ∃u,e=.returned u/\dB w' (λb=>w.heap.size<=b) T u/\NM w' kb fb cb mb ns'/\Fr (Two cb mb) w w'
def OfC nd:=∀(w:World)(kb fb cb mb:Nat)(ns:List BA)(Q:Nat->Prop)(v:Value),NM w kb fb cb mb ns->PT w Q nd v->(∀b,Q b->b≠cb/\b≠mb)->(aH ns nd).2.length<=2000->
 Cq 44 #[v,nmV kb fb] w (rU kb fb cb mb ns (aH ns nd).1 (aH ns nd).2 w)
def NM.lt{w}{kb fb cb mb}{ns}(h:NM w kb fb cb mb ns):kb<w.heap.size/\fb<w.heap.size/\cb<w.heap.size/\mb<w.heap.size:=⟨h.bk.z,h.bf.z,h.bc.z,h.mp.lt⟩
def vB ns:∀(L:List Nd)(i:Nat)(h:i<L.length),(aA ns<|L.take<|i+1).1=(aA ns<|L.take i).1++[(aH (aA ns<|L.take i).2 L[i]).1]/\(aA ns<|L.take<|i+1).2=(aH (aA ns<|L.take i).2 L[i]).2:=by
 intro L
 induction L generalizing ns with
 |nil=>intro i h;simp at h|cons x l ih=>
  intro i h
  cases i with
  |zero=>simp[aA]|succ i=>
   have:=ih (aH ns x).2 i Bm;simp only[ji,aA,this,jk];simp
def ab2 kb fb cb mb ns(L:List Nd)w gk v wr:=
 ∃(j:Nat)(C:Array Value),Hid (gk=L.length-j)/\j<=L.length/\v=Nv j/\NM wr kb fb cb mb (aA ns<|L.take j).2/\Fr (Two cb mb) w wr/\Bx wr w.heap.size C/\Hid (C.size=L.length)/\
  Hid (∀i(h:i<(aA ns<|L.take j).1.length),∃u,C[i]? =some u/\dB wr (λb=>w.heap.size<b/\b<wr.heap.size) (aA ns<|L.take j).1[i] u)
section
variable {w:World}
def gU ns:∀(L:List Nd),(aA ns L).1.length=L.length:=by
 intro L
 induction L generalizing ns with
 |nil=>rfl|cons x l ih=>simp[aA,ih]
def Bn ns L i:(aA ns<|L.take i).2.length<=(aA ns L).2.length:=by
 induction L generalizing ns i with
 |nil=>simp|cons x l ih=>
  cases i with
  |zero=>simp only[List.take_zero];exact tY (x::l) ns|succ i=>simp only[ji,aA];exact ih _ i
def yu{p:Prop}(h:p:=by
 obtain h0|h0:=aM
 .subst h0;simp at aY
 .exact h0):p:=h
def Gt c(yv:CN c)L sa sc(vs:Nat->Value)(hL:L.length<=1001)(h:NM w kb fb cb mb ns)(hQ:∀b,Q b->b≠cb/\b≠mb)(aM:L=[]\/∃g,sa=some ⟨g,0,none⟩/\Q g/\g<w.heap.size/\∀i,i<L.length->w.cell? ⟨g,i,none⟩=some (vs i))(hr:∀i(h:i<L.length),PT w Q L[i]<|vs i)(IH:∀i(h:i<L.length),OfC L[i])(hn:(aA ns L).2.length<=2000):
 Cq 71 #[.string<|pn c,nmV kb fb,.slice sa L.length sc] w (rU kb fb cb mb ns (.aJ c (aA ns L).1) (aA ns L).2 w):=by
 obtain⟨i0,vC,nJ,lG,jB⟩:=info_parts fY;have Te:=gT (by_:=16) dS vC nJ rfl lG jB aK L.length hL;have bq:=h.lt;go_enter func71,ntmps71
 go_wp2
 go_loopg[15] L.length (λgk v wr=>ab2 kb fb cb mb ns L w gk v wr)
 case atStart=>
  refine⟨0,xh L.length .nilIface,ai ag,qn _,rfl,?_,Fr.of<|bw _,Bx.new w _ _,ai ag,ai<|λi hi=>absurd hi<|by simp[aA]⟩;simpa[aA]using h.af (bw _)
 case round=>
  obtain⟨j,C,cR,hj,rfl,N1,F1,B1,hC,hT⟩:=hrel;have zw:=F1.size;have n1:=N1.lt;by_cases aY:j<L.length
  .have hd:(j:Int)<(L.length:Int):=ae;obtain⟨g,rfl,hg,iP,bM⟩:∃g,sa=some ⟨g,0,none⟩/\Q g/\g<w.heap.size/\∀i,i<L.length->w.cell? ⟨g,i,none⟩=some (vs i):=by
    exact yu
   have hQg:=hQ g hg;have cg:wr.cell? ⟨g,j,none⟩=some (vs j):=by
    rw[qz (a:=⟨g,j,none⟩) (w:=w)<|F1.block g iP (λq=>by obtain q|q:=q;exact hQg.1 q;exact hQg.2 q)];exact bM j aY
   have PJ:=(hr j aY).fr F1 (λb p _ q=>by obtain q|q:=q;exact(hQ b p).1 q;exact(hQ b p).2 q);obtain⟨tv,xv,hv⟩:=PJ.bJ;obtain⟨mt1,mt2⟩:=vB ns L j aY;have hnj:(aH (aA ns<|L.take j).2 L[j]).2.length<=2000:=by rw[<-mt2];exact qk (Bn ns L<|j+1) hn
   have HC:=IH j aY wr kb fb cb mb _ Q (vs j) N1 PJ hQ hnj;rw[hv]at cg HC;go_wp2_with fail;refine HC.mono ?_;rintro e w1⟨u,rfl,HU,LA,HF⟩;obtain⟨tu,xu,rfl⟩:=HU.iface;have hpb:¬Two cb mb w.heap.size:=λq=>by obtain q|q:=q<;>omega
   have B2:=B1.fr HF hpb;have rG:j<C.size:=qBh;have cj:=(B2.c j).trans<|xi rG;have fj:=B2.f j;have B3:=B2.aP j (.iface tu xu) (C.setIfInBounds j<|.iface tu xu) rfl rG;have xF:=F1.trans HF;have z2:=HF.size
   go_wp2
   go_roundg(L.length-(j+1))
   case measure=>rw[uh cR];omega
   case rel=>
    have L_:(aA ns<|L.take j).1.length=j:=by rw[gU];simp;omega
    refine⟨j+1,C.setIfInBounds j<|.iface tu xu,ai rfl,ae,iK,?_,?_,B3,ai (by simp;exact hC),ai<|λi hi=>?_⟩
    .rw[mt2];exact LA.set ae j _
    .exact xF.set (qh<|br _) j _
    .have iL:∀b,w.heap.size<b->b<w1.heap.size->(w1.setCell ⟨w.heap.size,j,none⟩<|.iface tu xu).heap[b]? =w1.heap[b]? :=λb hb _=>xn _ _ _ _ (by show b≠w.heap.size;omega);have hss:(w1.setCell ⟨w.heap.size,j,none⟩<|.iface tu xu).heap.size=w1.heap.size:=yw;have Bo:i<j+1:=by rw[mt1]at hi;simp[L_]at hi;omega
     by_cases e:i=j
     .subst e;refine⟨.iface tu xu,by simp[rG],?_⟩;have e1:(aA ns<|L.take<|i+1).1[i]'hi=(aH (aA ns<|L.take i).2 L[i]).1:=by
       have:(aA ns<|L.take<|i+1).1[i]? =some (aH (aA ns<|L.take i).2 L[i]).1:=by rw[mt1,List.getElem?_append_right ae];simp[L_]
       rw[ja hi]at this;exact Option.some.inj this
      rw[e1];refine HU.low.move ae (λb p z=>iL b (by have:wr.heap.size<=b:=p.1;have:=B1.z;omega) z) (λb p z=>⟨by have:wr.heap.size<=b:=p.1;have:=B1.z;omega,ae⟩)
     .have qK:i<(aA ns<|L.take j).1.length:=ae;obtain⟨u',vD,vE⟩:=uh hT i qK;have e1:(aA ns<|L.take<|j+1).1[i]'hi=(aA ns<|L.take j).1[i]'qK:=by
       have:(aA ns<|L.take<|j+1).1[i]? =some ((aA ns<|L.take j).1[i]'qK):=by rw[mt1,List.getElem?_append_left qK,ja qK]
       rw[ja hi]at this;exact Option.some.inj this
      refine⟨u',by rw[xg ae];exact vD,?_⟩;rw[e1];have h3:=vE.fr HF (λb p _ q=>by obtain q|q:=q<;>omega);exact h3.move ae (λb p z=>iL b p.1 z)<|λb p z=>⟨p.1,ae⟩
  .have hd:decide ((j:Int)<(L.length:Int))=false:=bB;have ej:j=L.length:=ae;subst ej
   go_wp2
   go_ret;refine⟨_,rfl,?_,?_,F1⟩
   .have ht:L.take L.length=L:=jc;rw[ht]at hT;have Wp:=gU ns L;rw[<-Wp];refine .aJ c _ _ _ (λi=>C.getD i .nilIface) yv (qh ⟨w.heap.size,rfl,br _,B1.z,λi hi=>?_⟩)<|λi hi=>?_
    .obtain⟨u,hu,_⟩:=uh hT i hi;rw[B1.c i,hu];simp[xk,hu]
    .obtain⟨u,hu,Tf⟩:=uh hT i hi;have:C.getD i .nilIface=u:=qBm;rw[this];exact Tf.wide λb p=>qAu
   .rw[jc]at N1;exact N1
end
structure PN(w:World)B pb bv l last mv:Prop where
 bk:∃ad,w.heap[pb]? =some (.cells #[ad,bv,.string last,mv] 113 (0,0))/\(ad=.pointer none\/ad=Pv pb)
 ow:w.ownsRow B 5 1 bv l.length (kh l)
 nl:l=[]->bv=.slice none 0 0
 hb:B<=w.heap.size
def SP pb(bv:Value)b:=b=pb\/bv.ownBlock=some b
def Pa(w:World)b:=∀x,w.cell? ⟨b,0,none⟩=some x->∀c,x≠.int .u8 c
def PN.aiy{w:World}(h:PN w B pb bv l last mv){q}(hq:bv.ownBlock=some q):∃c,w.cell? ⟨q,0,none⟩=some (.int .u8 c):=by
 cases l with
 |nil=>rw[h.nl rfl]at hq;simp[xt]at hq|cons x r=>
  have⟨_,h2⟩:=h.ow;obtain⟨h3,_⟩|⟨g,cap,lO,hv,_,hh,_,_,_,ht⟩:=h2
  .grind
  .rw[hv]at hq;simp[xt]at hq;subst hq;refine⟨x.toNat,?_⟩;simp only[xc,hh];have h0:(lO.toList.take<|(x::r).length*1)[0]? =some (.int .u8 x.toNat):=by rw[ht];simp[kh]
   rw[jy ag]at h0;simpa using h0
def PN.ne{w:World}(h:PN w B pb bv l last mv){b:Nat}(hb:Pa w b):bv.ownBlock≠some b:=λe=>by
 have⟨c,hc⟩:=h.aiy e;exact hb _ hc c rfl
def PN.lt{w:World}(h:PN w B pb bv l last mv):pb<w.heap.size:=by
 have⟨ad,hb,_⟩:=h.bk;exact(Array.getElem?_eq_some_iff.1 hb).1
def PN.pbN{w:World}(h:PN w B pb bv l last mv):Pa w pb:=λx hx c e=>by
 have⟨ad,hb,ha⟩:=h.bk;simp[xc,hb]at hx;subst hx;obtain rfl|rfl:=ha<;>cases e
def PN.same{w:World}(h:PN w B pb bv l last mv)(hs:w.heap.size<=w'.heap.size)(hb:∀b,b<w.heap.size->SP pb bv b->w'.heap[b]? =w.heap[b]?):PN w' B pb bv l last mv:=by
 have⟨ad,h1,h2⟩:=h.bk;refine⟨⟨ad,(hb pb h.lt<|qi rfl).trans h1,h2⟩,?_,h.nl,qk h.hb hs⟩;have⟨g1,g2⟩:=h.ow;refine⟨g1,?_⟩;obtain g2|⟨g,cap,lO,hv,hg,hh,r⟩:=g2
 .exact qi g2
 .refine qh ⟨g,cap,lO,hv,hg,?_,r⟩;rw[hb g (Array.getElem?_eq_some_iff.1 hh).1<|qh (by rw[hv];rfl),hh]
def PN.af{w:World}(h:PN w B pb bv l last mv)(hb:Bq w w'):PN w' B pb bv l last mv:=h.same hb.size λb z _=>hb.block b z
def Pa.same{w:World}{b:Nat}(h:Pa w b)(hb:w'.heap[b]? =w.heap[b]?):Pa w' b:=λx hx=>h x (by rw[<-qz (a:=⟨b,0,none⟩) (w:=w) hb];exact hx)
section
variable {w:World}
def dC{w:World}{b:Nat}{t}{fz}(h:w.heap[b]? =some (.cells C t fz))j v:(w.setCell ⟨b,j,none⟩ v).heap[b]? =some (.cells (C.setIfInBounds j v) t fz):=by
 have bq:=(Array.getElem?_eq_some_iff.1 h).1;simp[q9,Array.getElem?_modify,h]
def One.cell w b j v:One b w (w.setCell ⟨b,j,none⟩ v):=⟨rfl,rfl,rfl,yw,λk hk=>xn _ _ _ _ hk⟩
def DI{w}{c}{size}{v:Value}(h:w.ownsRow base e size v n xs)(o:One c w w')(cO:v.ownBlock≠some c):w'.ownsRow base e size v n xs:=by
 obtain⟨g1,g2⟩:=h;refine⟨g1,?_⟩;obtain g2|⟨g,cap,lO,hv,hg,hh,r⟩:=g2
 .exact qi g2
 .refine qh ⟨g,cap,lO,hv,hg,?_,r⟩;rw[o.block g<|λe=>cO (by rw[hv,<-e];rfl),hh]
def Ca{w2:World}{pb}{o}(hg:W.grownBy w2 row)(hb:W.heap[pb]? =some o)(hn:row≠some pb):w2.heap[pb]? =some o:=(hg.block pb (Array.getElem?_eq_some_iff.1 hb).1<|λe=>hn e.symm).trans hb
def yx{w:World}{size}{v:Value}(h:w.ownsRow base e size v n xs):∃ao n' cap,v=.slice ao n' cap:=by
 obtain⟨hv,_⟩|⟨g,cap,lO,hv,_⟩:=h.2
 .grind
 .grind
def Gu:(Tryz.prog.info? 110).map (λi=>i.size)=some 2:=qkr
def ab3:liesAt qu Tryz.prog.depth 113 (4/Tryz.prog.cellsOf 113) 0 110 1=true:=qkr
def aiz p w:(callFunc 262 #[p]).run qu w=.ok (.value p) w:=qkr
def Gv:(Tryz.prog.info? 5).map (λi=>(i.zero,i.size,i.bytes))=some (some<|.int .u8 0,1,1):=qkr
def vF:Tryz.prog.underlying 108=some (.slice 5):=qkr
def vG ad(had:ad=.pointer none\/ad=Pv pb)x1 x2 x3(h:w.heap[pb]? =some (.cells #[ad,x1,x2,x3] 113 (0,0))):
 Cq 221 #[Pv pb] w λe w'=>e=.returned (.tuple #[])/\w'.heap[pb]? =some (.cells #[Pv pb,x1,x2,x3] 113 (0,0))/\One pb w w':=by
 have⟨j,hj,hjs⟩:=Option.map_eq_some_iff.1 Gu;have c0:w.cell? ⟨pb,0,none⟩=some ad:=by simp[xc,h]
 have f0:w.frozen? ⟨pb,0,none⟩=false:=by simp[xd,h]
 have hsh:w.shape? pb=some (113,4):=by simp[World.shape?,h]
 obtain rfl|rfl:=had
 .have hn:=aiz;have ht:=Lib.run_to_unsafe (P:=Tryz.prog) w ⟨pb,0,none⟩ Tryz.underlying107 Tryz.underlying404 hj ae hsh (by show 0<4;decide);have hf:=Lib.run_from_unsafe (P:=Tryz.prog) w ⟨pb,0,none⟩ Tryz.underlying404 Tryz.underlying107 hj hsh ab3;have cO:∀W:World,(binOp .neq 107 (Pv pb)<|Pv pb).run Tryz.prog W=.ok (.bool false) W:=λW=>Lib.run_neq_ptr_same W _ Tryz.underlying107 hj;go_enter func221,ntmps221
  go_wp2
  go_end0;exact⟨rfl,(dC h 0 _).trans ag,One.cell _ _ _ _⟩
 .have cO:∀W:World,(binOp .neq 107 (Pv pb)<|Pv pb).run Tryz.prog W=.ok (.bool false) W:=λW=>Lib.run_neq_ptr_same W _ Tryz.underlying107 hj;go_enter func221,ntmps221
  go_wp2
  go_end0;exact⟨rfl,h,⟨rfl,rfl,rfl,rfl,λ_ _=>rfl⟩⟩
def Pb{p:Prop}(h:p:=by
 rw[e1,e2];refine⟨g1,?_⟩;obtain g2|⟨g,afE,lO,hv,hg,hh,r⟩:=g2
 .exact qi g2
 .refine qh ⟨g,afE,lO,hv,hg,?_,r⟩
  rw[xn _ _ _ _ (by show g≠pb;intro e;exact hnp (by rw[hv,e];rfl)),hh]):p:=h
def Pc{p:Prop}(h:p:=by
 obtain⟨hv,_⟩|⟨g,afE,lO,hv,_,hh,_⟩:=Pd.2
 .rw[hv]at e;simp[xt]at e
 .rw[hv]at e;simp[xt]at e;subst e;rw[uh cS]at hh
  simp at hh):p:=h
def Gw(h:PN w B pb bv l last mv)c(hl:l.length<=1000000):Cq 139 #[Pv pb,.int .u8 (c.toNat:Int)] w λe w'=>e=.returned .nilIface/\∃Wq,PN w' B pb Wq (l++[c]) last mv/\Fr (SP pb bv) w w':=by
 obtain⟨i0,vC,nJ,lG,jB⟩:=info_parts Gv;have hpn:=h.ne h.pbN;have bq:=h.lt;have hBw:=h.hb;obtain⟨ad,Wr,had⟩:=h.bk;have how:=ai h.ow;go_enter func139,ntmps139;go_wp2_with(first|(go_at_call 221;refine(vG ad had _ _ _ Wr).mono ?_;rintro e w1⟨rfl,b_,o1⟩;have c0:w1.cell? ⟨pb,0,none⟩=some (Pv pb):=(by simp[World.cell?,b_]);have c1:w1.cell? ⟨pb,1,none⟩=some bv:=(by simp[World.cell?,b_]);have O1:=ai o1;have dq:=ai b_;have Ws:=ai o1.size;have Wt:=ai<|DI how o1 hpn;clear o1 b_ Wr)|(at_builtin;go_must(refine wpList_append_own_at _ rfl (.tmp 11) (.tmp 13) 108 rfl B 5 i0 _ 1 1 vF vC nJ lG jB rfl aK bv l.length _ rfl (Wt.alloc _) ⟨w1.heap.size,0,none⟩ 1 1 [.int .u8 (c.toNat:Int)] rfl rfl (nX _ _ _ _ ag) qAn Wu ae (by have:=uh Ws;simp;omega) ?_;intro v2 w2 yz Tg Pe aiA;have fc:=Ca Tg ((Below.heap_alloc _ _ _ (by have:=uh Ws;omega)).trans dq) hpn;have d0:w2.cell? ⟨pb,0,none⟩=some (Pv pb):=(by simp[World.cell?,fc]);have d1:w2.cell? ⟨pb,1,none⟩=some bv:=(by simp[World.cell?,fc]);have f1:w2.frozen? ⟨pb,1,none⟩=false:=(by simp[World.frozen?,fc]);obtain⟨ao,n',cap,Th⟩:=yx yz;subst Th;have cS:=ai fc;clear fc;have Pd:=ai yz;have Hg2:=ai Tg;clear yz Tg Pe aiA)));go_ret;have hnp:(Value.slice ao n' cap).ownBlock≠some pb:=λe=>by
  exact Pc
 refine⟨rfl,.slice ao n' cap,⟨⟨_,(dC cS 1 _).trans ag,qh rfl⟩,?_,?_,?_⟩,?_⟩
 .have hO:=uh Pd;obtain⟨g1,g2⟩:=hO;have e1:kh (l++[c])=kh l++[.int .u8 (c.toNat:Int)]:=by simp[kh]
  have e2:(l++[c]).length=l.length+1:=ag;exact Pb
 .intro q;simp at q
 .have:=Hg2.size;have:=uh Ws;simp[q9]at*;omega
 .have hO:=uh O1;have hG:=uh Hg2;refine⟨(hG.os).trans hO.os,hG.tape.trans hO.tape,hG.output.trans hO.output,by simp[q9];have:=hG.size;have:=uh Ws;simp at*;omega,λk hk hn=>?_⟩;rw[xn _ _ _ _ (by show k≠pb;intro e;exact hn<|qi e),hG.block k (by have:=uh Ws;simp;omega)<|λe=>hn<|qh e.symm,Below.heap_alloc _ _ _ (by have:=uh Ws;omega)];exact hO.block k<|λe=>hn<|qi e
def p8(h:PN w B pb bv l last mv)s(hs:s.size<=100000)(hl:l.length<=1000000):Cq 147 #[Pv pb,.string s] w λe w'=>e=.returned (.tuple #[Nv s.size,.nilIface])/\∃Wq,PN w' B pb Wq (l++s.data.toList) last mv/\Fr (SP pb bv) w w':=by
 obtain⟨i0,vC,nJ,lG,jB⟩:=info_parts Gv;have hpn:=h.ne h.pbN;have bq:=h.lt;have hBw:=h.hb;obtain⟨ad,Wr,had⟩:=h.bk;have how:=ai h.ow;have hnl:=ai h.nl;go_enter func147,ntmps147;go_wp2_with(first|(go_at_call 221;refine(vG ad had _ _ _ Wr).mono ?_;rintro e w1⟨rfl,b_,o1⟩;have c0:w1.cell? ⟨pb,0,none⟩=some (Pv pb):=(by simp[World.cell?,b_]);have c1:w1.cell? ⟨pb,1,none⟩=some bv:=(by simp[World.cell?,b_]);have O1:=ai o1;have dq:=ai b_;have Ws:=ai o1.size;have Wt:=ai<|DI how o1 hpn;clear o1 b_ Wr)|(at_builtin;go_must(refine Lib.wpList_append_own_string _ rfl (.tmp 12) (.tmp 13) 108 9 rfl B 5 i0 vF Tryz.underlying9 vC nJ lG jB bv l.length _ rfl Wt s rfl Wu ae (by have:=uh Ws;omega) ?_;intro v2 w2 yz Tg Pe;have fc:=Ca Tg dq hpn;have d0:w2.cell? ⟨pb,0,none⟩=some (Pv pb):=(by simp[World.cell?,fc]);have d1:w2.cell? ⟨pb,1,none⟩=some bv:=(by simp[World.cell?,fc]);have f1:w2.frozen? ⟨pb,1,none⟩=false:=(by simp[World.frozen?,fc]);obtain⟨ao,n',cap,Th⟩:=yx yz;subst Th;have cS:=ai fc;clear fc;have Pd:=ai yz;have Hg2:=ai Tg;have Hn2:=ai Pe;clear yz Tg Pe)));go_ret2;have hnp:(Value.slice ao n' cap).ownBlock≠some pb:=λe=>by
  exact Pc
 refine⟨rfl,.slice ao n' cap,⟨⟨_,(dC cS 1 _).trans ag,qh rfl⟩,?_,?_,?_⟩,?_⟩
 .have hO:=uh Pd;obtain⟨g1,g2⟩:=hO;have e1:kh (l++s.data.toList)=kh l++Lib.strCells s:=by simp[kh,Lib.strCells]
  have e2:(l++s.data.toList).length=l.length+s.size:=ag;exact Pb
 .intro q;have q':l=[]/\s.data.toList=[]:=by simpa using q
  exact Hn2.2 ⟨hnl q'.1,by have:=congrArg qf q'.2;simpa using this⟩
 .have:=Hg2.size;have:=uh Ws;simp[q9]at*;omega
 .have hO:=uh O1;have hG:=uh Hg2;refine⟨(hG.os).trans hO.os,hG.tape.trans hO.tape,hG.output.trans hO.output,by simp[q9];have:=hG.size;have:=uh Ws;omega,λk hk hn=>?_⟩;rw[xn _ _ _ _ (by show k≠pb;intro e;exact hn<|qi e),hG.block k (by have:=uh Ws;omega)<|λe=>hn<|qh e.symm];exact hO.block k<|λe=>hn<|qi e
def Wv(h:PN w B pb bv l last mv)(h0:l≠[]):Cq 53 #[Pv pb] w λe w'=>e=.returned (.string<|bs l)/\Fr (SP pb bv) w w':=by
 have Cb:l.length≠0:=by simpa using h0
 have⟨ad,Wr,_⟩:=h.bk;have fP:=h.ow;obtain⟨g,cap,lO,rfl,hbg,hg,hnc,Ga,Mb,aiB⟩:∃g cap lO,bv=Lv (some ⟨g,0,none⟩) l.length cap/\B<=g/\w.heap[g]? =some (Cv lO 5 (0,0))/\l.length<=cap/\cap<=maxLen/\lO.size=cap*1/\lO.toList.take (l.length*1)=kh l:=by
  obtain⟨_,hz⟩|⟨g,cap,lO,hv,r⟩:=fP.2
  .exact absurd hz Cb
  .exact⟨g,cap,lO,hv,r⟩
 have c1:w.cell? ⟨pb,1,none⟩=some (Lv (some ⟨g,0,none⟩) l.length cap):=by simp[xc,Wr]
 have hSD:∀W:World,(Builtin.unsafeSliceData_ #[108] 178 #[Lv (some ⟨g,0,none⟩) l.length cap]).run qu W=.ok (Pv g) W:=λW=>Lib.run_unsafeSliceData_row W _ _ _ _ _ ae;have hUS:(Builtin.unsafeString_ #[178,3] 9 #[Pv g,Nv l.length]).run qu w.drew=.ok (Sv ⟨l.toArray⟩) (w.drew.freeze ⟨g,0,none⟩ l.length):=by
  refine Lib.run_unsafeString_row w.drew _ _ _ 5 Tryz.underlying178 qkr g lO.size (by have hg':w.drew.heap[g]? =some (Cv lO 5 (0,0)):=hg;simp[World.shape?,hg']) l h0 ae (by rw[maxLen]at Ga;omega) ?_;intro j x hx;exact fP.cells (g:=g) rfl j (.int .u8 x.toNat) (by simp[kh,hx])
 have HF:Fr (SP pb<|Lv (some ⟨g,0,none⟩) l.length cap) w (w.drew.freeze ⟨g,0,none⟩ l.length):=(by
  have hb:=Lib.below_freeze (B:=g) (xo g w.drew) (p:=⟨g,0,none⟩) (br _) l.length;refine⟨hb.os,hb.tape,hb.output,hb.size,λk hk hn=>?_⟩;have hkg:k≠g:=λe=>hn (qh (by rw[e];rfl));simp[World.freeze];rw[if_neg h0];simp only[Array.getElem?_modify,if_neg<|kw hkg]
  rfl)
 go_enter func53,ntmps53
 go_wp2
 go_region
 all_goals(
  go_wp2
  go_ret
  exact⟨rfl,HF⟩)
end
def spB(last t:BA):Bool:= !(t.toList==[41])&& !(t.toList==[44])&& !(t.toList==[59])&& !(last.toList==[])&& !(last.toList==[40])
structure FN B pb(w w':World):Prop where
 os:w'.os=w.os
 tape:w'.tape=w.tape
 output:w'.output=w.output
 size:w.heap.size<=w'.heap.size
 block:∀k,k<w.heap.size->k≠pb->(k<B\/Pa w k)->w'.heap[k]? =w.heap[k]?
def FN.trans{B pb}{a b c}(h:FN B pb a b)(k:FN B pb b c):FN B pb a c:=
 ⟨k.os.trans h.os,k.tape.trans h.tape,k.output.trans h.output,qk h.size k.size,λi hi hp hn=>by
  have e:=h.block i hi hp hn
  refine(k.block i (ql hi h.size) hp<|hn.imp id λq=>q.same e).trans e⟩
def FN.of{w:World}(h:Bq w w'):FN B pb w w':=⟨h.os,h.tape,h.output,h.size,λi hi _ _=>h.block i hi⟩
def Fr.fn{w:World}(h:PN w B pb bv l last mv)(hf:Fr (SP pb bv) w w'):FN B pb w w':=
 ⟨hf.os,hf.tape,hf.output,hf.size,λk hk hp hn=>hf.block k hk (λq=>by
  obtain q|q:=q
  .exact hp q
  .obtain hn|hn:=hn
   .have:=(fD h.ow k q).1;omega
   .exact h.ne hn q)⟩
def Pa.fn{w:World}{b:Nat}(h:Pa w b)(hb:b<w.heap.size)(hp:b≠pb)(hf:FN B pb w w'):Pa w' b:=h.same<|hf.block b hb hp<|qh h
def Bx.fn{w:World}{b:Nat}(h:Bx w b C)(hp:b≠pb)(hn:b<B\/Pa w b)(hf:FN B pb w w'):Bx w' b C:=h.same hf.size<|hf.block b h.z hp hn
def Bx.nby{w:World}{b:Nat}(h:Bx w b C)(hx:∀x,C[0]? =some x->∀c,x≠.int .u8 c):Pa w b:=λx q=>hx x (by rw[<-h.c 0];exact q)
def rV l last t:=(l++if spB last t then[32]else[])++t.data.toList
def afF B pb(bv:Value)l last t mv(g:Nat)w gk v wr:=
 (v=Iv 0/\gk=1/\wr=w)\/(v=Iv 1/\gk=0/\∃Wq,PN wr B pb Wq (rV l last t) t mv/\FN B pb w wr)
section
variable {w:World}
def yA{p:Prop}(h:p:=by
 go_enter func146,ntmps146
 go_wp2
 go_ret
 exact⟨rfl,rfl⟩):p:=h
def Gx last t:Cq 146 #[.string last,.string t] w λe w'=>e=.returned (.bool<|spB last t)/\w'=w:=by
 rw[spB]
 cases h1:(t.toList==[41])
 .cases h2:(t.toList==[44])
  .cases h3:(t.toList==[59])
   .cases h4:(last.toList==[])
    .go_enter func146,ntmps146
     go_wp2
     go_ret;exact⟨ag,rfl⟩
    .go_enter func146,ntmps146
     go_wp2
     go_ret;exact⟨ag,rfl⟩
   .exact yA
  .exact yA
 .exact yA
def PN.Gy{w}{B pb}{bv}{l}{last}{mv}(h:PN w B pb bv l last mv)t:PN (w.setCell ⟨pb,2,none⟩<|.string t) B pb bv l t mv:=by
 have hpn:=h.ne h.pbN;have⟨ad,hb,ha⟩:=h.bk;exact⟨⟨ad,(dC hb 2 _).trans ag,ha⟩,DI h.ow (One.cell _ _ _ _) hpn,h.nl,by have:=h.hb;simp[q9];exact this⟩
def PN.cells{w}{B pb}{bv}{l}{last}{mv}(h:PN w B pb bv l last mv):w.cell? ⟨pb,2,none⟩=some (.string last)/\w.frozen? ⟨pb,2,none⟩=false:=by
 have⟨ad,hb,ha⟩:=h.bk;exact⟨by simp[xc,hb],by simp[xd,hb]⟩
def FN.Gy B pb w v:FN B pb w (w.setCell ⟨pb,2,none⟩ v):=⟨rfl,rfl,rfl,yw,λk _ hp _=>xn _ _ _ _ hp⟩
def vH(h:PN w B pb bv l last mv)t(ht:t.size<=100000)(hl:l.length<=900000)g(hg:Bx w g #[.string t])(hgp:g≠pb):
 Cq 108 #[Pv pb,.slice (some ⟨g,0,none⟩) 1 1] w λe w'=>e=.returned (.tuple #[])/\∃Wq,PN w' B pb Wq (rV l last t) t mv/\FN B pb w w':=by
 obtain⟨cg,fg,zg⟩:=hg;have⟨c2,f2⟩:=h.cells;go_enter func108,ntmps108
 go_wp2
 go_loopg[8] 1 (λgk v wr=>afF B pb bv l last t mv g w gk v wr)
 case atStart=>exact qi ⟨rfl,rfl,rfl⟩
 case round=>
  obtain⟨rfl,rfl,rfl⟩|⟨rfl,rfl,hr⟩:=hrel
  .by_cases Ww:spB last t=true
   .go_wp2_with(first|(go_at_call 146;refine(Gx last t).mono ?_;rw[Ww];rintro e w'⟨rfl,rfl⟩)|(go_at_call 139;refine(Gw h 32 ae).mono ?_;rintro e w1⟨rfl,bv1,hN1,hF1⟩;have DJ:=ai hN1;have Bp:=ai<|Fr.fn h hF1;clear hN1 hF1)|(go_at_call 147;refine(p8 DJ t ht bB).mono ?_;rintro e w2⟨rfl,VO,Mc,Wx⟩;have LA:=ai Mc;have xF:=ai<|Bp.trans<|Fr.fn DJ Wx;have⟨c3,f3⟩:=Mc.cells;clear Mc Wx));go_roundg 0
    case measure=>omega
    case rel=>exact qh ⟨iK,rfl,VO,by rw[rV];rw[if_pos Ww];exact LA.Gy t,xF.trans<|FN.Gy _ _ _ _⟩
   .have akI:spB last t=false:=by simpa using Ww
    go_wp2_with(first|(go_at_call 146;refine(Gx last t).mono ?_;rw[akI];rintro e w'⟨rfl,rfl⟩)|(go_at_call 147;refine(p8 h t ht ae).mono ?_;rintro e w2⟨rfl,VO,Mc,Wx⟩;have LA:=ai Mc;have xF:=ai<|Fr.fn h Wx;have⟨c3,f3⟩:=Mc.cells;clear Mc Wx));go_roundg 0
    case measure=>omega
    case rel=>exact qh ⟨iK,rfl,VO,by rw[rV];rw[if_neg Ww,List.append_nil];exact LA.Gy t,xF.trans<|FN.Gy _ _ _ _⟩
  .go_wp2
   go_end0;exact⟨rfl,hr⟩
end
def VP:Nat->List Nat->List (Int×Value)
 |_,[]=>[]|i,a::l=>((a:Int),Nv i)::VP (i+1) l
def Pf:∀l i,(VP i l).length=l.length
 |[],i=>rfl|a::l,i=>by simp[VP,Pf l]
def Gz(s:Nat):∀l i,VP i (l++[s])=VP i l++[((s:Int),.int .i64 ((i+l.length:Nat):Int))]
 |[],i=>by simp[VP]|a::l,i=>by
  simp only[j7,VP,Gz s l<|i+1];simp;omega
def Pg(s:Nat):∀l i,s∈l->aX (s:Int) (VP i l)=some (.int .i64 ((i+l.idxOf s:Nat):Int))
 |[],i,h=>tW|a::l,i,h=>by
  rw[VP,aX];by_cases e:a=s
  .subst e;simp
  .have h1:¬((a:Int)=(s:Int)):=ae;have h2:(a==s)=false:=by simpa using e
   rw[if_neg h1,Pg s l (i+1)<|(List.mem_cons.1 h).resolve_left<|λq=>e q.symm,List.idxOf_cons,h2];simp;omega
def GB(s:Nat):∀l i,¬s∈l->aX (s:Int) (VP i l)=none
 |[],i,_=>rfl|a::l,i,h=>by
  rw[VP,aX];have h1:¬((a:Int)=(s:Int)):=λq=>h (by simp;left;omega);rw[if_neg h1];exact GB s l (i+1)<|λq=>h<|jh _ q
abbrev aiC:Int->Value:=λn=>Iv n
structure NB w nb mb L:Prop where
 bk:Bx w nb #[Mv mb]
 mp:MS aiC w mb (VP 0 L)
 ne:nb≠mb
def MS.len{enc}{w:World}{b:Nat}{L:List (κ×Value)}(h:MS enc w b L):∃es clock,w.heap[b]? =some (.map es clock)/\es.size=L.length:=by
 obtain⟨es,c,h1,h2⟩:=h;refine⟨es,c,h1,?_⟩;have:=congrArg qf h2;simpa using this
abbrev nbV(nb:Nat):Value:=.func (.func 72) #[] #[Pv nb]
def NB.fr{S}{w w'}{nb mb}{L}(h:NB w nb mb L)(hf:Fr S w w')(h1:¬S nb)(h2:¬S mb):NB w' nb mb L:=⟨h.bk.fr hf h1,h.mp.same<|hf.block mb h.mp.lt h2,h.ne⟩
def NB.af{w:World}(h:NB w nb mb L)(hb:Bq w w'):NB w' nb mb L:=h.fr (S:=λ_=>False) (Fr.of hb) id id
def vT i:=118::dec i
section
variable {w:World}
def Wy{b:Nat}{enc}{M:List (κ×Value)}(h:MS enc w b M){t:TypeId}(ht:Tryz.prog.underlying t=some (.map k e))(ty:TypeId):(Builtin.len_ #[t] ty #[Mv b]).run qu w=.ok (Nv M.length) w:=by
 have⟨es,c,h1,h2⟩:=h.len;simp[Builtin.len_,run_underlying ht,vh h1,h2,goInt]
def Ph w:(zeroValue 3).run qu w=.ok (Iv 0) w:=qkr
def DK nb mb L n w(e:Ending)w':=
 e=.returned (.string<|bs<|vT<|(vo L n).idxOf n)/\NB w' nb mb (vo L n)/\Fr (λb=>b=mb) w w'
def Ti(h:NB w nb mb L)n(hn:(vo L n).length<=96):Cq 72 #[Nv n,Pv nb] w (DK nb mb L n w):=by
 have hl:=h.mp.look (KL.num qw) qv (Ph w) (n:Int) trivial (λ_ _=>trivial) true;have⟨c,f,z⟩:=h.bk;have afG:∀i,(⟨#[118]⟩:BA)++bs (dec i)=bs (vT i):=λi=>by rw[show(⟨#[118]⟩:BA)=bs [118]from rfl,lp];rfl
 by_cases hm:n∈L
 .rw[Pg n L 0 hm]at hl;simp at hl;have es:vo L n=L:=by rw[vo,if_pos hm]
  rw[es]at hn;have bq:=ql (List.idxOf_lt_length_iff.2 hm) hn;have HC:=λW:World=>Wz (w:=W) (L.idxOf n) bq;have hc:=afG<|L.idxOf n;have hdl:(bs<|dec<|L.idxOf n).size<=100:=by rw[dM];have:=xG<|L.idxOf n;omega
  go_enter func72,ntmps72;go_wp2_with(go_at_call 73;refine(HC _).mono ?_;rintro e w'⟨rfl,rfl⟩);go_ret;rw[DK];rw[es];exact⟨rfl,h,Fr.refl _ _⟩
 .have hg:=GB n L 0 hm;rw[hg]at hl;simp at hl;have es:vo L n=L++[n]:=by rw[vo,if_neg hm]
  have hix:(L++[n]).idxOf n=L.length:=by
   rw[List.idxOf_append,if_neg hm];simp
  have hlen:=Wy h.mp qv;rw[Pf]at hlen;rw[es]at hn;simp at hn;have HC:=λW:World=>Wz (w:=W) L.length ae;have hc:=afG L.length;have hdl:(bs<|dec L.length).size<=100:=by rw[dM];have:=xG L.length;omega
  have HM:=ai h.mp;have HK:=ai h.bk;have cO:=h.ne;go_enter func72,ntmps72;go_wp2_with(first|(go_at_call 73;refine(HC _).mono ?_;rintro e w'⟨rfl,rfl⟩)|(refine aT _ rfl _ _ _ _ (Or.inr rfl) (KL.num Tryz.underlying98) Tryz.underlying171 _ _ rfl HM (n:Int) (Nv L.length) rfl rfl trivial (λ_ _=>trivial) ?_;intro w' H' O';have Bc:=ai H';have O2:=ai O';clear H' O'));go_ret;rw[DK];rw[es,hix];have O:=uh O2;refine⟨rfl,⟨HK.one O cO,?_,cO⟩,⟨O.os,O.tape,O.output,by rw[O.size];exact br _,λk hk hn=>O.block k hn⟩⟩;have:=uh Bc;rw[lN _ _ _ hg]at this;rw[Gz];simpa using this
end
def WA:pn rH=rH:=by simp_all[pn,rH]
inductive cW(w:World)(P:Nat->Prop):Ty->Value->Prop where
 |var(n:Nat):cW w P (.var n) (.iface 98<|Nv n)
 |aJ(c:BA)(L:List Ty)(sa:Option Addr)(sc:Nat)(vs:Nat->Value)(hc:CN c\/c=rH)(aM:L=[]\/∃g,sa=some ⟨g,0,none⟩/\P g/\g<w.heap.size/\∀i,i<L.length->w.cell? ⟨g,i,none⟩=some (vs i))(hr:∀i(h:i<L.length),cW w P L[i]<|vs i):
  cW w P (.aJ c L) (.iface 169<|.agg #[.string<|pn c,.slice sa L.length sc])
theorem cW.move{w}{v}(h:cW w P t v)(hs:w.heap.size<=w'.heap.size)(hb:∀b,P b->b<w.heap.size->w'.heap[b]? =w.heap[b]?)(hq:∀b,P b->b<w.heap.size->Q b):cW w' Q t v:=by
 exact O_
def cW.af{w}{v}(h:cW w P t v)(hb:Bq w w'):cW w' P t v:=h.move hb.size (λb _ hz=>hb.block b hz)<|λ_ p _=>p
def cW.wide{w}{v}(h:cW w P t v)(hq:∀b,P b->Q b):cW w Q t v:=h.move (br _) (λ_ _ _=>rfl)<|λb p _=>hq b p
def cW.fr{S}{w}{v}(h:cW w P t v)(hf:Fr S w w')(hS:∀b,P b->b<w.heap.size->¬S b):cW w' P t v:=h.move hf.size (λb p z=>hf.block b z<|hS b p z)<|λ_ p _=>p
def cW.low{w}{v}(h:cW w P t v):cW w (λb=>P b/\b<w.heap.size) t v:=h.move (br _) (λ_ _ _=>rfl)<|λ_ p z=>⟨p,z⟩
def cW.iface{w}{v}(h:cW w P t v):∃a x,v=.iface a x:=by
 cases h<;>exact⟨_,_,rfl⟩
def dB.w{w}{v}(h:dB w P t v):cW w P t v:=by
 induction h with
 |var n=>exact .var n|aJ c L sa sc vs hc aM hr ih=>exact .aJ c L sa sc vs (qi hc) aM ih
def tZ:∀{L:List Ty},jK L->∀i(h:i<L.length),Whole L[i]
 |[],_,i,h=>tW|t::l,h,0,_=>h.1|t::l,h,i+1,k=>by simpa using tZ h.2 i (by simpa using k)
def cW.v{w}{v}(h:cW w P t v)(hw:Whole t):dB w P t v:=by
 induction h with
 |var n=>exact .var n|aJ c L sa sc vs hc aM hr ih=>exact .aJ c L sa sc vs (hc.resolve_right hw.1) aM λi hi=>ih i hi<|tZ hw.2 i hi
mutual
def occs:Ty->List Nat
 |.var n=>[n]|.aJ _ l=>fZ l
def fZ:List Ty->List Nat
 |[]=>[]|t::l=>occs t++fZ l
end
mutual
def cr:∀(t:Ty)(a:List Nat),vars a t=(occs t).foldl vo a
 |.var n,a=>rfl|.aJ c l,a=>by simpa[vars,occs]using yB l a
def yB:∀(l:List Ty)(a:List Nat),bh a l=(fZ l).foldl vo a
 |[],a=>rfl|t::l,a=>by simp only[bh,fZ,ju];rw[cr t a];exact yB l _
end
def yC:∀(L:List Ty)(i:Nat)(h:i<L.length),fZ (L.take<|i+1)=fZ (L.take i)++occs L[i]
 |[],i,h=>tW|t::l,0,_=>by simp[fZ]|t::l,i+1,h=>by
  have:=yC l i Bm;simp only[ji,fZ,jk,this,jo]
def Pj σ L i(h:i<L.length):(aS σ L)[i]'(by rw[dT];exact h)=sub σ L[i]:=by simp[ij]
def lP:∀(L:List Ty)(i:Nat)(h:i<L.length),size L[i]<=ah L:=by simp_all[size,ah,rW]
def DL:∀L:List Ty,L.length<=ah L
 |[]=>br _|t::l=>by have:=DL l;have:=size_pos t;simp only[pk,ah];omega
def Pk{n:Nat}:∀(L:List Ty)(i:Nat)(h:i<L.length),aD n L[i]->bT n L
 |[],i,h,_=>tW|t::l,0,_,k=>qi k|t::l,i+1,h,k=>qh (Pk l i Bm<|by simpa using k)
def Tj{P}{t}(ht:P.underlying t=some (.slice e))(hi:P.info? e=some i)(hz:i.zero=some z)(hzc:z.cells=#[z])(h1:i.size=1)(h2:i.bytes=by_)(hby:by_<=16)n(hn:n<=1000000000000)w:
 (Instr.makeSlice t (Nv n)<|Nv n).run P w=.ok (.slice (some ⟨w.heap.size,0,none⟩) n n) (w.alloc<|.cells (xh n z) e):=by
 have hb:(i.bytes:Int)*(n:Int)<=281474976710656:=by
  rw[h2];have:by_*n<=16*1000000000000:=qr hby hn;exact Gs
 exact Gq
@[simp] theorem afH n w:(v7 (.iface 98<|Iv n) 67 98 true).run qu w=.ok (.tuple #[Iv n,.bool true]) w:=qkr
@[simp] theorem amd n w:(v7 (.iface 98<|Iv n) 67 169 true).run qu w=.ok (.tuple #[.agg #[.string ⟨#[]⟩,.slice none 0 0],.bool false]) w:=qkr
@[simp] theorem aiD a b w:(v7 (.iface 169<|.agg #[a,b]) 67 98 true).run qu w=.ok (.tuple #[Iv 0,.bool false]) w:=qkr
@[simp] theorem ame a b w:(v7 (.iface 169<|.agg #[a,b]) 67 169 true).run qu w=.ok (.tuple #[.agg #[a,b],.bool true]) w:=qkr
abbrev WB(B M:Nat->Prop)n b:=¬M b/\(B b\/n<=b)
abbrev GC:=List Nat->(Nat->Prop)->(Nat->Prop)->World->Prop
structure Img g bs cs(σ:Nat->Ty)(N:List Nat->Nat->Prop)(I:GC):Prop where
 eg:∀args w,(callFunc g args).run qu w=.ok (.enter g args) w
 lq:∀acc B M w w',I acc B M w->w.heap.size<=w'.heap.size->(∀b,B b\/M b->w'.heap[b]? =w.heap[b]?)->I acc B M w'
 lt:∀acc B M w,I acc B M w->∀b,B b\/M b->b<w.heap.size
 call:∀acc B M w n,I acc B M w->N acc n->Cq g (bs++#[Nv n]++cs) w λe w'=>
  ∃u B' M',e=.returned u/\cW w' (WB B M' w.heap.size) (σ n) u/\I (acc++[n]) B' M' w'/\(∀b,B' b->B b\/w.heap.size<=b)/\(∀b,M' b->M b\/w.heap.size<=b)/\Fr M w w'
def Fr.gV{M M'}{a b c}(h:Fr M a b)(k:Fr M' b c)(hm:∀x,M' x->M x\/a.heap.size<=x):Fr M a c:=
 ⟨k.os.trans h.os,k.tape.trans h.tape,k.output.trans h.output,qk h.size k.size,λx hx hn=>(k.block x (ql hx h.size) (λq=>by obtain r|r:=hm x q;exact hn r;omega)).trans (h.block x hx hn)⟩
def Pl σ(I:GC)acc B M t w(e:Ending)w':=
 ∃u B' M',e=.returned u/\cW w' (WB B M' w.heap.size) (sub σ t) u/\I (acc++occs t) B' M' w'/\(∀b,B' b->B b\/w.heap.size<=b)/\(∀b,M' b->M b\/w.heap.size<=b)/\Fr M w w'
def GD(N:List Nat->Nat->Prop)acc(l:List Nat):=∀i(h:i<l.length),N (acc++l.take i) l[i]
def GD.left{l:List Nat}(h:GD N acc (l++l')):GD N acc l:=λi hi=>by
 have:=h i bB
 rwa[List.take_append_of_le_length ae,jx hi]at this
def GD.right{l:List Nat}(h:GD N acc (l++l')):GD N (acc++l) l':=λi hi=>by
 have:=h (l.length+i) bB;rw[List.take_length_add_append,<-jo]at this;simpa using this
def ab4 g bs cs σ N I t:=∀(acc:List Nat)(B M:Nat->Prop)(w:World)(v:Value)(Q:Nat->Prop),I acc B M w->GD N acc (occs t)->size t<=1000000000000->cW w Q t v->(∀b,Q b->b<w.heap.size->¬M b)->
 Cq 326 #[v,.func (.func g) bs cs] w (Pl σ I acc B M t w)
def ab5 σ(I:GC)acc B M(L:List Ty)TC w gk v wr:=
 ∃(j:Nat)(C:Array Value)(B' M':Nat->Prop),Hid (gk=L.length-j)/\j<=L.length/\v=Nv j/\I (acc++fZ (L.take j)) B' M' wr/\Hid (∀b,B' b->B b\/w.heap.size+2<=b)/\Hid (∀b,M' b->M b\/w.heap.size+2<=b)/\Fr M w wr/\Bx wr w.heap.size TC/\Bx wr (w.heap.size+1) C/\Hid (C.size=L.length)/\
  Hid (∀i(h:i<L.length),i<j->∃u,C[i]? =some u/\cW wr (λb=>WB B M' (w.heap.size+2) b/\b<wr.heap.size) (sub σ L[i]) u)
def WD L j(h:j<L.length):∃r,fZ L=fZ (L.take j)++(occs L[j]++r):=by
 induction L generalizing j with
 |nil=>simp at h|cons t l ih=>
  cases j with
  |zero=>exact⟨fZ l,by simp[fZ]⟩|succ j=>
   have⟨r,e⟩:=ih j Bm;exact⟨r,by simp only[ji,fZ,jk];rw[e];simp[jo]⟩
section
variable {bs:Array Value} {σ:Nat->Ty} {I:GC}
def ab6(H:Img g bs cs σ N I)n:ab4 g bs cs σ N I (.var n):=by
 intro acc B M w v Q hI hN hz hv hQ
 cases hv
 have eg:=H.eg;have HC:=H.call acc B M w n hI (by simpa[occs]using hN 0 (by simp[occs]));go_enter func326,ntmps326;go_wp2_with(go_at_fn g;refine HC.mono ?_;rintro e w1⟨u,B',M',rfl,h2,h3,h4,h5,h6⟩;obtain⟨ta,xa,rfl⟩:=h2.iface;have X:=ai<|show Pl σ I acc B M (.var n) w (Rv<|Fv ta xa) w1 from⟨_,B',M',rfl,h2,h3,h4,h5,h6⟩;clear h2 h3 h4 h5 h6);go_ret;exact X
def DN{p:Prop}(h:p:=by
 obtain r|r:=uh hM1 _ q
 .have:=HB _<|qh r;omega
 .omega):p:=h
def ab7(H:Img g bs cs σ N I)c L(IH:∀i(h:i<L.length),ab4 g bs cs σ N I L[i]):ab4 g bs cs σ N I (.aJ c L):=by
 intro acc B M w v Q HN HNN HZ hv HQ
 cases hv with
 |aJ c L sa sc vs hc aM hr=>
 have hL:L.length<=1000000000000:=by have:=DL L;simp only[size]at HZ;omega
 obtain⟨i0,vC,nJ,lG,jB⟩:=info_parts fY;have Te:=Tj (by_:=16) dS vC nJ rfl lG jB aK L.length hL;have HB:=H.lt acc B M w HN;have HK:=ai H.lq;go_enter func326,ntmps326
 go_wp2
 go_loopg[27] L.length (λgk v wr=>ab5 σ I acc B M L #[.string<|pn c,.slice sa L.length sc] w gk v wr)
 case atStart=>
  have b1:Bq w ((w.alloc<|.cells #[.string<|pn c,.slice sa L.length sc] 169).alloc<|.cells (xh L.length .nilIface) 67):=(bw _).alloc ag _;refine⟨0,xh L.length .nilIface,B,M,ai ag,qn _,rfl,?_,ai<|λb hb=>qi hb,ai<|λb hb=>qi hb,Fr.of b1,?_,?_,ai ag,ai<|λi _ hi=>absurd hi ae⟩
  .simpa[fZ]using HK _ _ _ _ _ HN b1.size (λb hb=>b1.block b<|HB b hb)
  .exact(Bx.new w _ _).below (bw _)
  .have:=Bx.new (w.alloc<|.cells #[.string<|pn c,.slice sa L.length sc] 169) (xh L.length .nilIface) 67;simpa using this
 case round=>
  obtain⟨j,C,B1,M1,cR,hj,rfl,DJ,hB1,hM1,F1,T1,P1,hC,hT⟩:=hrel;have zw:=F1.size;have tz:=T1.z;have pz:=P1.z;by_cases aY:j<L.length
  .have hd:(j:Int)<(L.length:Int):=ae;obtain⟨g1,rfl,hg,iP,bM⟩:∃g,sa=some ⟨g,0,none⟩/\Q g/\g<w.heap.size/\∀i,i<L.length->w.cell? ⟨g,i,none⟩=some (vs i):=by
    exact yu
   have cg:wr.cell? ⟨g1,j,none⟩=some (vs j):=by
    rw[qz (a:=⟨g1,j,none⟩) (w:=w)<|F1.block g1 iP<|HQ g1 hg iP];exact bM j aY
   have PJ:=(hr j aY).low.fr F1<|λb p _=>HQ b p.1 p.2;obtain⟨tv,xv,hv⟩:=PJ.iface;obtain⟨rr,hrr⟩:=WD L j aY;have hNj:GD N (acc++fZ (L.take j)) (occs L[j]):=by
    have:=HNN;simp only[occs]at this;rw[hrr]at this;exact this.right.left
   have hQ1:∀b,(Q b/\b<w.heap.size)->b<wr.heap.size->¬M1 b:=λb p _ q=>by
    obtain r|r:=uh hM1 b q
    .exact HQ b p.1 p.2 r
    .omega
   have HC:=IH j aY _ B1 M1 wr (vs j) _ DJ hNj (by have:=lP L j aY;have:=HZ;simp only[size]at this;omega) PJ hQ1;rw[hv]at cg HC;obtain⟨tc,tf,_⟩:=T1;go_wp2_with fail;refine HC.mono ?_;rintro e w1⟨u,B2,M2,rfl,HU,LA,cS,Bc,HF⟩;obtain⟨tu,xu,rfl⟩:=HU.iface;have hpb:¬M1 (w.heap.size+1):=λq=>by
    exact DN
   have htb:¬M1 w.heap.size:=λq=>by
    exact DN
   have P2:=P1.fr HF hpb;have T2:=(show Bx wr w.heap.size #[.string<|pn c,.slice (some ⟨g1,0,none⟩) L.length sc]from⟨tc,tf,tz⟩).fr HF htb;have rG:j<C.size:=qBh;have cj:=(P2.c j).trans<|xi rG;have fj:=P2.f j;have P3:=P2.aP j (.iface tu xu) (C.setIfInBounds j<|.iface tu xu) rfl rG;have T3:=T2.bO (show w.heap.size≠w.heap.size+1 by omega) j (.iface tu xu);have xF:=F1.gV HF (λx q=>by obtain r|r:=uh hM1 x q;exact qi r;exact qh ae);have z2:=HF.size
   go_wp2
   go_roundg(L.length-(j+1))
   case measure=>rw[uh cR];omega
   case rel=>
    have cO:∀b,b≠w.heap.size+1->(w1.setCell ⟨w.heap.size+1,j,none⟩<|.iface tu xu).heap[b]? =w1.heap[b]? :=λb hb=>xn _ _ _ _ (by show b≠w.heap.size+1;exact hb);have hss:(w1.setCell ⟨w.heap.size+1,j,none⟩<|.iface tu xu).heap.size=w1.heap.size:=yw;have mI:∀b,B2 b->B b\/w.heap.size+2<=b:=λb hb=>by
     obtain q|q:=cS b hb
     .exact hB1 b q
     .exact qh ae
    have hm3:∀b,M2 b->M b\/w.heap.size+2<=b:=λb hb=>by
     obtain q|q:=Bc b hb
     .exact hM1 b q
     .exact qh ae
    have hn3:∀b,(B b\/w.heap.size+2<=b)->b≠w.heap.size+1:=λb hb e=>by
     obtain q|q:=hb
     .have:=HB b<|qi q;omega
     .omega
    have hn4:∀b,(M b\/w.heap.size+2<=b)->b≠w.heap.size+1:=λb hb e=>by
     obtain q|q:=hb
     .have:=HB b<|qh q;omega
     .omega
    refine⟨j+1,C.setIfInBounds j<|.iface tu xu,B2,M2,ai rfl,ae,iK,?_,ai mI,ai hm3,?_,T3,P3,ai (by simp;exact hC),ai<|λi hi hij=>?_⟩
    .rw[yC L j aY,<-jo];exact HK _ _ _ _ _ LA ae (λb hb=>cO b (by obtain q|q:=hb;exact hn3 b<|mI b q;exact hn4 b<|hm3 b q))
    .exact xF.set (qh ae) j _
    .by_cases e:i=j
     .subst e;refine⟨.iface tu xu,by simp[rG],?_⟩
      have hL1:∀b,WB B1 M2 wr.heap.size b->WB B M2 (w.heap.size+2) b:=λb p=>⟨p.1,by
       obtain q|q:=p.2
       .exact hB1 b q
       .exact qh ae⟩
      exact HU.move ae (λb p z=>cO b<|hn3 b (hL1 b p).2)<|λb p z=>⟨hL1 b p,ae⟩
     .obtain⟨u',vD,vE⟩:=uh hT i hi ae;refine⟨u',by rw[xg ae];exact vD,?_⟩;have h3:=vE.fr HF<|λb p _=>p.1.1;refine h3.move ae (λb p z=>cO b<|hn3 b p.1.2)<|λb p z=>⟨⟨λq=>?_,p.1.2⟩,ae⟩;obtain r|r:=Bc b q
      .exact p.1.1 r
      .have:=p.2;omega
  .have hd:decide ((j:Int)<(L.length:Int))=false:=bB;have ej:j=L.length:=ae;subst ej;obtain⟨tc,tf,_⟩:=T1
   go_wp2
   go_ret;refine⟨_,B1,M1,rfl,?_,?_,λb hb=>?_,λb hb=>?_,F1⟩
   .have Wp:=dT σ L;simp only[sub];rw[<-Wp];refine .aJ c _ _ _ (λi=>C.getD i .nilIface) hc (qh ⟨w.heap.size+1,rfl,⟨λq=>?_,qh ae⟩,P1.z,λi hi=>?_⟩)<|λi hi=>?_
    .exact DN
    .rw[Wp]at hi;obtain⟨u,hu,_⟩:=uh hT i hi hi;rw[P1.c i,hu];simp[xk,hu]
    .have Bo:i<L.length:=by rw[Wp]at hi;exact hi
     obtain⟨u,hu,Tf⟩:=uh hT i Bo Bo;have:C.getD i .nilIface=u:=qBm;rw[this,Pj σ L i Bo];exact Tf.wide λb p=>⟨p.1.1,by obtain q|q:=p.1.2;exact qi q;exact qh ae⟩
   .simp only[occs];rw[<-jc (l:=L)];exact DJ
   .obtain q|q:=uh hB1 b hb
    .exact qi q
    .exact qh ae
   .obtain q|q:=uh hM1 b hb
    .exact qi q
    .exact qh ae
def yD(H:Img g bs cs σ N I):∀t,ab4 g bs cs σ N I t
 |.var n=>ab6 H n|.aJ c L=>ab7 H c L λi h=>yD H L[i]
 termination_by t=>size t
 decreasing_by have:=lP L i h;simp only[size];omega
end
section
variable {w:World}
def rX:Cq 124 #[] w λe w'=>e=.returned (.iface 169<|.agg #[.string qL,.slice none 0 0])/\w'=w:=by
 go_enter func124,ntmps124
 go_wp2
 go_ret;exact⟨rfl,rfl⟩
def nY:Cq 125 #[] w λe w'=>e=.returned (.iface 169<|.agg #[.string jL,.slice none 0 0])/\w'=w:=by
 go_enter func125,ntmps125
 go_wp2
 go_ret;exact⟨rfl,rfl⟩
def yE:Cq 330 #[] w λe w'=>e=.returned (.iface 169<|.agg #[.string iM,.slice none 0 0])/\w'=w:=by
 go_enter func330,ntmps330
 go_wp2
 go_ret;exact⟨rfl,rfl⟩
def mJ:nI qL:=⟨73,[110,116],toList_mk _,aK⟩
def kN:nI jL:=⟨66,[111,111,108],toList_mk _,aK⟩
def rY:nI iM:=⟨85,[110,105,116],toList_mk _,aK⟩
def GF w P(h:nI c):cW w P (.aJ c []) (.iface 169<|.agg #[.string c,.slice none 0 0]):=by
 have:=cW.aJ (w:=w) (P:=P) c [] none 0 (λ_=>Zv) (qi<|qh<|qh h) (qi rfl) (λi hi=>by simp at hi);rw[eM h]at this;exact this
def mK c a b(w:World)(e:Ending)w':=
 e=.returned (.iface 169<|.agg #[.string<|pn c,.slice (some ⟨w.heap.size,0,none⟩) 2 2])/\w'=w.alloc (.cells #[a,b] 67)
def vI ta tb xa xb:Cq 350 #[.iface ta xa,.iface tb xb] w (mK nB (.iface ta xa) (.iface tb xb) w):=by
 go_enter func350,ntmps350
 go_wp2
 go_ret;rw[mK];rw[jI];exact⟨rfl,rfl⟩
def Pm ta tb xa xb:Cq 351 #[.iface ta xa,.iface tb xb] w (mK lj (.iface ta xa) (.iface tb xb) w):=by
 go_enter func351,ntmps351
 go_wp2
 go_ret;rw[mK];rw[jJ];exact⟨rfl,rfl⟩
def mK.ty(hc:CN c){a b}{va vb}(ha:cW w Q a va)(hb:cW w Q b vb)(hq:Q w.heap.size):
 cW (w.alloc<|.cells #[va,vb] 67) Q (.aJ c [a,b]) (.iface 169<|.agg #[.string<|pn c,.slice (some ⟨w.heap.size,0,none⟩) 2 2]):=by
 have⟨bl,bx⟩:=nK w #[va,vb] 67;refine cW.aJ c [a,b] (some ⟨w.heap.size,0,none⟩) 2 (λi=>if i=0 then va else vb) (qi hc) (qh ⟨w.heap.size,rfl,hq,bx.z,λi hi=>?_⟩) (λi hi=>?_)
 .have:=bx.c i;obtain _|_|i:=i
  .exact this
  .exact this
  .simp at hi;omega
 .obtain _|_|i:=i
  .exact ha.af bl
  .exact hb.af bl
  .simp at hi;omega
end
def WI(h:CN c):pn c≠rH:=by
 have e:rH.toList=[116,111,111,32,108,97,114,103,101]:=toList_mk _;obtain rfl|rfl|h:=h
 .rw[jI];intro q;have:=congrArg kq q;rw[e,toList_mk]at this;simp at this
 .rw[jJ];intro q;have:=congrArg kq q;rw[e,toList_mk]at this;simp at this
 .rw[eM h];intro q;subst q;exact cQ h 116 _ aK e
def aiE(L:List Ty)TC w gk(v s:Value)wr:=
 ∃(j:Nat),Hid (gk=L.length-j)/\j<=L.length/\v=Nv j/\s=.int .i64 ((1+qM (L.take j):Nat):Int)/\Bq w wr/\Bx wr w.heap.size TC
def yF:∀(L:List Ty)(i:Nat)(h:i<L.length),qM (L.take<|i+1)=qM (L.take i)+sz L[i]
 |[],i,h=>tW|t::l,0,_=>by simp[qM]|t::l,i+1,h=>by
  have:=yF l i Bm;simp only[ji,qM,jk,this,Nat.add_assoc]
def vJ:∀(L:List Ty)(i:Nat),qM (L.take i)<=qM L
 |[],i=>ag|t::l,0=>by simp[qM]|t::l,i+1=>by have:=vJ l i;simp only[ji,qM];omega
section
variable {w:World}
def SzC t:=∀(w:World)(v:Value)(Q:Nat->Prop),cW w Q t v->size t<=1000000000000->Cq 315 #[v] w λe w'=>e=.returned (Nv<|sz t)/\Bq w w'
def afI n:SzC (.var n):=by
 intro w v Q hv hz
 cases hv
 go_enter func315,ntmps315
 go_wp2
 go_ret;exact⟨by simp[sz],bw _⟩
def afJ c L(IH:∀i(h:i<L.length),SzC L[i]):SzC (.aJ c L):=by
 intro w v Q hv HZ
 cases hv with
 |aJ c L sa sc vs hc aM hr=>
 by_cases ec:c=rH
 .subst ec;rw[WA];rw[rH];go_enter func315,ntmps315
  go_wp2
  go_ret;exact⟨by simp[sz,rH],bw _⟩
 .have cO:pn c≠rH:=by
   obtain h|h:=hc
   .exact WI h
   .exact absurd h ec
  have hd0:((pn c).toList==[116,111,111,32,108,97,114,103,101])=false:=by
   rw[<-Bool.not_eq_true,beq_iff_eq];intro q;exact cO<|toList_inj<|q.trans (toList_mk [116,111,111,32,108,97,114,103,101]).symm
  go_enter func315,ntmps315
  go_wp2
  go_loopg[5,21] L.length (λgk s v wr=>aiE L #[Sv<|pn c,Lv sa L.length sc] w gk v s wr)
  case atStart=>exact⟨0,ai ag,qn _,rfl,by simp[qM],bw _,Bx.new w _ _⟩
  case round=>
   obtain⟨j,cR,hj,rfl,rfl,Br,Tk⟩:=hrel;have hZ:=HZ;by_cases aY:j<L.length
   .have hd:(j:Int)<(L.length:Int):=ae;obtain⟨g1,rfl,hg,iP,bM⟩:∃g,sa=some ⟨g,0,none⟩/\Q g/\g<w.heap.size/\∀i,i<L.length->w.cell? ⟨g,i,none⟩=some (vs i):=by
     exact yu
    have cg:wr.cell? ⟨g1,j,none⟩=some (vs j):=by
     rw[qz (a:=⟨g1,j,none⟩) (w:=w)<|Br.block g1 iP];exact bM j aY
    have PJ:=(hr j aY).af Br;have⟨tv,xv,hv⟩:=PJ.iface;have hzj:=lP L j aY;simp only[size]at hZ;have hlen:=DL L;have HC:=IH j aY wr (vs j) Q PJ ae;rw[hv]at cg HC;have hle:=vJ L<|j+1;rw[yF L j aY]at hle;have aiF:=Md L;have hs0:((1+qM (L.take j):Nat):Int)=1+(qM (L.take j):Int):=ae;generalize hA:qM (L.take j)=A at*;generalize hB:sz L[j]=B at*;go_wp2_with fail;refine HC.mono ?_;rintro e w1⟨rfl,Tl⟩
    go_wp2
    go_roundg(L.length-(j+1))
    case measure=>rw[uh cR];omega
    case rel=>
     have z1:=Br.size;refine⟨j+1,ai rfl,ae,iK,?_,Br.trans<|Tl.mono z1,Tk.below Tl⟩;rw[yF L j aY,hA,hB];go_num
   .have hd:decide ((j:Int)<(L.length:Int))=false:=bB;have ej:j=L.length:=ae;subst ej
    go_wp2
    go_ret;refine⟨?_,Br⟩;rw[jc];simp only[sz];rw[if_neg ec];rfl
def po:∀t,SzC t
 |.var n=>afI n|.aJ c L=>afJ c L λi h=>po L[i]
 termination_by t=>size t
 decreasing_by have:=lP L i h;simp only[size];omega
end
abbrev gE(w:World)e base v xs:=w.ownsRow base e 1 v xs.length xs
def gE.new(w:World)e C base(hb:base<=w.heap.size)(hl:C.length<=1000000000000)n(hn:n=C.length):gE (w.alloc<|.cells C.toArray e) e base (.slice (some ⟨w.heap.size,0,none⟩) n n) C:=by
 subst hn;exact⟨ag,.inr ⟨w.heap.size,C.length,C.toArray,rfl,hb,heap_alloc_new w _,br _,Wu,ag,ag⟩⟩
def GG{w:World}{b'}{size}{v:Value}(h:w.ownsRow b' e size v n xs)(hb:base<=b'):w.ownsRow base e size v n xs:=by
 obtain⟨h1,h2⟩:=h;obtain h2|⟨g,cap,lO,r1,r2,r3⟩:=h2
 .exact⟨h1,.inl h2⟩
 .exact⟨h1,.inr ⟨g,cap,lO,r1,qk hb r2,r3⟩⟩
def wR{P}w base t ty e i z size bytes(ht:P.underlying t=some (.slice e))(hi:P.info? e=some i)(hz:i.zero=some z)(WJ:i.size=size)(hby:i.bytes=bytes)(hzs:z.cells.size=size)(dU:0<size)v n xs(fP:w.ownsRow base e size v n xs)a m c news(hl:news.length=m*size)(Pn:∀j u,news[j]? =some u->w.cell? (a.add j)=some u)(h1:∀u∈news,u.oneCell'=true)(h63:n+m<=maxLen)(Me:(n+m)*bytes<=140737488355328)(p9:base<=w.heap.size):
 ∃v' w',(Builtin.append_ #[t,t] ty #[v,.slice (some a) m c]).run P w=.ok v' w'/\w'.ownsRow base e size v' (n+m) (xs++news)/\w.grownBy w' v.ownBlock/\∀k,v'.ownBlock=some k->v.ownBlock=some k\/w.heap.size<=k:=by
 have aeA:=fP;obtain⟨rfl,rfl⟩|⟨g,cap,lO,rfl,hbg,hg,hnc,Ga,Mb,aiB⟩:=fP.2
 .have hx:=jj (by simpa using fP.1);subst hx;have⟨v',w',q1,q2,q3,_⟩:=run_append_own w w.heap.size t ty e i z size bytes ht hi hz WJ hby hzs dU (Lv none 0 0) 0 [] (xf w _ e size) a m c news hl Pn h1 h63 Me<|br _;exact⟨v',w',q1,GG q2 p9,q3,λk hk=>qh (World.ownsRow.lt q2 k hk).1⟩
 .have⟨v',w',q1,q2,q3,_⟩:=run_append_own w base t ty e i z size bytes ht hi hz WJ hby hzs dU _ n xs aeA a m c news hl Pn h1 h63 Me p9;refine⟨v',w',q1,q2,q3,?_⟩;subst WJ;by_cases aeB:n+m<=cap
  .have akJ:n*i.size+news.length<=lO.size:=by rw[hl,Mb,<-Nat.add_mul];exact qs _ aeB
   have hr:=run_append_room (P:=P) w t ty e i ht hi g n cap lO hg a m c news hl Pn h1 aeB akJ;rw[hr]at q1;injection q1 with q1 _;subst q1;exact λk hk=>qi hk
  .have holds:=aeA.cells (g:=g) rfl;have hr:=run_append_grow (P:=P) w t ty e i z ht hi hz ⟨g,0,none⟩ n cap xs fP.1 holds a m c news hl Pn ae (by rw[maxLen]at h63;omega) (growslice_fits ae (by rw[hby];exact Me));rw[hr]at q1;injection q1 with q1 _;subst q1;intro k hk;simp[xt]at hk;exact qh ae
def aeC{T}(hT:Tryz.prog.underlying T=some (.slice e))(hI:(Tryz.prog.info? e).map (λi=>(i.zero,i.size,i.bytes))=some (some z,1,by_))(hzc:z.cells.size=1)(hby:by_<=16){w:World}{a}{Q}(hgd:o.guard=none)s x(ho:o.op=.call {callee:=.builtin .append,args:=#[s,x],argTypes:=#[T,T]}){b0}{v:Value}{news}(hs:a.eval s=v)(fP:gE w e base v xs)(hx:a.eval x=u)(hn:gE w e b0 u news)(h1:∀u∈news,u.oneCell'=true)(hz:xs.length+news.length<=1000000000000)(p9:base<=w.heap.size)(h:∀v' w',gE w' e base v' (xs++news)->w.grownBy w' v.ownBlock->(∀k,v'.ownBlock=some k->v.ownBlock=some k\/w.heap.size<=k)->wpList qu ops Q rest (a.put o.dst v') w'):wpList qu ops Q (o::rest) a w:=by
 have⟨i0,hi,nJ,lG,jB⟩:=info_parts hI;have Mf:=hn;obtain⟨hl,hc⟩:=hn;obtain⟨rfl,h0⟩|⟨g,cap,lO,rfl,hg,hh,r⟩:=hc
 .have e1:=jj h0;subst e1;refine wpList_append_own_none hgd s x T ho base e i0 1 hT hi v xs.length xs hs fP hx ?_;exact h v w (by simpa using fP) ⟨rfl,rfl,rfl,br _,λ_ _ _=>rfl⟩ (λk hk=>qi hk)
 .refine wpList_plain hgd λK hK=>?_;have⟨v',w',hr,h2,h3,h4⟩:=wR (P:=qu) w base T o.type e i0 _ 1 by_ hT hi nJ lG jB hzc aK v xs.length xs fP ⟨g,0,none⟩ news.length cap news ae (λj z e=>Mf.cells rfl j z e) h1 Wu (by have:(xs.length+news.length)*by_<=1000000000000*16:=qr hz hby;omega) p9;rw[Oper.wp,execOp];simp only[ho,resolve,invoke,builtin,Sem.run_bind,Sem.run_pure,Result.andThen_ok,List.map_toArray,jd,jz,hs,hx,hr];exact hK _ _ (h v' w' (by rw[gE];rw[tQ];exact h2) h3 h4)
def ik{w:World}{v:Value}(h:gE w e base v xs)(hn:0<xs.length):∃g cp m,v=.slice (some ⟨g,0,none⟩) m cp/\base<=g/\g<w.heap.size/\Hid (m=xs.length):=by
 have h':=h;obtain⟨h1,h2⟩:=h;obtain⟨rfl,q⟩|⟨g,cp,lO,rfl,hg,hh,r⟩:=h2
 .omega
 .exact⟨g,cp,xs.length,rfl,hg,(World.ownsRow.lt h' g rfl).2,ai rfl⟩
def ab8:(Tryz.prog.info? 98).map (λi=>(i.zero,i.size,i.bytes))=some (some<|Iv 0,1,8):=qkr
def Cc:Tryz.prog.underlying 464=some (.slice 98):=qkr
def lQ{w:World}{c}(h:gE w e base (.slice (some ⟨g,0,none⟩) n c) xs)j(hj:j<xs.length):w.cell? ⟨g,j,none⟩=some xs[j]:=by
 have e1:=World.ownsRow.cells h (g:=g) rfl j xs[j] (ja hj);have e2:(⟨g,0,none⟩:Addr).add j=⟨g,j,none⟩:=by
  rw[Addr.add];split
  .grind
  .simp
 rwa[e2]at e1
def iF{w:World}{v:Value}(h:gE w e base v xs):∀k,v.ownBlock=some k->base<=k/\k<w.heap.size:=λk hk=>World.ownsRow.lt h k hk
def kO{w:World}{v:Value}(h:gE w e base v xs)(hb:∀k,v.ownBlock=some k->w'.heap[k]? =w.heap[k]?):gE w' e base v xs:=rZ h hb
def nZ(l:List Nat):List Value:=l.map λ(n:Nat)=>Nv n
def VI mb mm lb base(acc:List Nat)B M w:=
 ∃(L:List (Int×Value))(v:Value),(B=λb=>b=mb)/\(M=λb=>b=mm\/b=lb\/v.ownBlock=some b)/\Bx w mb #[Mv mm]/\MS (λn:Int=>Iv n) w mm L/\(∀n:Nat,aX (n:Int) L=if n∈acc then some (Nv<|acc.count n)else none)/\Bx w lb #[v]/\gE w 98 base v (nZ<|acc.foldl vo [])/\base<=w.heap.size
def Mg acc(n m:Nat):(acc++[n]).count m=acc.count m+if n=m then 1 else 0:=yG
def yH w:(zeroValue 3).run qu w=.ok (Iv 0) w:=qkr
section
variable {w:World} {mm lb:Nat}
def GH{w}{b}(h:Bx w b C)(hg:w.grownBy w' row)(hn:row≠some b):Bx w' b C:=h.same hg.size<|hg.block b h.z<|λe=>hn e.symm
def aiG mb mm lb base acc(B M:Nat->Prop)n w(e:Ending)w':=
 e=.returned (.iface 98<|Nv n)/\∃B' M',VI mb mm lb base (acc++[n]) B' M' w'/\(∀b,B' b->B b\/w.heap.size<=b)/\(∀b,M' b->M b\/w.heap.size<=b)/\Fr M w w'
def cX:∀(acc l:List Nat),(acc.foldl vo l).length<=l.length+acc.length
 |[],l=>ag|a::acc,l=>by
  have:=cX acc<|vo l a;have h2:(vo l a).length<=l.length+1:=by rw[vo];split<;>simp
  simp only[qd,pk];omega
def f_(n:Nat):∀(acc l:List Nat),n∈acc.foldl vo l↔n∈l\/n∈acc
 |[],l=>ag|a::acc,l=>by
  simp only[qd,f_ n acc,yI,jp];constructor
  .rintro((h|h)|h)
   .exact qi h
   .exact qh (qi h)
   .exact qh (qh h)
  .rintro(h|h|h)
   .exact qi (qi h)
   .exact qi (qh h)
   .exact qh h
def Tm acc B M(n:Nat)(amf:acc.length<1000000000000)(h:VI mb mm lb base acc B M w)(hd:mb≠mm/\mb≠lb/\mm≠lb)(hb:mb<base/\mm<base/\lb<base):
 Calls qu 332 #[.int .i64 (n:Int),.pointer<|some ⟨mb,0,none⟩,.pointer<|some ⟨lb,0,none⟩] w (aiG mb mm lb base acc B M n w):=by
 obtain⟨L,v,rfl,rfl,rI,iN,Tn,HL,HO,b4⟩:=h;obtain⟨d1,d2,d3⟩:=hd;obtain⟨b1,b2,b3⟩:=hb;have akK:acc.count n<=acc.length:=List.count_le_length;have hl:=iN.look (KL.num qw) qv (yH w) (n:Int) trivial (λ_ _=>trivial) false;rw[Tn n]at hl;have hl':(v8 171 (.map<|some mm) (.int .i64 (n:Int)) false).run qu w=.ok (.int .i64 (acc.count n:Int)) w:=by
  by_cases hm:n∈acc
  .rw[if_pos hm]at hl;simpa using hl
  .rw[if_neg hm]at hl;rw[List.count_eq_zero_of_not_mem hm];simpa using hl
 have HG:∀m:Nat,aX (m:Int) (bD (n:Int) (.int .i64<|(acc.count n:Int)+1) L)=if m∈acc++[n]then some (.int .i64 ((acc++[n]).count m:Int))else none:=by
  intro m;rw[aO,Mg];by_cases e:n=m
  .subst e;simp
  .have e':¬(n:Int)=(m:Int):=ae;rw[if_neg e',Tn m];simp[e,kw e]
 have Po:∀w',MS (λn:Int=>xy .i64 n) w' mm (bD (n:Int) (.int .i64<|(acc.count n:Int)+1) L)->(v8 171 (.map<|some mm) (.int .i64 (n:Int)) false).run qu w'=.ok (.int .i64<|(acc.count n:Int)+1) w':=by
  intro w' hM;have hl:=hM.look (KL.num qw) qv (yH w') (n:Int) trivial (λ_ _=>trivial) false;rw[aO,if_pos rfl]at hl;simpa using hl
 have HV:=iF HO;have HM:=ai iN;have HB:=ai rI;have HH:=ai Po;obtain⟨c,f,z⟩:=rI;by_cases hm:n∈acc
 .have ab9:=List.count_pos_iff.2 hm;have akL:((acc.count n:Int)+1==1)=false:=bB;go_enter func332,ntmps332;go_wp2_with(refine aT _ rfl _ _ _ _ (Or.inr rfl) (KL.num Tryz.underlying98) Tryz.underlying171 _ _ rfl HM (n:Int) (.int .i64<|(acc.count n:Int)+1) rfl rfl trivial (λ_ _=>trivial) ?_;intro w' H' O';have Po:=uh HH w' H';obtain⟨c1,f1,z1⟩:=HB.one O' d1;have Bc:=ai H';have O2:=ai O';clear H' O');go_ret;have O:=uh O2;refine⟨rfl,_,_,⟨_,v,rfl,rfl,⟨c1,f1,z1⟩,Bc,HG,HL.one O d3.symm,?_,by rw[O.size];exact b4⟩,λb q=>Or.inl q,λb q=>Or.inl q,⟨O.os,O.tape,O.output,by rw[O.size];exact br _,λk _ hn=>O.block k<|λe=>hn<|Or.inl e⟩⟩;have es:(acc++[n]).foldl Un.seen []=acc.foldl Un.seen []:=by
   rw[ju];exact GI<|(f_ n acc []).2<|qh hm
  rw[es];exact kO HO λk hk=>O.block k (λe=>by have:=HV k hk;omega)
 .have h0:=List.count_eq_zero_of_not_mem hm;rw[h0]at hl' HG HH akK;have ES:(acc++[n]).foldl vo []=acc.foldl vo []++[n]:=by
   rw[ju];show vo _ n=_;rw[vo,if_neg<|λq=>hm<|by simpa using(f_ n acc []).1 q]
  have yJ:(nZ<|acc.foldl vo []).length+[xy .i64 (n:Int)].length<=1000000000000:=by
   have hlen:=cX acc [];simp[nZ]at hlen⊢;omega
  have afK:∀u∈[Value.int .i64 (n:Int)],u.oneCell'=true:=qAn;have HA:∀w',gE w' 98 base v (nZ<|acc.foldl Un.seen [])->Hid (gE (w'.alloc<|.cells #[.int .i64 (n:Int)] 98) 98 base v<|nZ<|acc.foldl Un.seen []):=λw' ho=>ai<|kO ho λk hk=>(MapKept.heap_alloc _ _).2 k (iF ho k hk).2;go_enter func332,ntmps332
  go_wp2_with(first
   |(refine aT _ rfl _ _ _ _ (qh rfl) (KL.num qw) qv _ _ rfl HM (n:Int) (.int .i64 1) rfl rfl trivial (λ_ _=>trivial) ?_;intro w' H' O';have Po:=uh HH w' H';obtain⟨c1,f1,z1⟩:=HB.one O' d1;obtain⟨cl,fl,zl⟩:=HL.one O' d3.symm;have OW:=ai (kO HO<|λk hk=>O'.block k (λe=>by have:=HV k hk;omega));have Bc:=ai H';have O2:=ai O';have hz':w.heap.size<=w'.heap.size:=Nat.le_of_eq O'.size.symm;clear H' O')
   |(at_builtin;go_loud(refine aeC Cc ab8 rfl aK rfl (.tmp 13) (.tmp 15) rfl rfl (uh<|HA w' OW) rfl (gE.new w' 98 [.int .i64 (n:Int)] 0 (qn _) ag 1 rfl) afK yJ (qk b4<|qk hz' ag) ?_);intro v2 w2 o2 g2 k2;obtain⟨g3,cp3,m3,rfl,_,_,M3⟩:=ik o2 ag;obtain⟨c2,f2,z2⟩:=GH (Bx.below (show Bx w' lb #[v]from⟨cl,fl,zl⟩)<|bw<|.cells #[.int .i64 (n:Int)] 98) g2 (λe=>by have:=HV lb e;omega);have OV:=ai o2;have GV:=ai g2;have KV:=ai k2;clear o2 g2 k2))
  go_ret;have O:=uh O2;have g:=uh GV;have o:=uh OV;have bl:Below w'.heap.size w' (w'.alloc<|.cells #[.int .i64 (n:Int)] 98):=bw _;have hzz:=g.size;have lG:=bl.size;have hv:=HV;have hold:∀k,k<w.heap.size->k≠mm->k≠lb->v.ownBlock≠some k->(w2.setCell ⟨lb,0,none⟩<|.slice (some ⟨g3,0,none⟩) m3 cp3).heap[k]? =w.heap[k]? :=λk h1 h2 h3 h4=>by
   rw[xn _ _ _ _ (by show k≠lb;exact h3),g.block k ae<|λe=>h4 e.symm,bl.block k ae,O.block k h2]
  have hss:(w2.setCell ⟨lb,0,none⟩<|.slice (some ⟨g3,0,none⟩) m3 cp3).heap.size=w2.heap.size:=yw;have akM:∀k,k<w.heap.size->k≠lb->v.ownBlock≠some k->(w2.setCell ⟨lb,0,none⟩<|.slice (some ⟨g3,0,none⟩) m3 cp3).heap[k]? =w'.heap[k]? :=λk h1 h3 h4=>by
   rw[xn _ _ _ _ (by show k≠lb;exact h3),g.block k ae<|λe=>h4 e.symm,bl.block k ae]
  have nb:∀k,k<base->v.ownBlock≠some k:=λk h e=>by have:=hv k e;omega
  have ho2:=iF o;refine⟨rfl,_,_,⟨_,.slice (some ⟨g3,0,none⟩) m3 cp3,rfl,rfl,?_,?_,HG,?_,?_,ae⟩,λb q=>qi q,λb q=>?_,⟨?_,?_,?_,ae,λk hk hn=>hold k hk (λe=>hn<|qi e) (λe=>hn<|qh<|qi e)<|λe=>hn<|qh<|qh e⟩⟩
  .exact HB.same ae (hold mb z d1 d2<|nb mb b1)
  .exact Bc.same (akM mm ae d3<|nb mm b2)
  .exact Bx.aP (C:=#[v]) ⟨c2,f2,z2⟩ 0 _ _ rfl ag
  .rw[ES];have e:nZ (acc.foldl vo []++[n])=nZ (acc.foldl vo [])++[.int .i64 (n:Int)]:=by simp[nZ]
   rw[e];exact kO o λk hk=>xn _ _ _ _ (by show k≠lb;intro e;have:=(ho2 k hk).1;omega)
  .obtain q|q|q:=q
   .exact qi (qi q)
   .exact qi (qh<|qi q)
   .have:=(ho2 b q).1;by_cases hbw:b<w.heap.size
    .obtain r|r:=uh KV b q
     .exact qi (qh<|qh r)
     .exact absurd r bB
    .exact qh ae
  .exact g.os.trans O.os
  .exact g.tape.trans O.tape
  .exact g.output.trans O.output
def ab_ acc B M w w'(h:VI mb mm lb base acc B M w)(hz:w.heap.size<=w'.heap.size)(hb:∀b,B b\/M b->w'.heap[b]? =w.heap[b]?):VI mb mm lb base acc B M w':=by
 obtain⟨L,v,rfl,rfl,rI,iN,Tn,hlb,fP,b4⟩:=h;exact⟨L,v,rfl,rfl,rI.same hz<|hb mb<|qi rfl,iN.same<|hb mm<|qh<|qi rfl,Tn,hlb.same hz<|hb lb<|qh<|qh<|qi rfl,kO fP λk hk=>hb k<|qh<|qh<|qh hk,qk b4 hz⟩
def aiH acc B M w(h:VI mb mm lb base acc B M w):∀b,B b\/M b->b<w.heap.size:=by
 obtain⟨L,v,rfl,rfl,rI,iN,Tn,hlb,fP,b4⟩:=h;rintro b(rfl|rfl|rfl|q)
 .exact rI.z
 .exact iN.lt
 .exact hlb.z
 .exact(iF fP b q).2
def WL(hd:mb≠mm/\mb≠lb/\mm≠lb)(hb:mb<base/\mm<base/\lb<base):Img 332 #[] #[Pv mb,Pv lb] Ty.var (λacc _=>acc.length<1000000000000) (VI mb mm lb base) where
 eg:=enters_of Tryz.func332 qkr rfl
 lq:=ab_
 lt:=aiH
 call acc B M w n h hN:=(Tm acc B M n hN h hd hb).mono λe w'⟨h1,B',M',h2,h3,h4,h5⟩=>⟨_,B',M',h1,.var n,h2,h3,h4,h5⟩
end
mutual
def cY:∀t:Ty,(occs t).length<=size t
 |.var n=>by simp[occs,size]|.aJ c l=>by have:=Cd l;simp only[occs,size];omega
def Cd:∀l:List Ty,(fZ l).length<=ah l
 |[]=>by simp[fZ,ah]|t::l=>by have:=cY t;have:=Cd l;simp only[fZ,ah,tQ];omega
end
def To t w(e:Ending)w':=∃v,e=.returned v/\gE w' 98 w.heap.size v (nZ<|vars [] t)/\Bq w w'
def fE{w:World}{v:Value}(h:cW w Q t v)(hz:size t<=1000000000000):Cq 320 #[v] w (To t w):=by
 obtain⟨ta,xa,rfl⟩:=h.iface;have bl:Bq w (((w.alloc<|Cv #[Lv none 0 0] 464).alloc<|.map #[] 0).alloc<|Cv #[Mv<|w.heap.size+1] 171):=((bw _).alloc ag _).alloc bB _;have hI:VI (w.heap.size+2) (w.heap.size+1) w.heap.size (w.heap.size+3) [] (λb=>b=w.heap.size+2) (λb=>b=w.heap.size+1\/b=w.heap.size\/(Lv none 0 0).ownBlock=some b) (((w.alloc<|Cv #[Lv none 0 0] 464).alloc<|.map #[] 0).alloc<|Cv #[Mv<|w.heap.size+1] 171):=by
  refine⟨[],Lv none 0 0,rfl,rfl,?_,?_,λn=>by simp[aX],?_,xf _ _ _ _,ag⟩
  .have:=Bx.new ((w.alloc<|Cv #[Lv none 0 0] 464).alloc<|.map #[] 0) #[Mv<|w.heap.size+1] 171;simpa using this
  .have:=(MS.new (λn:Int=>Iv n)<|w.alloc<|Cv #[Lv none 0 0] 464).below<|bw<|Cv #[Mv<|w.heap.size+1] 171;simpa using this
  .exact((Bx.new w #[Lv none 0 0] 464).below<|bw _).below (bw _)
 have HC:=yD (WL (mb:=w.heap.size+2) (mm:=w.heap.size+1) (lb:=w.heap.size) (base:=w.heap.size+3) ae ae) t [] _ _ _ _ (λb=>Q b/\b<w.heap.size) hI (λi hi=>by have:=cY t;simp;omega) hz (h.low.af bl) (λb q _ r=>by obtain r|r|r:=r;omega;omega;cases r);have HB:=ai bl;have iN:= @run_makeMap Tryz.prog;go_enter func320,ntmps320;go_wp2_with fail;refine HC.mono ?_;rintro e w1⟨u,B',M',rfl,hU,⟨L,v,rfl,rfl,rI,iN,Tn,hlb,HO,b4⟩,hB,hM,F⟩;have z1:=F.size;have HF:=ai F;obtain⟨c2,f2,z2⟩:=hlb
 go_wp2
 go_ret;refine⟨v,rfl,?_,?_⟩
 .have e:List.foldl vo [] ([]++occs t)=vars [] t:=by rw[cr];rfl
  rw[<-e];exact GG HO ae
 .have F:=uh HF;have b:=uh HB;exact⟨F.os.trans b.os,F.tape.trans b.tape,F.output.trans b.output,qk b.size F.size,λi hi=>(F.block i (ql hi b.size) (λq=>by obtain q|q|q:=q;omega;omega;cases q)).trans (b.block i hi)⟩
def Tp:(Tryz.prog.info? 67).map (λi=>(i.zero,i.size,i.bytes))=some (some .nilIface,1,16):=qkr
def DO(l:List Nat):List Value:=l.map λ(n:Nat)=>xw 98<|Nv n
def afL l w1 V gk v wr:=
 ∃(j:Nat)(u:Value),Hid (gk=l.length-j)/\j<=l.length/\v=Nv j/\Bq w1 wr/\w1.heap.size+1<=wr.heap.size/\Bx wr w1.heap.size #[.string ⟨#[116,111,111,32,108,97,114,103,101]⟩,u]/\gE wr 98 (w1.heap.size+1) V (nZ l)/\gE wr 67 (w1.heap.size+1) u (DO<|l.take j)/\Hid (∀k,u.ownBlock=some k->V.ownBlock≠some k)
def dK{w:World}{v:Value}(h:gE w e base v xs)(hn:xs.length=n):∃va vc,v=.slice va n vc:=by
 subst hn;obtain⟨h1,h2⟩:=h;obtain⟨rfl,q⟩|⟨g,cp,lO,rfl,_⟩:=h2
 .exact⟨none,0,by rw[q]⟩
 .exact⟨_,_,rfl⟩
def WM(l:List Nat)j(h:j<l.length):DO (l.take<|j+1)=DO (l.take j)++[xw 98<|Nv<|l[j]]:=by
 rw[DO];rw[jf h,j8];rfl
section
variable {w:World}
def afM{l}{b}{wr}(h:gE wr 67 b u (DO l))(hl:l≠[])(hP:∀k,b<=k->P k):∃sa sc,u=.slice sa l.length sc/\cW wr P (.aJ rH<|l.map Ty.var) (.iface 169<|.agg #[.string rH,u]):=by
 have hln:0<(DO l).length:=by simp[DO];exact qt<|λe=>hl<|jj e
 obtain⟨g,cp,m,rfl,hg,iP,hm⟩:=ik h hln;have hm:=uh hm;simp only[DO,j9]at hm;subst hm;refine⟨_,_,rfl,?_⟩;have:=cW.aJ (w:=wr) (P:=P) rH (l.map Ty.var) (some ⟨g,0,none⟩) cp (λi=>(DO l).getD i Zv) (qh rfl) (qh ⟨g,rfl,hP g hg,iP,λi hi=>?_⟩)<|λi hi=>?_
 .rw[WA,j9]at this;exact this
 .have Bo:i<(DO l).length:=by simpa[DO]using hi
  rw[lQ h i Bo,jv,ja Bo];rfl
 .have Bo:i<(DO l).length:=by simpa[DO]using hi
  rw[jv,ja Bo];simp only[DO,List.getElem_map,Option.getD_some];exact .var _
def Pp t(Q:Nat->Prop)w(e:Ending)w':=∃u,e=.returned u/\cW w' (λb=>Q b\/w.heap.size<=b) (bG t) u/\Bq w w'
def GK{p:Prop}(h:p:=by
 rw[cr];have:=cX (occs t) [];have:=cY t;simp at*
 omega):p:=h
def WO{v:Value}(h:cW w Q t v)(hz:size t<=1000000000000):Calls qu 325 #[v] w (Pp t Q w):=by
 obtain⟨ta,xa,rfl⟩:=h.iface;have HS:=po t w _ Q h ae;have hsl:=aeD t;have HT:=ai h;clear h;by_cases hs:sz t<=48
 .have hd:(sz t:Int)<=48:=ae;go_enter func325,ntmps325;go_wp2_with fail;refine HS.mono ?_;rintro e w1⟨rfl,HB⟩;clear HS
  go_wp2
  go_ret;unfold Pp bG;rw[if_pos hs];exact⟨_,rfl,((uh HT).af HB).wide λb q=>qi q,HB⟩
 .have hd:¬(sz t:Int)<=48:=ae;have HV:=λ(W:World)(hb:Below w.heap.size w W)=>fE ((uh HT).af hb) hz;go_enter func325,ntmps325;go_wp2_with fail;refine HS.mono ?_;rintro e w1⟨rfl,b1⟩;have HB:=ai b1;have z1:=b1.size;clear b1 HS;have HC:=HV (w1.alloc<|.cells #[.string ⟨#[116,111,111,32,108,97,114,103,101]⟩,.slice none 0 0] 169)<|HB.alloc ae _;clear HV;go_wp2_with fail;refine HC.mono ?_;rintro e w2⟨V,rfl,HO,b2⟩;have yJ:(vars [] t).length<=1000000000000:=by
   exact GK
  generalize Cb:vars [] t=l at*;clear HC;obtain⟨va,vc,rfl⟩:=dK HO (n:=l.length) (by simp[nZ]);have cS:=ai b2;clear b2
  go_wp2
  go_loopg[14] l.length (λgk v wr=>afL l w1 (.slice va l.length vc) gk v wr)
  case atStart=>
   have b2:=uh cS;have b1:Below w1.heap.size w1 (w1.alloc<|.cells #[.string ⟨#[116,111,111,32,108,97,114,103,101]⟩,.slice none 0 0] 169):=bw _;have jB:=b2.size;have hz3:(w1.alloc<|.cells #[.string ⟨#[116,111,111,32,108,97,114,103,101]⟩,.slice none 0 0] 169).heap.size=w1.heap.size+1:=ag;rw[hz3]at jB;exact⟨0,.slice none 0 0,ai ag,qn _,rfl,b1.trans<|b2.mono b1.size,jB,(Bx.new w1 _ _).below b2,by simpa using HO,xf _ _ _ _,ai<|λk hk=>by cases hk⟩
  case round=>
   obtain⟨j,u,cR,hj,rfl,F1,zz,T1,O1,O2,hdj⟩:=hrel;by_cases aY:j<l.length
   .have hd:(j:Int)<(l.length:Int):=ae;have hjv:j<(nZ l).length:=by simpa[nZ]using aY
    obtain⟨gv,cpv,mv,hv,hgv,iP,_⟩:=ik O1 ae;injection hv with Mh Th hv3;subst Mh;have cg:=lQ O1 j hjv;rw[show(nZ l)[j]=xy .i64 (l[j]:Int) by simp[nZ]]at cg;obtain⟨sa,sc,rfl⟩:=dK O2 (n:=j) (by simp[DO];omega);generalize hx:l[j]=x at*;have Br:=ai F1;have O1':=ai O1;have O2':=ai O2;have Tk:=ai T1;have afK:∀u∈[xw 98<|.int .i64 (x:Int)],u.oneCell'=true:=qAn;have hlen:(DO<|l.take j).length+[xw 98<|.int .i64 (x:Int)].length<=1000000000000:=by simp[DO];omega
    have HA:Hid (gE (wr.alloc<|.cells #[.iface 98<|.int .i64 (x:Int)] 67) 67 (w1.heap.size+1) (.slice sa j sc)<|DO<|l.take j):=ai<|kO O2 λk hk=>(vf _ _).2 k (iF O2 k hk).2;obtain⟨tc,tf,tz⟩:=T1;clear F1 O1 O2 Th hv3;go_wp2_with(at_builtin;go_loud(refine aeC dS Tp rfl aK rfl (.tmp 19) (.tmp 22) rfl rfl HA rfl (gE.new wr 67 [.iface 98<|.int .i64 (x:Int)] 0 (qn _) ag 1 rfl) afK hlen (qk zz ag) ?_);intro v2 w3 o2 g2 k2;obtain⟨g3,cp3,m3,rfl,_,_,M3⟩:=ik o2 ag;obtain⟨c2,f2,z2⟩:=GH (Bx.below Tk<|bw<|.cells #[.iface 98<|.int .i64 (x:Int)] 67) g2 (λe=>by have:=(iF O2' _ e).1;omega);have OV:=ai o2;have GV:=ai g2;have KV:=ai k2;clear o2 g2 k2);go_roundg(l.length-(j+1))
    case measure=>rw[uh cR];omega
    case rel=>
     have g:=uh GV;have o:=uh OV;have f1:=uh Br;have o1:=uh O1';have ho2:=iF o;have bl:Below wr.heap.size wr (wr.alloc<|.cells #[.iface 98<|.int .i64 (x:Int)] 67):=bw _;have lG:=bl.size;have hzz:=g.size;have hss:(w3.setCell ⟨w1.heap.size,1,none⟩<|.slice (some ⟨g3,0,none⟩) m3 cp3).heap.size=w3.heap.size:=yw;have fP:∀k,(zd sa j sc).ownBlock=some k->w1.heap.size+1<=k:=λk hk=>(iF (uh O2') k hk).1;have hold:∀k,k<wr.heap.size->k≠w1.heap.size->(zd sa j sc).ownBlock≠some k->(w3.setCell ⟨w1.heap.size,1,none⟩<|.slice (some ⟨g3,0,none⟩) m3 cp3).heap[k]? =wr.heap[k]? :=λk h1 h3 h4=>by
      rw[xn _ _ _ _ (by show k≠w1.heap.size;exact h3),g.block k ae<|λe=>h4 e.symm,bl.block k ae]
     refine⟨j+1,.slice (some ⟨g3,0,none⟩) m3 cp3,ai rfl,ae,iK,⟨?_,?_,?_,?_,λk hk=>?_⟩,ae,?_,?_,?_,ai<|λk hk Tq=>?_⟩
     .exact g.os.trans f1.os
     .exact g.tape.trans f1.tape
     .exact g.output.trans f1.output
     .have:=f1.size;omega
     .have:=f1.size;exact(hold k ae ae (λe=>by have:=fP k e;omega)).trans (f1.block k hk)
     .exact Bx.aP (C:=#[.string ⟨#[116,111,111,32,108,97,114,103,101]⟩,.slice sa j sc]) ⟨c2,f2,z2⟩ 1 _ _ rfl ag
     .exact kO o1 λk hk=>hold k (iF o1 k hk).2 (λe=>by have:=(iF o1 k hk).1;omega)<|λe=>uh hdj k e hk
     .rw[WM l j aY,hx];exact kO o λk hk=>xn _ _ _ _ (by show k≠w1.heap.size;intro e;have:=(ho2 k hk).1;omega)
     .obtain r|r:=uh KV k hk
      .exact uh hdj k r Tq
      .have:=(iF o1 k Tq).2;omega
   .have hd:decide ((j:Int)<(l.length:Int))=false:=bB;have ej:j=l.length:=ae;subst ej;obtain⟨tc,tf,tz⟩:=T1;have O2':=ai O2;have Br:=ai F1;clear O1 O2 F1
    go_wp2
    go_ret;have f1:=uh Br;have o2:=uh O2';rw[jc]at o2;refine⟨_,rfl,?_,HB.trans<|f1.mono z1⟩;have hc:bG t=.aJ rH (l.map Ty.var):=by unfold bG;rw[if_neg hs,Cb]
    rw[hc];by_cases hl:l=[]
    .subst hl;obtain⟨q1,q2⟩:=o2;obtain⟨sa,sc,rfl⟩:=dK (uh O2') (n:=0) (by simp[DO]);have:=cW.aJ (w:=wr) (P:=λb=>Q b\/w.heap.size<=b) rH [] sa sc (λ_=>.nilIface) (qh rfl) (qi rfl) (λi hi=>by simp at hi);rw[WA]at this;exact this
    .obtain⟨_,_,_,h⟩:=afM o2 hl (P:=λb=>Q b\/w.heap.size<=b)<|λk hk=>qh ae;exact h
end
end
section
open Go.ChangeMaps Go.MapKept
section
variable {enc:κ->Value}
def MG(enc:κ->Value)(w:World)(b:Nat)(L:List (κ×Value)):=∃es clock,w.heap[b]? =some (.map es clock)/\es.toList.map (λe=>(e.key,e.val))=L.map (λp=>(enc p.1,p.2))/\(es.toList.map (·.born)).Nodup/\(∀e∈es.toList,e.born<clock)/\(L.map (·.1)).Nodup
variable {w:World} {b:Nat} {L:List (κ×Value)} {P:Program} {t:TypeId}
def MG.ms(h:MG enc w b L):MS enc w b L:=by grind[MG,MS]
def MG.same(h:MG enc w b L)(hb:w'.heap[b]? =w.heap[b]?):MG enc w' b L:=by grind[MG]
def MG.new(enc:κ->Value)(w:World):MG enc (w.alloc<|.map #[] 0) w.heap.size []:=⟨#[],0,(vf w _).1,rfl,ag,ag,ag⟩
def MG.nodup(h:MG enc w b L):(L.map (·.1)).Nodup:=by grind[MG]
def aiI{es:List MapEntry}(h:es.map (λe=>(e.key,e.val))=L.map (λp=>(enc p.1,p.2))):es.map (·.key)=(L.map (·.1)).map enc:=by
 have:=congrArg (List.map Prod.fst) h;simpa[List.map_map,Function.comp_def]using this
def IG(enc:κ->Value)(w:World)(r gb:Nat)(L:List (κ×Value))(done:List κ)cnt:=∃(es:Array MapEntry)(clock since:Nat)(seen:Array Nat)(c0:Nat),w.heap[gb]? =some (.map es clock)/\es.toList.map (λe=>(e.key,e.val))=L.map (λp=>(enc p.1,p.2))/\(es.toList.map (·.born)).Nodup/\(∀e∈es.toList,e.born<since)/\since<=c0/\since<=clock/\w.heap[r]? =some (.mapIter (some gb) since seen c0)/\(L.map (·.1)).Nodup/\(leftOf es seen).size=cnt/\∀e∈es.toList,∀x,e.key=enc x->(seen.contains e.born=true↔x∈done)
def IG.same{cnt}{done}(h:IG enc w r gb L done cnt)(h1:w'.heap[gb]? =w.heap[gb]?)(h2:w'.heap[r]? =w.heap[r]?):IG enc w' r gb L done cnt:=by
 obtain⟨es,clock,since,seen,c0,a1,a2,a3,a4,a5,a6,a7,a8⟩:=h;exact⟨es,clock,since,seen,c0,h1.trans a1,a2,a3,a4,a5,a6,h2.trans a7,a8⟩
def IG.lt{cnt}{done}(h:IG enc w r gb L done cnt):gb<w.heap.size/\r<w.heap.size/\gb≠r:=by grind[cnt,IG]
def MG.range(h:MG enc w b L)(ht:P.underlying t=some (.map k e)):∃o cnt,(Instr.range t<|Mv b).run P w=.ok (Pv w.heap.size) (w.alloc o)/\IG enc (w.alloc o) w.heap.size b L [] cnt:=by
 obtain⟨es,clock,a1,a2,a3,a4,a5⟩:=h;have bq:=(Array.getElem?_eq_some_iff.1 a1).1;refine⟨_,_,run_range_map w t _ _ b es clock ht a1,es,clock,clock,#[],clock,((vf w _).2 _ bq).trans a1,a2,a3,a4,br _,br _,heap_alloc_new w _,a5,rfl,λe he x hx=>ag⟩
def MG.one{c}(h:MG enc w b L)(o:One c w w')(hn:b≠c):MG enc w' b L:=h.same<|o.block b hn
end
section
variable [DecidableEq κ] {enc:κ->Value}
variable {w:World} {b:Nat} {L:List (κ×Value)} {P:Program} {t:TypeId}
def MG.lt(h:MG enc w b L):b<w.heap.size:=h.ms.lt
def MG.af(h:MG enc w b L)(hb:Bq w w'):MG enc w' b L:=h.same<|hb.block b h.lt
def MG.fr{S}(h:MG enc w b L)(hf:Fr S w w')(hn:¬S b):MG enc w' b L:=h.same<|hf.block b h.lt hn
def r8(l:List MapEntry)j f(hf:∀e,(f e).born=e.born):(l.modify j f).map (·.born)=l.map (·.born):=by
 induction l generalizing j with
 |nil=>cases j<;>simp|cons e r ih=>grind
def GO{x y:κ}{v:Value}:∀{L:List (κ×Value)},y∈(bD x v L).map (·.1)->y=x\/y∈L.map (·.1)
 |[],h=>by simpa[bD]using h|p::l,h=>by
  rw[bD]at h;split at h
  .rename_i e;simp only[jd,jp]at h⊢;obtain h|h:=h
   .exact qi h
   .exact qh (qh h)
  .simp only[jd,jp]at h⊢;obtain h|h:=h
   .exact qh (qi h)
   .obtain q|q:=GO h
    .exact qi q
    .exact qh (qh q)
def qN{x:κ}{v:Value}:∀{L:List (κ×Value)},(L.map (·.1)).Nodup->((bD x v L).map (·.1)).Nodup
 |[],_=>by simp[bD]|p::l,h=>by
  simp only[jd,jl]at h;rw[bD];split
  .rename_i e;simp only[jd,jl];rw[<-e];exact h
  .rename_i e;simp only[jd,jl];refine⟨λq=>?_,qN h.2⟩;obtain r|r:=GO q
   .exact e r
   .exact h.1 r
def MG.put(K:KL P k enc (λ_ _=>True))(h:MG enc w b L)(ht:P.underlying t=some (.map k e))x v:∃o,(v9 t (Mv b) (enc x) v).run P w=.ok () (setBlock w b o)/\MG enc (setBlock w b o) b (bD x v L):=by
 obtain⟨es,clock,hb,mL,hn,hk,hd⟩:=h;have hf:=K.fin x L es.toList w trivial (λ_ _=>trivial) mL;rw[v9];simp only[Sem.run_bind,run_underlying ht,ki,vh hb,K.chk,hf]
 cases xH:xI x L 0 with
 |none=>
  refine⟨.map (es.push {key:=enc x,val:=v,born:=clock})<|clock+1,by rw[xH]at hf;simp[hf,ki];exact vg _ hb,_,_,(heap_setBlock_same hb _),?_,?_,?_,qN hd⟩
  .rw[lN x v L<|n8 x L 0 xH];simp[mL]
  .simp only[Array.toList_push,j8,jd,jz];rw[j6];refine⟨hn,ag,?_⟩;intro a ha c hc;obtain⟨e,he,rfl⟩:=List.mem_map.1 ha;simp only[j3]at hc;have:=hk e he;omega
  .grind
 |some p=>
  obtain⟨j,u⟩:=p;have⟨_,e0,h2,h3,h4⟩:=DP (enc:=enc) x v L es.toList 0 j u mL xH;have Gb:es[j]? =some e0:=by simpa using h2
  refine⟨.map (es.modify j λe=>{e with key:=enc x,val:=v}) clock,?_,_,_,(heap_setBlock_same hb _),by simpa using h4,?_,?_,qN hd⟩
  .rw[xH]at hf;simp[hf,ki,Gb,h3,Instr.keyThatStays,K.bit];exact vg _ hb
  .rw[xm,r8 es.toList j (λe=>{e with key:=enc x,val:=v}) (λ_=>rfl)];exact hn
  .intro e he;have:e.born∈(es.modify j λe=>{e with key:=enc x,val:=v}).toList.map (·.born):=jm he;rw[xm,r8 es.toList j (λe=>{e with key:=enc x,val:=v}) (λ_=>rfl)]at this;have⟨e',h1,h2⟩:=List.mem_map.1 this;rw[<-h2];exact hk e' h1
def cd(K:KL P k enc (λ_ _=>True))(ht:P.underlying t=some (.map k e)){a}{Q}(hg:o.guard=none)m x v(rJ:o.op=k9 t m x v\/o.op=kx t m x v)(hm:a.eval m=Mv b)(hM:MG enc w b L)key val(hx:a.eval x=enc key)(hv:a.eval v=val)(hK:∀w',MG enc w' b (bD key val L)->One b w w'->wpList P ops Q rest (a.put o.dst undef) w'):
 wpList P ops Q (o::rest) a w:=by
 refine wpList_plain hg λK' hK'=>?_;have⟨ob,ls,r1⟩:=hM.put K ht key val;rw[Oper.wp];obtain rJ|rJ:=rJ<;>
 .simp[execOp,rJ,hm,hx,hv,ls,ki];exact hK' _ _<|hK _ r1<|One.set w b ob
def r9{x:κ}:∀{L:List (κ×Value)},(aX x L).isSome=true↔x∈L.map (·.1)
 |[]=>by simp[aX]|p::l=>by
  rw[aX];split
  .rename_i e;simp[e]
  .rename_i e;rw[r9 (L:=l)];simp only[jd,jp];exact⟨qh,λq=>q.elim (λq=>absurd q.symm e) id⟩
def Pq{x:κ}{v:Value}:∀{L:List (κ×Value)},(L.map (·.1)).Nodup->(x,v)∈L->aX x L=some v
 |[],_,h=>tW|p::l,hn,h=>by
  simp only[jd,jl]at hn;rw[aX];obtain rfl|h:=List.mem_cons.1 h
  .simp
  .have:p.1≠x:=λe=>hn.1 (by rw[e];exact jm (f:=(·.1)) h);rw[if_neg this];exact Pq hn.2 h
def pq{x:κ}{v:Value}:∀{L:List (κ×Value)},aX x L=some v->(x,v)∈L
 |[],h=>qBg|p::l,h=>by
  rw[aX]at h;split at h
  .rename_i e;simp only[Option.some.injEq]at h;subst e h;simp
  .exact jh _ (pq h)
def aiJ enc P w r gb L(done:List κ)(cnt:Nat):=((∀x v,aX x L=some v->x∈done)/\(kg (Pv r) false 0).run P w=.ok (.tuple #[.bool false]) w)\/
    ∃x v w1 aB,x∉done/\aX x L=some v/\(kg (Pv r) false 0).run P w=.ok (.tuple #[.bool true,enc x,v]) w1/\IG enc w1 r gb L (x::done) aB/\aB<cnt/\Fr (λb=>b=r) w w1/\w1.heap.size=w.heap.size/\(Instr.entry<|Pv r).run P w1=.ok (.tuple #[enc x,v]) w1
def IG.next(akN:∀x y,enc x=enc y->x=y){cnt}{done}(h:IG enc w r gb L done cnt):aiJ enc P w r gb L done cnt:=by
 have⟨hg1,hr1,cO⟩:=h.lt;obtain⟨es,clock,since,seen,c0,a1,a2,a3,a4,a5,a6,a7,a8,a10,a11⟩:=h;have WQ:=aiI a2;rcases run_next_at (P:=P) w 0 r gb since c0 seen es clock a7 a1 a4 a5 with⟨h0,ls⟩|⟨e,he,w1,xJ,ls⟩
 .left;refine⟨λx v hx=>?_,ls⟩;have r_:=r9.1 (by rw[hx];rfl);have:enc x∈es.toList.map (·.key):=yG;have⟨e,he,hk⟩:=List.mem_map.1 this;exact(a11 e he x hk).1 (all_seen es seen h0 e he)
 .right;have⟨VQ,he2⟩:=mem_left he;obtain⟨x,hx,hxL⟩:∃x,e.key=enc x/\(x,e.val)∈L:=by
   have:(e.key,e.val)∈es.toList.map (λe=>(e.key,e.val)):=jm (f:=λe:MapEntry=>(e.key,e.val)) VQ;rw[a2]at this;have⟨p,hp,q⟩:=List.mem_map.1 this;obtain⟨px,pv⟩:=p;simp only[Prod.mk.injEq]at q;exact⟨px,q.1.symm,by rw[<-q.2];exact hp⟩
  have xK:x∉done:=λq=>by
   have:=(a11 e VQ x hx).2 q;rw[he2]at this;cases this
  have Mi:w1.heap=w.heap:=by obtain rfl|rfl:=xJ<;>rfl
  have b1:∀k,k≠r->(setBlock w1 r<|.mapIter (some gb) since (seen.push e.born) clock).heap[k]? =w.heap[k]? :=λk hk=>by
   have:(setBlock w1 r<|.mapIter (some gb) since (seen.push e.born) clock).heap[k]? =w1.heap[k]? :=by simp[setBlock,xj,kw hk]
   rw[this,Mi]
  have b2:(setBlock w1 r<|.mapIter (some gb) since (seen.push e.born) clock).heap[r]? =some (.mapIter (some gb) since (seen.push e.born) clock):=by
   have yK:r<w1.heap.size:=by rw[Mi];exact hr1
   simp[setBlock,xj,yK]
  have dU:(setBlock w1 r<|.mapIter (some gb) since (seen.push e.born) clock).heap.size=w.heap.size:=by simp[setBlock,Mi]
  have hnk:(es.toList.map (·.key)).Nodup:=yG;refine⟨x,e.val,_,_,xK,Pq a8 hxL,by rw[ls,hx],⟨es,clock,since,seen.push e.born,clock,(b1 gb cO).trans a1,a2,a3,a4,a6,a6,b2,a8,rfl,λe' he' y hy=>?_⟩,by rw[<-a10];exact left_shrinks es seen e he,⟨by obtain rfl|rfl:=xJ<;>rfl,by obtain rfl|rfl:=xJ<;>rfl,by obtain rfl|rfl:=xJ<;>rfl,by rw[dU];exact br _,λk _ hk=>b1 k hk⟩,dU,?_⟩
  .rw[contains_push];simp only[Bool.or_eq_true,beq_iff_eq,jp];constructor
   .rintro(q|q)
    .grind
    .have:e'=e:=born_inj a3 he' VQ q;rw[this,hx]at hy;exact qi (akN _ _ hy).symm
   .rintro(q|q)
    .right;have:e'=e:=by
      have hk:e'.key=e.key:=by rw[hy,hx,q]
      exact entry_eq_of_key (by rw[qg,j5]at hnk;exact hnk) he' VQ hk
     rw[this]
    .grind
  .have:=run_entry_at (P:=P) (setBlock w1 r<|.mapIter (some gb) since (seen.push e.born) clock) r gb since seen es clock e b2 ((b1 gb cO).trans a1) VQ a3;rw[hx]at this;exact this
end
end
section
open Go.ChangeMaps Go.MapKept Un
abbrev pT:Int->Value:=λn=>Iv n
def GP:∀x y,pT x=pT y->x=y:=λx y h=>by injection h
abbrev KLV:KL qu 98 pT (λ_ _=>True):=KL.num qw
def fe w P b(D:Nat->Option Ty):=
 ∃L,MG pT w b L/\(∀n:Nat,aX (n:Int) L=none->D n=none)/\(∀(n:Nat)u,aX (n:Int) L=some u->∃t,D n=some t/\cW w P t u)/\∀x u,aX x L=some u->∃n:Nat,x=(n:Int)
def DQ(D:Nat->Option Ty)n:=(D n).getD<|.var n
section
variable {w:World} {b:Nat}
theorem fe.move(h:fe w P b D)(hs:w.heap.size<=w'.heap.size)(hb:w'.heap[b]? =w.heap[b]?)(hp:∀x,P x->x<w.heap.size->w'.heap[x]? =w.heap[x]?)(hq:∀x,P x->x<w.heap.size->Q x):fe w' Q b D:=by
 obtain⟨L,h1,h2,h3,h4⟩:=h;exact⟨L,h1.same hb,h2,λn u hu=>by have⟨t,e,ht⟩:=h3 n u hu;exact⟨t,e,ht.move hs hp hq⟩,h4⟩
def fe.lt(h:fe w P b D):b<w.heap.size:=qAr
def fe.af(h:fe w P b D)(hb:Bq w w'):fe w' P b D:=h.move hb.size (hb.block b h.lt) (λx _ hx=>hb.block x hx)<|λ_ p _=>p
def fe.fr{S:Nat->Prop}(h:fe w P b D)(hf:Fr S w w')(hb:¬S b)(hS:∀x,P x->x<w.heap.size->¬S x):fe w' P b D:=h.move hf.size (hf.block b h.lt hb) (λx p z=>hf.block x z<|hS x p z)<|λ_ p _=>p
def fe.wide(h:fe w P b D)(hq:∀x,P x->Q x):fe w Q b D:=h.move (br _) rfl (λ_ _ _=>rfl) (λx p _=>hq x p)
def fe.low(h:fe w P b D):fe w (λx=>P x/\x<w.heap.size) b D:=h.move (br _) rfl (λ_ _ _=>rfl) (λx p z=>⟨p,z⟩)
def fe.new(w:World)P:fe (w.alloc<|.map #[] 0) P w.heap.size (λ_=>none):=⟨[],MG.new pT w,λ_ _=>rfl,λn u h=>qBg,λx u h=>qBg⟩
def aca w:(zeroValue 67).run qu w=.ok .nilIface w:=qkr
def fe.look(h:fe w P b D){tm}(ht:Tryz.prog.underlying tm=some (.map 98 67))n:(∃t u,D n=some t/\cW w P t u/\(v8 tm (Mv b) (Nv n) true).run qu w=.ok (.tuple #[u,.bool true]) w)\/
 (D n=none/\(v8 tm (Mv b) (Nv n) true).run qu w=.ok (.tuple #[.nilIface,.bool false]) w):=by
 obtain⟨L,h1,h2,h3,h4⟩:=h;have hl:=h1.ms.look KLV ht (aca w) (n:Int) trivial (λ_ _=>trivial) true
 cases hg:aX (n:Int) L with
 |none=>grind|some u=>grind
def il:Tryz.prog.underlying 457=some (.map 98 67):=qkr
def n9:Tryz.prog.underlying 498=some (.map 98 67):=qkr
def dV:Tryz.prog.underlying 216=some (.map 9 467):=qkr
def acb(h:fe w P b D)n:Cq 327 #[Mv b,Nv n] w λe w'=>∃u,e=.returned u/\cW w P (DQ D n) u/\w'=w:=by
 obtain⟨t,u,e1,H1,hl⟩|⟨e1,hl⟩:=h.look il n
 .obtain⟨ta,xa,rfl⟩:=H1.iface;have E1:=ai e1;go_enter func327,ntmps327
  go_wp2
  go_ret;exact⟨_,rfl,by rw[DQ];rw[uh E1];exact H1,rfl⟩
 .have E1:=ai e1;go_enter func327,ntmps327
  go_wp2
  go_ret;exact⟨_,rfl,by rw[DQ];rw[uh E1];exact .var n,rfl⟩
def ImI(P:Nat->Prop)n0 b D(_:List Nat)(B M:Nat->Prop)w:=(B=λx=>P x/\x<n0)/\(M=λ_=>False)/\fe w (λx=>P x/\x<n0) b D/\n0<=w.heap.size
def Tr(hb:P b){n0:Nat}(hn:b<n0):Img 327 #[Mv b] #[] (DQ D) (λ_ _=>True) (ImI P n0 b D) where
 eg:=enters_of Tryz.func327 qkr rfl
 lq acc B M w w' h hz hk:=by
  obtain⟨rfl,rfl,h1,h2⟩:=h;exact⟨rfl,rfl,h1.move hz (hk b<|qi ⟨hb,hn⟩) (λx p _=>hk x<|qi p)<|λ_ p _=>p,qk h2 hz⟩
 lt acc B M w h:=by
  obtain⟨rfl,rfl,h1,h2⟩:=h;rintro x(p|p)
  .omega
  .exact p.elim
 call acc B M w n h _:=by
  obtain⟨rfl,rfl,h1,h2⟩:=h;refine(acb h1 n).mono ?_;rintro e w'⟨u,rfl,hu,rfl⟩;exact⟨u,_,_,rfl,hu.wide λx p=>⟨λq=>q,qi p⟩,⟨rfl,rfl,h1,h2⟩,λx p=>qi p,λx p=>qi p,Fr.refl _ _⟩
def Pr t(P:Nat->Prop)w(e:Ending)w':=∃u,e=.returned u/\cW w' (λx=>P x\/w.heap.size<=x) t u/\Bq w w'
def Fr.none{S:Nat->Prop}(h:Fr S w w')(hS:∀b,¬S b):Bq w w':=⟨h.os,h.tape,h.output,h.size,λk hk=>h.block k hk<|hS k⟩
def GQ(h:fe w P b D)(hb:P b){v}(ht:cW w Q t v)(hz:size t<=1000000000000)(jB:size (sub (DQ D) t)<=1000000000000):Cq 314 #[Mv b,v] w (Pr (bG<|sub (DQ D) t) P w):=by
 have HC:=yD (Tr (D:=D) hb h.lt) t [] _ _ w v Q ⟨rfl,rfl,h.low,br _⟩ (λi hi=>trivial) hz ht<|λx _ _=>id;obtain⟨ta,xa,rfl⟩:=ht.iface;go_enter func314,ntmps314;go_wp2_with fail;refine HC.mono ?_;rintro e w1⟨u,B',M',rfl,hU,_,_,_,F⟩;obtain⟨tu,xu,rfl⟩:=hU.iface;have b1:=F.none<|λ_ q=>q;have HB:=ai b1;have HK:=WO hU jB;go_wp2_with fail;refine HK.mono ?_;rintro e w2⟨u2,rfl,HU,cS⟩;obtain⟨tu2,xu2,rfl⟩:=HU.iface
 go_wp2
 go_ret;have b1:=uh HB;refine⟨_,rfl,HU.wide λx p=>?_,b1.trans<|cS.mono b1.size⟩;obtain p|p:=p
 .obtain q|q:=p.2
  .exact qi q.1
  .exact qh q
 .exact qh (qk b1.size p)
end
section
variable {w:World} {b:Nat}
def DR{κ:Type}enc(L:List (κ×Value))(w:World)(e:Ending)(w':World):=e=.returned (Mv w.heap.size)/\MG enc w' w.heap.size L/\Bq w w'/\w'.heap.size=w.heap.size+1
def Ts{enc}{L:List (κ×Value)}{es:Array MapEntry}{clock:Nat}(h:es.toList.map (λe=>(e.key,e.val))=L.map (λp=>(enc p.1,p.2))/\(es.toList.map (·.born)).Nodup/\(∀e∈es.toList,e.born<clock)/\(L.map (·.1)).Nodup):DR enc L w (.returned<|Mv w.heap.size) (w.alloc<|.map es clock):=
 ⟨rfl,⟨es,clock,(vf w _).1,h⟩,bw _,ag⟩
def cE:Tryz.prog.underlying 220=some (.map 9 116):=qkr
def DS{p:Prop}(h:p:=by
 simp only[ki];rw[Oper.upon_value]
 go_wp2
 go_ret
 exact Ts HR):p:=h
def WR{L:List (Int×Value)}(h:MG pT w b L):Cq 356 #[Mv b] w (DR pT L w):=by
 obtain⟨es,clock,hb,HR⟩:=h;have hq:=λw=>run_eql_map_nil_sl (P:=Tryz.prog) w 457 _ _ (some b) il;go_enter func356,ntmps356;go_wp2_with fail;rw[run_callFunc_extern Tryz.func357 qkr qkr qkr (e:=Extern.MapsClone.clone) qkr,run_maps_clone_sl w 457 hb];simp only[Result.andThen];rw[Oper.upon_value];go_wp2_with fail;rw[run_typeAssert_map_sl _ 457 _ _ _ _ il];exact DS
def WS{L}(h:MG xq w b L):Cq 347 #[Mv b] w (DR xq L w):=by
 obtain⟨es,clock,hb,HR⟩:=h;have hq:=λw=>run_eql_map_nil_sl (P:=Tryz.prog) w 216 _ _ (some b) dV;go_enter func347,ntmps347;go_wp2_with fail;rw[run_callFunc_extern Tryz.func357 qkr qkr qkr (e:=Extern.MapsClone.clone) qkr,run_maps_clone_sl w 216 hb];simp only[Result.andThen];rw[Oper.upon_value];go_wp2_with fail;rw[run_typeAssert_map_sl _ 216 _ _ _ _ dV];exact DS
def WU{L}(h:MG xq w b L):Cq 394 #[Mv b] w (DR xq L w):=by
 obtain⟨es,clock,hb,HR⟩:=h;have hq:=λw=>run_eql_map_nil_sl (P:=Tryz.prog) w 220 _ _ (some b) cE;go_enter func394,ntmps394;go_wp2_with fail;rw[run_callFunc_extern Tryz.func357 qkr qkr qkr (e:=Extern.MapsClone.clone) qkr,run_maps_clone_sl w 220 hb];simp only[Result.andThen];rw[Oper.upon_value];go_wp2_with fail;rw[run_typeAssert_map_sl _ 220 _ _ _ _ cE];exact DS
theorem fe.bD{L:List (Int×Value)}(h2:∀m:Nat,aX (m:Int) L=none->D m=none)(h3:∀(m:Nat)v,aX (m:Int) L=some v->∃t,D m=some t/\cW w P t v)(h4:∀x v,aX x L=some v->∃m:Nat,x=(m:Int))(ht:cW w P t u)(hP:¬P b)(o:One b w w')(hM:MG pT w' b (Go.Proofs.YtfnkchdeheeiiaaGreatDoor.bD (n:Int) u L)):fe w' P b (dR D n<|some t):=by
 have mv:∀{t v},cW w P t v->cW w' P t v:=λh=>h.move LB (λx p _=>o.block x<|λe=>hP<|e▸p)<|λ_ p _=>p;refine⟨_,hM,λm hm=>?_,λm v hm=>?_,λx v hx=>?_⟩
 .rw[aO]at hm;by_cases e:(n:Int)=(m:Int)
  .grind
  .rw[if_neg e]at hm;have e':¬m=n:=λq=>e (by rw[q]);simp only[dR,e',if_false];exact h2 m hm
 .rw[aO]at hm;by_cases e:(n:Int)=(m:Int)
  .rw[if_pos e]at hm;injection hm with hm;have e':m=n:=ae;subst hm;simp only[dR,e',if_true];exact⟨t,rfl,mv ht⟩
  .rw[if_neg e]at hm;have e':¬m=n:=λq=>e (by rw[q]);simp only[dR,e',if_false];have⟨t',q1,q2⟩:=h3 m v hm;exact⟨t',q1,mv q2⟩
 .rw[aO]at hx;by_cases e:(n:Int)=x
  .exact⟨n,e.symm⟩
  .grind
def kP{tm}(htm:Tryz.prog.underlying tm=some (.map 98 67)){a}{Q}(hg:o.guard=none)m x v(rJ:o.op=k9 tm m x v\/o.op=kx tm m x v)(hm:a.eval m=Mv b)(h:fe w P b D)(hP:¬P b)(ht:cW w P t u)n(hx:a.eval x=Nv n)(hv:a.eval v=u)(hK:∀w',fe w' P b (dR D n<|some t)->One b w w'->wpList qu ops Q rest (a.put o.dst undef) w'):
 wpList qu ops Q (o::rest) a w:=by
 obtain⟨L,h1,h2,h3,h4⟩:=h;exact cd KLV htm hg m x v rJ hm h1 (n:Int) u hx hv λw' hM o=>hK w' (fe.bD h2 h3 h4 ht hP o hM) o
def thD(D1 D2:Nat->Option Ty)(done:List Int)(n:Nat):Option Ty:=if(n:Int)∈done then(match D1 n with|some t=>some (bG<|sub (DQ D2) t)|none=>D2 n)else D2 n
def yL(D1 D2:Nat->Option Ty)n:=match D1 n with|some t=>some (bG<|sub (DQ D2) t)|none=>D2 n
def ThR(P:Nat->Prop)b1 D1 D2 L w gk wr:=
 ∃done,IG pT wr (w.heap.size+1) b1 L done gk/\fe wr (λx=>(P x/\x<w.heap.size)\/w.heap.size+2<=x) w.heap.size (thD D1 D2 done)/\Bq w wr
def WV(P:Nat->Prop)D1 D2 w(e:Ending)w':=
 ∃b3,e=.returned (Mv b3)/\w.heap.size<=b3/\fe w' (λx=>P x\/w.heap.size<=x) b3 (yL D1 D2)/\Bq w w'
def acd{D2}(h1:fe w P b1 D1)(h2:fe w P b2 D2)(hp2:P b2)(hz:∀n t,D1 n=some t->size t<=1000000000000/\size (sub (DQ D2) t)<=1000000000000):
 Cq 346 #[Mv b1,Mv b2] w (WV P D1 D2 w):=by
 have H2:=ai h2;have l1:=h1.lt;have l2:=h2.lt;obtain⟨L1,M1,q12,q13,q14⟩:=h1;obtain⟨L2,m2,q22,q23,q24⟩:=h2;have HC:=WR m2;have Q1:=And.intro q12<|And.intro q13 q14;have Q2:=And.intro q22<|And.intro q23 q24;go_enter func346,ntmps346;go_wp2_with fail;refine HC.mono ?_;rintro e w1⟨rfl,m3,k1,zz⟩;have⟨o,cnt,hrg,lR⟩:=(M1.af k1).range il;rw[zz]at hrg lR;have k2:Bq w (w1.alloc o):=k1.alloc (by rw[zz];omega) _;have HI:=ai lR;have HK:=ai k2;have S0:Hid (fe (w1.alloc o) (λx=>(P x/\x<w.heap.size)\/w.heap.size+2<=x) w.heap.size D2):=by
  obtain⟨r1,r2,r3⟩:=Q2;refine ai ⟨L2,m3.af<|bw _,r1,λn u hu=>?_,r3⟩;have⟨t,e,ht⟩:=r2 n u hu;exact⟨t,e,ht.move k2.size (λx _ hx=>k2.block x hx)<|λx p z=>qi ⟨p,z⟩⟩
 go_wp2
 go_loopg[] cnt (λgk wr=>ThR P b1 D1 D2 L1 w gk wr)
 case atStart=>
  refine⟨[],HI,?_,HK⟩;have e:thD D1 D2 []=D2:=by funext n;simp[thD]
  rw[e];exact S0
 case round=>
  obtain⟨done,HI,HS,HB⟩:=hrel;have WW:=HI.lt;have zr:=HB.size;rcases HI.next (P:=qu) GP with⟨ha,DT⟩|⟨x,u,w2,aB,hxd,Ps,DT,HI1,bq,xL,dU,hen⟩
  .go_wp2
   go_ret;refine⟨w.heap.size,rfl,br _,?_,HB⟩;have e:thD D1 D2 done=yL D1 D2:=by
    funext n;unfold thD yL;by_cases q:(n:Int)∈done
    .rw[if_pos q]
    .rw[if_neg q];have:D1 n=none:=by
      cases hg:aX (n:Int) L1 with
      |none=>exact Q1.1 n hg|some v=>exact absurd (ha _ v hg) q
     rw[this]
   rw[<-e];exact HS.wide λx p=>by obtain p|p:=p;exact qi p.1;exact qh ae
  .obtain⟨r1,r2,r3⟩:=Q1;obtain⟨n,rfl⟩:=r3 x u Ps;have⟨t,E1,ht⟩:=r2 n u Ps;have⟨lG,jB⟩:=hz n t E1;obtain⟨ta,xa,rfl⟩:=ht.iface;have F1:=xL;have kb:∀i,i<w.heap.size->w2.heap[i]? =w.heap[i]? :=λi hi=>(F1.block i ae ae).trans<|HB.block i hi;have cS:Bq w w2:=⟨F1.os.trans HB.os,F1.tape.trans HB.tape,F1.output.trans HB.output,ae,kb⟩;have HC:=GQ (H2.low.move cS.size (kb b2 l2) (λx p _=>kb x p.2)<|λx p _=>p) (⟨hp2,l2⟩:P b2/\b2<w.heap.size) (ht.af cS) lG jB;have S2:=HS.fr F1 ae (λx p _=>by obtain p|p:=p<;>omega);go_wp2_with fail;refine HC.mono ?_;rintro e w3⟨u3,rfl,hU,k3⟩;obtain⟨tu,xu,rfl⟩:=hU.iface;have z3:=k3.size;have S3:=S2.af k3;have U3:=hU.wide (Q:=λx=>(P x/\x<w.heap.size)\/w.heap.size+2<=x) λx p=>by obtain p|p:=p;exact qi p;exact qh ae
   have I3:=HI1.same (k3.block b1 ae)<|k3.block _ ae;have K3:=cS.trans<|k3.mono ae;go_wp2_with(refine kP il rfl _ _ _ (qh rfl) rfl S3 ae U3 n rfl rfl ?_;intro w4 H' O';have S4:=ai H';have O4:=ai O';clear H' O');go_roundg aB
   case measure=>exact bq
   case rel=>
    have o:=uh O4;refine⟨(n:Int)::done,I3.same (o.block b1 ae)<|o.block _ ae,?_,?_⟩
    .have e:thD D1 D2 ((n:Int)::done)=dR (thD D1 D2 done) n (some<|bG<|sub (DQ D2) t):=by
      funext m;unfold dR;by_cases q:m=n
      .subst q;unfold thD;rw[if_pos ag,if_pos rfl,E1]
      .have:¬(m:Int)=(n:Int):=ae;unfold thD;simp[q,this]
     rw[e];exact S4
    .have k:=K3;exact⟨o.os.trans k.os,o.tape.trans k.tape,o.output.trans k.output,by rw[o.size];exact k.size,λi hi=>(o.block i ae).trans<|k.block i hi⟩
end
def wS(rk:Nat->Nat):Ty->Nat
 |.var n=>rk n+1|.aJ _ _=>0
structure aiK(K:Nat->Option Ty)R t t1:Prop where
 eq:sub R t1=sub R t
 op:∀n,t1=.var n->K n=none
def aiL(J:Ty->Prop)(K:Nat->Option Ty)R rk P t w gk v wr:=
 ∃t1,Hid (gk=wS rk t1)/\wr=w/\cW w P t1 v/\Hid (J t1)/\Hid (sub R t1=sub R t)
section
variable {w:World} {b:Nat} {rk:Nat->Nat}
def WX(J:Ty->Prop)(hJ:∀n t,K n=some t->J t)(h:fe w P b K)(hK:tS K R rk){v}(ht:cW w P t v)(h0:J t):Cq 361 #[Mv b,v] w λe w'=>∃u t1,e=.returned u/\cW w P t1 u/\aiK K R t t1/\J t1/\w'=w:=by
 obtain⟨ta,xa,rfl⟩:=ht.iface;go_enter func361,ntmps361
 go_wp2
 go_loopg[1] (wS rk t) (λgk v wr=>aiL J K R rk P t w gk v wr)
 case atStart=>exact⟨t,ai rfl,rfl,ht,ai h0,ai rfl⟩
 case round=>
  obtain⟨t1,cR,rfl,hT,hJ1,hE⟩:=hrel
  cases hT with
  |var n=>
   obtain⟨t2,u,e1,H2,hl⟩|⟨e1,hl⟩:=h.look n9 n
   .obtain⟨tu,xu,rfl⟩:=H2.iface;have E1:=ai e1
    go_wp2
    go_roundg(wS rk t2)
    case measure=>
     rw[uh cR]
     cases t2 with
     |var m=>have:=hK.WY n m E1;simp only[wS];omega|aJ c l=>simp only[wS];omega
    case rel=>exact⟨t2,ai rfl,rfl,H2,ai<|hJ n t2 E1,ai (by rw[<-uh hE];exact(hK.shut n t2 E1).symm)⟩
   .have E1:=ai e1
    go_wp2
    go_ret;exact⟨_,.var n,rfl,.var n,⟨hE,λm hm=>by cases hm;exact E1⟩,hJ1,rfl⟩
  |aJ c L sa sc vs hc aM hr=>
   go_wp2
   go_ret;exact⟨_,.aJ c L,rfl,.aJ c L sa sc vs hc aM hr,⟨hE,λm hm=>by cases hm⟩,uh hJ1,rfl⟩
end
def Mk g cs(l:List Nat)(p:Nat->Bool)w:=∀(W:World)(n:Nat),n∈l->Bq w W->Cq g (#[Nv n]++cs) W λe w'=>e=.returned (.bool<|p n)/\Bq W w'
def IxV(l:List Nat)(p:Nat->Bool)k:=(k= -1/\∀n∈l,p n=false)\/∃i,∃h:i<l.length,k=(i:Int)/\p l[i]=true/\∀j(hj:j<l.length),j<i->p l[j]=false
def aiM(l:List Nat)(p:Nat->Bool)w gk v wr:=
 ∃j:Nat,Hid (gk=l.length-j)/\j<=l.length/\v=Nv j/\Bq w wr/\Hid (∀i(hi:i<l.length),i<j->p l[i]=false)
section
variable {w:World} {v:Value} {l:List Nat}
def eU l:(nZ l).length=l.length:=by simp[nZ]
def n_(eg:∀args w,(callFunc g args).run qu w=.ok (.enter g args) w)(ho:gE w 98 base v (nZ l))(hl:l.length<=1000000000000)(hp:Mk g cs l p w):
 Cq 370 #[v,.func (.func g) #[] cs] w λe w'=>∃k,e=.returned (Iv k)/\IxV l p k/\Bq w w':=by
 obtain⟨va,vc,rfl⟩:=dK ho (n:=l.length)<|eU l;go_enter func370,ntmps370
 go_wp2
 go_loopg[8] l.length (λgk v wr=>aiM l p w gk v wr)
 case atStart=>exact⟨0,ai ag,qn _,rfl,xo _ _,ai<|λi _ hi=>absurd hi ae⟩
 case round=>
  obtain⟨j,cR,hj,rfl,HK,mE⟩:=hrel;by_cases aY:j<l.length
  .have hd:(j:Int)<(l.length:Int):=ae;have hjv:j<(nZ l).length:=by rw[eU];exact aY
   have⟨gv,cpv,mv,hv,hgv,iP,_⟩:=ik ho ae;injection hv with Mh Th hv3;subst Mh;have cg0:=lQ ho j hjv;rw[show(nZ l)[j]=Nv (l[j]) by simp[nZ]]at cg0;have cg:=(qz (a:=⟨gv,j,none⟩)<|HK.block gv iP).trans cg0;have HC:=hp wr l[j] (jq aY) HK;clear cg0 Th hv3
   cases hpj:p l[j]with
   |true=>
    rw[hpj]at HC;generalize hx:l[j]=x at*;go_wp2_with(go_at_fn g;refine HC.mono ?_;rintro e w1⟨rfl,k1⟩;have HK1:=ai k1;clear k1);go_ret;have k:=HK;exact⟨j,rfl,qh ⟨j,aY,rfl,by rw[hx];exact hpj,mE⟩,k.trans<|HK1.mono k.size⟩
   |false=>
    rw[hpj]at HC;generalize hx:l[j]=x at*;go_wp2_with(go_at_fn g;refine HC.mono ?_;rintro e w1⟨rfl,k1⟩;have HK1:=ai k1;clear k1);go_roundg(l.length-(j+1))
    case measure=>rw[uh cR];omega
    case rel=>
     have k:=HK;refine⟨j+1,ai rfl,ae,iK,k.trans<|HK1.mono k.size,ai<|λi hi hij=>?_⟩;by_cases e:i=j
     .subst e;rw[hx];exact hpj
     .exact mE i hi ae
  .have hd:decide ((j:Int)<(l.length:Int))=false:=bB;have ej:j=l.length:=ae;subst ej
   go_wp2
   go_ret;refine⟨-1,rfl,qi ⟨rfl,λn hn=>?_⟩,HK⟩;obtain⟨i,hi,rfl⟩:=jt hn;exact mE i hi hi
def IxV.any{k}(h:IxV l p k):decide (0<=k)=l.any p:=by grind[IxV]
def yM(eg:∀args w,(callFunc g args).run qu w=.ok (.enter g args) w)(ho:gE w 98 base v (nZ l))(hl:l.length<=1000000000000)(hp:Mk g cs l p w):
 Cq 371 #[v,.func (.func g) #[] cs] w λe w'=>e=.returned (.bool<|l.any p)/\Bq w w':=by
 have HC:=n_ eg ho hl hp;obtain⟨va,vc,rfl⟩:=dK ho (n:=l.length)<|eU l;go_enter func371,ntmps371;go_wp2_with fail;refine HC.mono ?_;rintro e w1⟨k,rfl,hk,HK⟩;have HA:=hk.any
 go_wp2
 go_ret;refine⟨?_,HK⟩;rw[<-HA];rfl
end
section
variable {b:Nat} {rk:Nat->Nat}
open Classical in
noncomputable def yN (R:Nat->Ty) (v:Nat) (n:Nat):Bool:=decide (aD v<|R n)
open Classical in
def GU R v t:(vars [] t).any (yN R v)=decide (aD v<|sub R t):=by
 have h:∀n,n∈vars [] t↔aD n t:=λn=>by simpa using bK t [] n
 by_cases q:aD v (sub R t)
 .rw[decide_eq_true q,List.any_eq_true];have⟨m,h1,h2⟩:=(Go.Proofs.YtfnkchdeheeiiaaGreatDoor.Un.lS t).1 q;exact⟨m,(h m).2 h1,by simp[yN,h2]⟩
 .rw[decide_eq_false q,List.any_eq_false];intro m hm;simp only[yN,decide_eq_true_eq];exact λr=>q<|(Go.Proofs.YtfnkchdeheeiiaaGreatDoor.Un.lS t).2 ⟨m,(h m).1 hm,r⟩
def Pt P b K R v t:=∀(w:World)(x:Value),fe w P b K->cW w P t x->size t<=1000000000000->
 Cq 367 #[Mv b,x,Nv v] w λe w'=>e=.returned (.bool<|(vars [] t).any<|yN R v)/\Bq w w'
def Pw{p:Prop}(h:p:=by
 rw[hb]at HC;go_enter func372,ntmps372;go_wp2_with fail;refine HC.mono ?_;rintro e w1⟨rfl,HK⟩
 go_wp2
 go_ret
 exact⟨rfl,HK⟩):p:=h
def Ml(hK:tS K R rk)(hs:∀n t,K n=some t->size t<=1000000000000){v:Nat}(hv:K v=none)n(IH:∀t,K n=some t->Pt P b K R v t){sb vb}(h:fe W P b K)(h1:Bx W sb #[Mv b])(h2:Bx W vb #[Nv v]):
 Cq 372 #[Nv n,Pv sb,Pv vb] W λe w'=>e=.returned (.bool<|yN R v n)/\Bq W w':=by
 obtain⟨c1,f1,z1⟩:=h1;obtain⟨c2,f2,z2⟩:=h2;obtain⟨t,u,e1,ht,hl⟩|⟨e1,hl⟩:=h.look n9 n
 .obtain⟨tu,xu,rfl⟩:=ht.iface;have cO:n≠v:=λq=>by rw[q,hv]at e1;cases e1
  have hd:((n:Int)==(v:Int))=false:=bB;have HC:=IH t e1 W _ h ht<|hs n t e1;have eo:(vars [] t).any (yN R v)=yN R v n:=by
   rw[GU,yN,hK.shut n t e1]
  rw[eo]at HC
  cases hb:yN R v n with
  |true=>
   exact Pw
  |false=>
   exact Pw
 .have eo:yN R v n=decide (n=v):=by
   exact decide_eq_decide.2 (by rw[hK.open_ n e1];simp[aD])
  rw[eo];by_cases hnv:n=v
  .subst hnv;go_enter func372,ntmps372
   go_wp2
   go_ret;exact⟨ag,xo _ _⟩
  .have hd:((n:Int)==(v:Int))=false:=bB;go_enter func372,ntmps372
   go_wp2
   go_ret;exact⟨by simp[hnv],xo _ _⟩
def Tt(hK:tS K R rk)(hs:∀n t,K n=some t->size t<=1000000000000){v:Nat}(hv:K v=none)t(IH:∀n,aD n t->∀t',K n=some t'->Pt P b K R v t'):Pt P b K R v t:=by
 intro w x HH ht hz;have kb:Bq w ((w.alloc<|Cv #[Mv b] 498).alloc<|Cv #[Nv v] 98):=(bw _).alloc ag _;have b1:Bx ((w.alloc<|Cv #[Mv b] 498).alloc<|Cv #[Nv v] 98) w.heap.size #[Mv b]:=(Bx.new w _ _).below<|bw _;have B2:Bx ((w.alloc<|Cv #[Mv b] 498).alloc<|Cv #[Nv v] 98) (w.heap.size+1) #[Nv v]:=by
  have:=Bx.new (w.alloc<|Cv #[Mv b] 498) #[Nv v] 98;simpa using this
 have HV:=fE (ht.af kb) hz;obtain⟨ta,xa,rfl⟩:=ht.iface;have hlen:(vars [] t).length<=1000000000000:=by
  exact GK
 have KB:=ai kb;have B1:=ai b1;go_enter func367,ntmps367;go_wp2_with fail;refine HV.mono ?_;rintro e w1⟨V,rfl,ho,k1⟩;have⟨va,vc,hva⟩:=dK ho (n:=(vars [] t).length)<|eU _;have hT:Mk 372 #[Pv w.heap.size,Pv<|w.heap.size+1] (vars [] t) (yN R v) w1:=λW n hn hb=>
  have kW:=(KB.trans<|k1.mono KB.size).trans<|hb.mono<|qk KB.size k1.size
  Ml hK hs hv n (λt' ht'=>IH n (by simpa using(bK t [] n).1 hn) t' ht') (HH.af kW) ((B1.below k1).below hb) ((B2.below k1).below hb)
 have HC:=yM (enters_of Tryz.func372 qkr rfl) ho hlen hT;have K1:=ai k1;subst hva;go_wp2_with fail;refine HC.mono ?_;rintro e w2⟨rfl,K2⟩
 go_wp2
 go_ret;have kb:=uh KB;have k1:=uh K1;exact⟨rfl,(kb.trans<|k1.mono kb.size).trans<|K2.mono<|qk kb.size k1.size⟩
def WZ(hK:tS K R rk)(hs:∀n t,K n=some t->size t<=1000000000000){v:Nat}(hv:K v=none):∀(s f:Nat)(t:Ty),size (sub R t)<=s->wS rk t<=f->Pt P b K R v t:=by
 intro s
 induction s using qm with
 |ind s ihs=>
  intro f
  induction f using qm with
  |ind f ihf=>
   intro t h1 h2;refine Tt hK hs hv t λn hn t' ht'=>?_;have e:=hK.shut n t' ht'
   cases t with
   |var m=>
    simp only[aD]at hn;subst hn;simp only[sub]at h1;rw[e]at h1;simp only[wS]at h2;refine ihf (wS rk t') ?_ t' h1<|br _
    cases t' with
    |var u=>have:=hK.WY m u ht';simp only[wS];omega|aJ c l=>simp only[wS];omega
   |aJ c l=>
    have h3:=lT R n l qBx;simp only[sub,size]at h1;exact ihs (size<|sub R t') (by rw[<-e];omega) (wS rk t') t' (br _)<|br _
end
structure TyI(V:List Nat)t:Prop where
 v:∀m,aD m t->m∈V
 z:size t<=48
 w:Whole t
def Bs V(K:Nat->Option Ty):=∀n t,K n=some t->n∈V/\TyI V t
def opL(V:List Nat)(K:Nat->Option Ty):Nat:=(V.filter λn=>(K n).isNone).length
def afN(h:n∈V)(e:K n=none):opL V (dR K n<|some t)<opL V K:=by
 refine filter_lt (m:=n) (λi hi=>?_) h Mm (by simp[dR]);by_cases q:i=n
 .simp[dR,q]at hi
 .simpa[dR,q]using hi
def GW V K K'(R R':Nat->Ty):=(K'=K/\R'=R)\/opL V K'<opL V K
def cB P b V K R x y w(e:Ending)w':=
 ∃ok:Bool,e=.returned (.bool ok)/\Fr (λi=>i=b) w w'/\
  (ok=true->∃K' R' Px,fe w' P b K'/\tS K' R' Px/\Bs V K'/\Made R R' x y/\GW V K K' R R')/\
  (ok=false->∀σ,sub σ (sub R x)≠sub σ (sub R y))
section
variable {w:World} {b:Nat} {rk:Nat->Nat}
def Bs.rK(h:Bs V K):∀n t,K n=some t->size t<=1000000000000:=λn t e=>by have:=(h n t e).2.z;omega
def Py{p:Prop}(h:p:=by
 go_enter func362,ntmps362;go_wp2_with fail;refine HC.mono ?_;rintro e w1⟨rfl,K1⟩;have S1:=HS.af K1;have T1:=ht.af K1;go_wp2_with(refine kP n9 rfl _ _ _ (Or.inr rfl) rfl S1 hP T1 n rfl rfl ?_;intro w4 H' O';have S4:=ai H';have O4:=ai O';clear H' O');go_ret;have o:=uh O4
 exact⟨true,rfl,(Fr.of K1).trans ⟨o.os,o.tape,o.output,LB,λk _ hk=>o.block k hk⟩,λ_=>HY HO _ S4,λh=>by(cases h)⟩):p:=h
def Pz{p:Prop}(h:p:=by
 go_enter func362,ntmps362;go_wp2_with fail;refine HC.mono ?_;rintro e w1⟨rfl,K1⟩
 go_wp2
 go_ret
 exact⟨false,rfl,Fr.of K1,λh=>by(cases h),λ_ σ=>HN σ HO⟩):p:=h
def GX(h:fe w P b K)(hP:¬P b)(hK:tS K R rk)(hI:Bs V K)(hn:K n=none)(hnV:n∈V){x}(ht:cW w P t x)(hti:TyI V t)(hh:∀u,t=.var u->K u=none):
 Cq 362 #[Mv b,Nv n,x] w (cB P b V K R (.var n) t w):=by
 have HS:=ai h;by_cases W4:t=.var n
 .subst W4
  cases ht
  have h1:=afH;go_enter func362,ntmps362
  go_wp2
  go_ret;exact⟨true,rfl,Fr.refl _ _,λ_=>⟨K,R,rk,HS,hK,hI,Made.refl rfl,qi ⟨rfl,rfl⟩⟩,λh=>Mn⟩
 .have HC:=WZ (P:=P) (b:=b) hK hI.rK hn (size<|sub R t) (wS rk t) t (br _) (br _) w x h ht (by have:=hti.z;omega);rw[GU]at HC;have HN:∀σ,aD n (sub R t)->sub σ (sub R<|.var n)≠sub σ (sub R t):=λσ ho=>by
   cases t with
   |var u=>
    have:=hK.open_ u<|hh u rfl;simp[sub,this,aD]at ho;exact absurd (by rw[ho]) W4
   |aJ c l=>exact ace hK hn ho σ
  have HY:¬aD n (sub R t)->∀w',fe w' P b (dR K n<|some t)->∃K' R' Px,fe w' P b K'/\tS K' R' Px/\Bs V K'/\Made R R' (.var n) t/\GW V K K' R R':=λho w' hw=>by
   have⟨Px,gF⟩:=hK.bind hn ho hh;refine⟨_,_,Px,hw,gF,λm s e=>?_,Made.bind hK hn ho,qh<|afN hnV hn⟩;by_cases q:m=n
   .simp only[dR,q,if_true,Option.some.injEq]at e;subst e q;exact⟨hnV,hti⟩
   .simp only[dR,q,if_false]at e;exact hI m s e
  obtain⟨ta,xa,rfl⟩:=ht.iface;have key:(∃m,ta=98/\xa=Iv m/\(m==(n:Int))=false)\/∃p q,ta=169/\xa=Av #[p,q]:=by
   cases ht with
   |var m=>exact qi ⟨m,rfl,rfl,by simp;intro e;exact W4<|by rw[show m=n by omega]⟩|aJ c L sa sc vs hc aM hr=>exact qh ⟨_,_,rfl,rfl⟩
  cases ho:(@decide (aD n<|sub R t)<|kv _)with
  |true=>
   rw[ho]at HC;have HO:= @of_decide_eq_true _ (kv _) ho;obtain⟨m,rfl,rfl,hm⟩|⟨p,q,rfl,rfl⟩:=key
   .have h1:=afH;exact Pz
   .have h1:=aiD;exact Pz
  |false=>
   rw[ho]at HC;have HO:= @of_decide_eq_false _ (kv _) ho;obtain⟨m,rfl,rfl,hm⟩|⟨p,q,rfl,rfl⟩:=key
   .have h1:=afH;exact Py
   .have h1:=aiD;exact Py
end
@[simp] theorem al9 a b w:(v7 (.iface 169<|.agg #[a,b]) 67 169 false).run qu w=.ok (.agg #[a,b]) w:=qkr
def aZ(w:World)o:(w.alloc o).heap.size=w.heap.size+1:=ag
def p_ w C1 C2 v1 v2 wc:=∃p q,v1=Pv p/\v2=Pv q/\w.heap.size<=p/\w.heap.size<=q/\Bx wc p C1/\Bx wc q C2/\Bq w wc
theorem p_.a w C1 C2 t1 t2:p_ w C1 C2 (Pv w.heap.size) (Pv<|w.heap.size+1) ((w.alloc<|.cells C1 t1).alloc<|.cells C2 t2).drew:=by
 refine⟨_,_,rfl,rfl,br _,Nat.le_succ _,((Bx.new w C1 t1).below<|bw _).gL,?_,((bw _).alloc ag _).drew⟩;have:=Bx.new (w.alloc<|Cv C1 t1) C2 t2;simp only[aZ]at this;exact this.gL
def p_.b w C1 C2 t1 t2:p_ w C1 C2 (Pv<|w.heap.size+1) (Pv w.heap.size) ((w.alloc<|.cells C2 t2).alloc<|.cells C1 t1).drew:=by grind[p_,p_.a]
def afO P b V K R(L L2:List Ty)p q C0 C1 w gk c wr:=
 ∃(j:Nat)(K':Nat->Option Ty)(R':Nat->Ty)(Px:Nat->Nat),Hid (gk=L.length-j)/\j<=L.length/\c=Nv j/\Fr (λi=>i=b) w wr/\fe wr P b K'/\tS K' R' Px/\Bs V K'/\oa R R' (L.take j) (L2.take j)/\Hid (GW V K K' R R')/\Bx wr p C0/\Bx wr q C1
def GY{p:Prop}(h:p:=by
 rw[jI,jJ]at h;have:=congrArg kq h;rw[e1,e2]at this;simp at this):p:=h
def acf{d}(hc:CN c)(hd:CN d)(h:pn c=pn d):c=d:=by
 have e1:(⟨#[45,62]⟩:BA).toList=[45,62]:=toList_mk _;have e2:(⟨#[44]⟩:BA).toList=[44]:=toList_mk _;obtain rfl|rfl|hc:=hc<;>obtain rfl|rfl|hd:=hd
 .rfl
 .exact GY
 .rw[jI,eM hd]at h;exact absurd (by rw[<-h,e1])<|cQ hd 45 [62] aK
 .exact GY
 .rfl
 .rw[jJ,eM hd]at h;exact absurd (by rw[<-h,e2])<|cQ hd 44 [] aK
 .rw[jI,eM hc]at h;exact absurd (by rw[h,e1])<|cQ hc 45 [62] aK
 .rw[jJ,eM hc]at h;exact absurd (by rw[h,e2])<|cQ hc 44 [] aK
 .rw[eM hc,eM hd]at h;exact h
def TyI.at{V}{c}{L}(h:TyI V (.aJ c L))i(hi:i<L.length):TyI V L[i]:=
 ⟨λm hm=>h.v m<|Pk L i hi hm,by have:=lP L i hi;have:=h.z;simp only[size]at this;omega,tZ h.w.2 i hi⟩
section
variable {b:Nat}
def aiN P b V K R rk x y:=∀(w:World)(v u:Value),fe w P b K->tS K R rk->Bs V K->TyI V x->TyI V y->cW w P x v->cW w P y u->
 Cq 354 #[Mv b,v,u] w (cB P b V K R x y w)
def cB.fr{w:World}{e:Ending}(h:cB P b V K R x y w e w'):Fr (λi=>i=b) w w':=by grind[cB]
def cB.up{w w0:World}{e:Ending}(h:cB P b V K R x y w0 e w')(hb:Bq w w0):cB P b V K R x y w e w':=by
 obtain⟨ok,h1,h2,h3,h4⟩:=h;exact⟨ok,h1,(Fr.of hb).trans h2,h3,h4⟩
def GW.trans{K1 K2}{R1 R2}(h:GW V K K1 R R1)(k:GW V K1 K2 R1 R2):GW V K K2 R R2:=by grind[GW]
def cB.of{x' y'}{w:World}{e:Ending}(h:cB P b V K R x' y' w e w')(hx:sub R x'=sub R x)(hy:sub R y'=sub R y):cB P b V K R x y w e w':=by
 obtain⟨ok,h1,h2,h3,h4⟩:=h;refine⟨ok,h1,h2,λe=>?_,λe σ=>by rw[<-hx,<-hy];exact h4 e σ⟩;have⟨K',R',Px,q1,q2,q3,q4,q5⟩:=h3 e;exact⟨K',R',Px,q1,q2,q3,q4.acg hx hy,q5⟩
def cB.swap{K}{R}{x y}{w}{e}{w'}(h:cB P b V K R x y w e w'):cB P b V K R y x w e w':=by
 obtain⟨ok,h1,h2,h3,h4⟩:=h;refine⟨ok,h1,h2,λe=>?_,λe σ q=>h4 e σ q.symm⟩;have⟨K',R',Px,q1,q2,q3,q4,q5⟩:=h3 e;exact⟨K',R',Px,q1,q2,q3,q4.swap,q5⟩
def W5(hP:¬P b):∀(f s:Nat)(K:Nat->Option Ty)(R:Nat->Ty)(rk:Nat->Nat)(x y:Ty),opL V K<=f->size (sub R x)<=s->aiN P b V K R rk x y:=by
 intro f
 induction f using qm with
 |_ f ihf=>
 intro s
 induction s using qm with
 |_ s ihs=>
  intro K R rk x y Hf Hs w v u h hK hI hx hy hv hu;have HS:=ai h;have HH1:=WX (TyI V) (λn t e=>(hI n t e).2) h hK hv hx;have Bd:=WX (TyI V) (λn t e=>(hI n t e).2) h hK hu hy;obtain⟨ta,xa,rfl⟩:=hv.iface;obtain⟨tb,xb,rfl⟩:=hu.iface;go_enter func354,ntmps354;go_wp2_with fail;refine HH1.mono ?_;rintro e w1⟨v1,x1,rfl,Mh,Mo,Tu,rfl⟩;obtain⟨yO,yP,rfl⟩:=Mh.iface;clear HH1;go_wp2_with fail;refine Bd.mono ?_;rintro e w2⟨u1,y1,rfl,vD,hd2,hy1,rfl⟩;obtain⟨tb1,xb1,rfl⟩:=vD.iface;clear Bd h hv hu
  cases x1 with
  |var n=>
   have HC:=GX HS hP hK hI (Mo.op n rfl) (Tu.v n rfl) vD hy1 hd2.op
   cases Mh
   have E:=ku Mo.eq hd2.eq;clear Mo hd2 vD;go_wp2_with fail;refine HC.mono ?_;intro e w3 vM;have HQ:=vM.of E.1 E.2;obtain⟨ok,rfl,-⟩:=vM;clear HC
   go_wp2
   go_ret;exact HQ
  |aJ c L=>
  cases y1 with
  |var n=>
   have HC:=GX HS hP hK hI (hd2.op n rfl) (hy1.v n rfl) Mh Tu Mo.op;have key:∃p q,yO=169/\yP=Av #[p,q]:=by cases Mh;exact⟨_,_,rfl,rfl⟩
   obtain⟨p,q,rfl,rfl⟩:=key
   cases vD
   have E:=ku Mo.eq hd2.eq;clear Mo hd2 Mh;go_wp2_with fail;refine HC.mono ?_;intro e w3 vM;have HQ:=vM.swap.of E.1 E.2;obtain⟨ok,rfl,-⟩:=vM;clear HC
   go_wp2
   go_ret;exact HQ
  |aJ d L2=>
   cases Mh with
   |aJ _ _ sa sc vs hc aM hr=>
   cases vD with
   |aJ _ _ sa2 sc2 vs2 hc2 yQ yK=>
   have hc:=hc.resolve_right Tu.w.1;have hc2:=hc2.resolve_right hy1.w.1;have E:=ku Mo.eq hd2.eq;clear Mo hd2;go_wp2_with fail;go_cut[11,12]from 40 (λv1 v2 wc=>p_ w2 #[Sv<|pn c,Lv sa L.length sc] #[Sv<|pn d,Lv sa2 L2.length sc2] v1 v2 wc)
   case first=>
    clear ihf ihs hr yK aM yQ;go_region
    all_goals(
     go_wp2_with fail
     go_meet
     case rel=>first|exact p_.a w2 _ _ _ _|exact p_.b w2 _ _ _ _)
   case rest=>
    obtain⟨p,q,rfl,rfl,zp,zq,X1,X2,KC⟩:=hcut;obtain⟨c1,f1,z1⟩:=X1;obtain⟨c2,f2,z2⟩:=X2;by_cases hcd:c=d
    .subst hcd;by_cases hlen:L.length=L2.length
     .have hd0:((L.length:Int) !=(L2.length:Int))=false:=bB;have amg:L.length<=48:=by have:=DL L;have:=Tu.z;simp only[size]at this;omega
      have HE:=ai hlen;have T1:=show Bx wc p #[Sv<|pn c,Lv sa L.length sc]from⟨c1,f1,z1⟩;have T2:=show Bx wc q #[Sv<|pn c,Lv sa2 L2.length sc2]from⟨c2,f2,z2⟩;clear hlen
      go_wp2
      go_loopg[61] L.length (λgk c1 wr=>afO P b V K R L L2 p q #[Sv<|pn c,Lv sa L.length sc] #[Sv<|pn c,Lv sa2 L2.length sc2] w2 gk c1 wr)
      case atStart=>exact⟨0,K,R,rk,ai ag,qn _,rfl,Fr.of KC,HS.af KC,hK,hI,by simpa using oa.nil R,ai<|qi ⟨rfl,rfl⟩,T1,T2⟩
      case round=>
       clear T1 T2 c1 c2 f1 f2 z1 z2;obtain⟨j,K1,R1,rk1,cR,hj,rfl,Br,S1',hK1,hI1,HM1,hL1,T1,T2⟩:=hrel;have hlen:=uh HE;by_cases aY:j<L.length
       .have hd:(j:Int)<(L.length:Int):=ae;have hd':(j:Int)<(L2.length:Int):=ae;have Tv:j<L2.length:=ae;obtain⟨g1,rfl,hg1,lG,W6⟩:=aM.resolve_left<|λe=>qBs;obtain⟨g2,rfl,Tg,jB,W7⟩:=yQ.resolve_left (λe=>by subst e;simp at Tv);have nb:∀i,P i->i<w2.heap.size->¬i=b:=λi hi _ e=>hP<|e▸hi;have a1:=(qz (a:=⟨g1,j,none⟩)<|Br.block g1 lG<|nb g1 hg1 lG).trans<|W6 j aY;have a2:=(qz (a:=⟨g2,j,none⟩)<|Br.block g2 jB<|nb g2 Tg jB).trans<|W7 j Tv;have t1:=(hr j aY).fr Br nb;have t2:=(yK j Tv).fr Br nb;have ih:aiN P b V K1 R1 rk1 L[j] L2[j]:=by
         have hs1:size (sub R L[j])<=ah (aS R L):=by
          have:=lP (aS R L) j (by rw[dT];exact aY)
          rwa[Pj R L j aY]at this
         have sd:=Hs;rw[<-E.1]at sd;simp only[sub,size]at sd;obtain⟨rfl,rfl⟩|bq:=uh hL1
         .exact ihs (size<|sub R1 L[j]) ae K1 R1 rk1 L[j] L2[j] Hf (br _)
         .exact ihf (opL V K1) (by have:=Hf;omega) (size<|sub R1 L[j]) K1 R1 rk1 L[j] L2[j] (br _) (br _)
        have HC:=λ(W:World)(hb:Bq wr W)=>ih W (vs j) (vs2 j) (S1'.af hb) hK1 hI1 (Tu.at j aY) (hy1.at j Tv) (t1.af hb)<|t2.af hb;have⟨tu1,xu1,e1⟩:=t1.iface;have⟨tu2,xu2,e2⟩:=t2.iface;rw[e1]at a1 HC;rw[e2]at a2 HC;have Tk:=ai T1;have T2':=ai T2;obtain⟨c1,f1,z1⟩:=T1;obtain⟨c2,f2,z2⟩:=T2;clear ih t1 t2 hK1 hI1 W6 W7 hlen;go_wp2_with fail;go_cut[61,76]from 61 to 77 (λc3 v3 wd=>c3=Nv j/\∃ok,v3=.bool (!ok)/\cB P b V K1 R1 L[j] L2[j] wr (Rv<|.bool ok) wd)
        case first=>
         clear ihf ihs hr yK aM yQ HM1 hL1 cR HS hK hI hx hy Hf Hs E KC;go_region_with(go_at_call 354;refine(HC _ (xo _ _).drew).mono ?_;intro e w3 vM;have HQ:=ai vM;obtain⟨ok,rfl,-⟩:=vM)
         all_goals(
          go_wp2_with fail
          go_meet
          case rel=>exact⟨rfl,ok,rfl,HQ.up (xo _ _).drew⟩)
        case rest=>
         obtain⟨rfl,ok,rfl,HQ⟩:=hcut;have F2:=HQ.fr;have ze:=HQ.fr.size;have zr:=Br.size;have U1:=ai (Tk.fr F2 (λe=>by have:=HS.lt;omega));have U2:=ai (T2'.fr F2 (λe=>by have:=HS.lt;omega));have HF:=Br.trans F2;clear F2 c1 f1 z1 c2 f2 z2 a1 a2 HC
         cases ok with
         |false=>
          go_wp2
          go_ret;refine cB.of ⟨false,rfl,HF,λh=>by(cases h),λ_ σ=>?_⟩ E.1 E.2;obtain⟨ok,q1,_,_,q4⟩:=HQ;have q4:=q4 (by injection q1 with q1;injection q1 with q1;exact q1.symm);rw[GZ L j aY,GZ L2 j Tv];exact HM1.no bB q4 c c σ
         |true=>
          go_wp2
          go_roundg(L.length-(j+1))
          case measure=>rw[uh cR];omega
          case rel=>
           obtain⟨ok,q1,_,q3,_⟩:=HQ;have⟨K2,R2,rk2,r1,r2,r3,r4,r5⟩:=q3 (by injection q1 with q1;injection q1 with q1;exact q1.symm);refine⟨j+1,K2,R2,rk2,ai rfl,ae,iK,HF,r1,r2,r3,?_,ai ?_,U1,U2⟩
           .rw[jf aY,jf Tv];exact HM1.snoc bB r4
           .exact hL1.trans r5
       .have hd:decide ((j:Int)<(L.length:Int))=false:=bB;have ej:j=L.length:=ae;subst ej;clear hlen
        go_wp2
        go_ret;refine cB.of ⟨true,rfl,Br,λ_=>⟨K1,R1,rk1,S1',hK1,hI1,?_,hL1⟩,λh=>by(cases h)⟩ E.1 E.2;have hm:=HM1;rw[jc,uh HE,jc]at hm;exact hm.aJ c
     .have hd0:((L.length:Int) !=(L2.length:Int))=true:=bB
      go_wp2
      go_ret;refine cB.of ⟨false,rfl,Fr.of KC,λh=>by(cases h),λ_ σ=>Tw hlen⟩ E.1 E.2
    .have cO:pn c≠pn d:=λe=>hcd<|acf hc hc2 e;have hd0:¬(pn c).toList=(pn d).toList:=λe=>cO<|toList_inj e;clear cO
     go_wp2
     go_ret;refine cB.of ⟨false,rfl,Fr.of KC,λh=>by(cases h),λ_ σ=>Mp hcd⟩ E.1 E.2
end
namespace Un
def cZ.xM{t'}(h:cZ t' t)(hw:Whole t):bG t'=bG t:=by grind[cZ,Whole,bG,sz,od]
def cZ.Ce t(hw:Whole t):cZ (bG t) t:=(cZ.refl t).cut hw
def G9 n:bG (.var n)=.var n:=by simp[bG,sz]
def yR(h:size t<=48)(hw:Whole t):bG t=t:=by grind[size,Whole,bG,od]
def fh(hw:Whole t){C}(h:(vars [] t).length<=C)(hC:48<=C):size (bG t)<=1+C:=Tx h hC λq=>Mq q
end Un
section
variable {rk:Nat->Nat}
def G_ t n(h:n∈occs t):aD n t:=by
 have:n∈vars [] t:=by rw[cr];exact(f_ n _ _).2 (qh h)
 simpa using(bK t [] n).1 this
def W8(K:Nat->Option Ty)(R:Nat->Ty)(D:Nat->Option Ty):=∀n t,D n=some t->t=bG (R n)/\K n≠none
structure yS(K:Nat->Option Ty)(R:Nat->Ty):Prop where
 whole:∀n,Whole<|R n
 len:∀n,(vars []<|R n).length<=1000
 small:∀n t,K n=some t->size t<=48
theorem yS.size(h:yS K R)n:size (bG<|R n)<=1001:=by have:=fh (h.whole n) (h.len n) aK;omega
def Tz(hK:tS K R rk)(hF:yS K R)(e:K n=some t):bG (sub (λm=>bG<|R m) t)=bG (R n):=by
 have h:cZ (sub (λm=>bG<|R m) t) (R n):=by
  rw[hK.shut n t e];exact(cZ.refl t).sub λm _=>cZ.Ce _<|hF.whole m
 exact h.xM<|hF.whole n
abbrev TA(B:Nat->Prop)n wb x:=(B x\/n<=x)/\x≠wb
def PA(b wb:Nat)K R B(D:Nat->Option Ty)n w(e:Ending)w':=
 ∃u D',e=.returned u/\cW w' (TA B w.heap.size wb) (bG<|R n) u/\fe w' (TA B w.heap.size wb) wb D'/\W8 K R D'/\(∀m,D m≠none->D' m≠none)/\(K n≠none->D' n≠none)/\Fr (λi=>i=wb) w w'
structure DU b wb K R(B:Nat->Prop)D(w:World):Prop where
 lt:∀x,B x->x<w.heap.size
 nw:¬B wb
 wl:wb<w.heap.size
 bb:B b
 s:fe w B b K
 d:fe w B wb D
 g:W8 K R D
def W9 b wb K R n:=∀(w:World)(B:Nat->Prop)(D:Nat->Option Ty),DU b wb K R B D w->
 Cq 363 #[Mv b,Mv wb,Nv n] w (PA b wb K R B D n w)
def aiO b wb sx wx K R(B:Nat->Prop)(D:Nat->Option Ty)(_:List Nat)B1 M1 W:=
 (M1=λi=>i=wb)/\(∀x,B x->B1 x)/\B1 sx/\B1 wx/\Bx W sx #[Mv b]/\Bx W wx #[Mv wb]/\∃D1,DU b wb K R B1 D1 W/\∀m,D m≠none->D1 m≠none
variable {b sx wx:Nat} {B:Nat->Prop}
def W_(IH:W9 b wb K R n){B1}(h1:Bx W sx #[Mv b])(h2:Bx W wx #[Mv wb])(h:DU b wb K R B1 D1 W):
 Cq 368 #[Nv n,Pv sx,Pv wx] W (PA b wb K R B1 D1 n W):=by
 obtain⟨c1,f1,z1⟩:=h1;obtain⟨c2,f2,z2⟩:=h2;have HC:=IH W B1 D1 h;go_enter func368,ntmps368;go_wp2_with fail;refine HC.mono ?_;intro e w1 hp;have HP:=ai hp;obtain⟨u,D',rfl,hu,-⟩:=hp;obtain⟨ta,xa,rfl⟩:=hu.iface
 go_wp2
 go_ret;exact HP
def ach(IH:∀n,aD n t->W9 b wb K R n)(hsw:sx≠wb/\wx≠wb):Img 368 #[] #[Pv sx,Pv wx] (λm=>bG<|R m) (λ_ n=>aD n t) (aiO b wb sx wx K R B D) where
 eg:=enters_of Tryz.func368 qkr rfl
 lq acc B1 M1 w w' h hz hk:=by
  obtain⟨rfl,h1,h2,h3,h4,h5,D1,h6,h7⟩:=h;refine⟨rfl,h1,h2,h3,h4.same hz<|hk _<|qi h2,h5.same hz<|hk _<|qi h3,D1,⟨λx p=>ql (h6.lt x p) hz,h6.nw,ql h6.wl hz,h6.bb,?_,?_,h6.g⟩,h7⟩
  .exact h6.s.move hz (hk b<|qi h6.bb) (λx p _=>hk x<|qi p) (λ_ p _=>p)
  .exact h6.d.move hz (hk wb<|qh rfl) (λx p _=>hk x<|qi p) (λ_ p _=>p)
 lt acc B1 M1 w h:=by
  obtain⟨rfl,h1,h2,h3,h4,h5,D1,h6,h7⟩:=h;rintro x(p|rfl)
  .exact h6.lt x p
  .exact h6.wl
 call acc B1 M1 w n h hN:=by
  obtain⟨rfl,h1,h2,h3,h4,h5,D1,h6,h7⟩:=h;refine(W_ (IH n hN) h4 h5 h6).mono ?_;rintro e w'⟨u,D',rfl,hu,hd,hg,hm,_,F⟩;have wl:=h6.wl;have hz:=F.size;refine⟨u,λx=>B1 x\/(w.heap.size<=x/\x<w'.heap.size),_,rfl,hu.wide λx p=>⟨p.2,p.1⟩,⟨rfl,λx p=>qi<|h1 x p,qi h2,qi h3,h4.fr F hsw.1,h5.fr F hsw.2,D',⟨?_,?_,ae,qi h6.bb,?_,?_,hg⟩,λm q=>hm m<|h7 m q⟩,?_,λx q=>qi q,F⟩
  .rintro x(p|p)
   .have:=h6.lt x p;omega
   .exact p.2
  .rintro(p|p)
   .exact h6.nw p
   .omega
  .exact(h6.s.fr F (λe=>h6.nw<|e▸h6.bb)<|λx p _ e=>h6.nw<|e▸p).wide λx p=>qi p
  .refine hd.low.wide λx p=>?_;obtain q|q:=p.1.1
   .exact qi q
   .omega
  .grind
def aci(hK:tS K R rk)(hF:yS K R)n(IH:∀t,K n=some t->∀m,aD m t->W9 b wb K R m):W9 b wb K R n:=by
 intro w B D h;have kb:Bq w ((w.alloc<|Cv #[Mv b] 498).alloc<|Cv #[Mv wb] 457):=(bw _).alloc ag _;have x1:Bx ((w.alloc<|Cv #[Mv b] 498).alloc<|Cv #[Mv wb] 457) w.heap.size #[Mv b]:=(Bx.new w _ _).below<|bw _;have x2:Bx ((w.alloc<|Cv #[Mv b] 498).alloc<|Cv #[Mv wb] 457) (w.heap.size+1) #[Mv wb]:=by
  have:=Bx.new (w.alloc<|Cv #[Mv b] 498) #[Mv wb] 457;simpa using this
 have bl:=h.lt b h.bb;have wl:=h.wl;obtain⟨c1,f1,z1⟩:=x1;obtain⟨c2,f2,z2⟩:=x2;have KB:=ai kb;have HH:=ai h;obtain⟨t,u,E1,h1,hl⟩|⟨E1,hl⟩:=(h.d.af kb).look il n
 .obtain⟨ta,xa,rfl⟩:=h1.iface;have H1:=ai h1;go_enter func363,ntmps363
  go_wp2
  go_ret;have h:=uh HH;have nw:∀x,B x->TA B w.heap.size wb x:=λx p=>⟨qi p,λe=>h.nw<|e▸p⟩;obtain⟨rfl,_⟩:=h.g n t E1;exact⟨_,D,rfl,H1.wide nw,(h.d.af KB).wide nw,h.g,λm q=>q,λ_=>by rw[E1];simp,Fr.of KB⟩
 .obtain⟨t,u,e2,h1,Po⟩|⟨e2,Po⟩:=(h.s.af kb).look n9 n
  .have E2:=ai e2;have hI:aiO b wb w.heap.size (w.heap.size+1) K R B D [] (λx=>B x\/x=w.heap.size\/x=w.heap.size+1) (λi=>i=wb) ((w.alloc<|Cv #[Mv b] 498).alloc<|Cv #[Mv wb] 457):=by
    refine⟨rfl,λx p=>qi p,qh<|qi rfl,qh<|qh rfl,⟨c1,f1,z1⟩,⟨c2,f2,z2⟩,D,⟨?_,?_,ae,qi h.bb,(h.s.af kb).wide λx p=>qi p,(h.d.af kb).wide λx p=>qi p,h.g⟩,λm q=>q⟩
    .rintro x(p|rfl|rfl)
     .have:=h.lt x p;omega
     .omega
     .omega
    .rintro(p|p|p)
     .exact h.nw p
     .omega
     .omega
   have akO:=hF.small n t e2;have HC:=yD (ach (IH t e2) ae) t [] _ _ _ u B hI (λi hi=>?_) ae h1<|λx p _ q=>h.nw<|q▸p
   case refine_1=>exact G_ t _<|jq hi
   have dU:size (sub (λm=>bG<|R m) t)<=1000000000000:=by
    have:=im (λm=>bG<|R m) 1001 t (λm _=>hF.size m) aK;have:1001*size t<=1001*48:=qp _ akO;omega
   have HCL:=Tz hK hF e2;obtain⟨ta,xa,rfl⟩:=h1.iface;go_enter func363,ntmps363;go_wp2_with fail;refine HC.mono ?_;rintro e w1⟨u1,B1,M1,rfl,vD,⟨rfl,q1,q2,q3,q4,q5,D1,q6,q7⟩,hB1,hM1,Bp⟩;obtain⟨tu,xu,rfl⟩:=vD.iface;have HCu:=WO vD dU;have Q:=And.intro q6<|And.intro q7 hB1;have zf:=Bp.size;obtain⟨c3,f3,z3⟩:=q4;obtain⟨c4,f4,z4⟩:=q5;go_wp2_with fail;refine HCu.mono ?_;rintro e w2⟨u2,rfl,vE,K2⟩;rw[HCL]at vE;obtain⟨tu2,xu2,rfl⟩:=vE.iface;obtain⟨q6,HM,hB1⟩:=Q;have z2':=K2.size;have c5:=(Bx.below (show Bx w1 (w.heap.size+1) #[Mv wb]from⟨c4,f4,z4⟩) K2).c
   have PB:∀x,B1 x->TA B w.heap.size wb x:=λx p=>⟨by
    obtain  (r|r|r)|r:=hB1 x p
    .exact qi r
    .exact qh ae
    .exact qh ae
    .simp only[aZ]at r;exact qh ae,λe=>q6.nw<|e▸p⟩
   have S2:=(q6.d.af K2).wide PB
   have U2:=ai (vE.wide (Q:=TA B w.heap.size wb) λx p=>by
    obtain⟨p1,(p2|p2|p2)|p2⟩|p:=p
    .exact⟨qi p2,p1⟩
    .exact⟨qh ae,p1⟩
    .exact⟨qh ae,p1⟩
    .simp only[aZ]at p2;exact⟨qh ae,p1⟩
    .exact⟨qh (by simp only[aZ]at zf;omega),by simp only[aZ]at zf;omega⟩)
   have HG:=ai q6.g;go_wp2_with(refine kP il rfl _ _ _ (qh rfl) rfl S2 (λq=>q.2 rfl) U2 n rfl rfl ?_;intro w4 H' O';have S4:=ai H';have O4:=ai O';clear H' O');go_ret;have o:=uh O4;refine⟨_,dR D1 n<|some<|bG<|R n,rfl,U2.move LB (λx p _=>o.block x p.2)<|λ_ p _=>p,S4,λm s hs=>?_,λm hm=>?_,λ_=>by simp[dR],?_⟩
   .by_cases q:m=n
    .simp only[dR,q,if_true,Option.some.injEq]at hs;subst q;exact⟨hs.symm,by rw[uh E2];simp⟩
    .simp only[dR,q,if_false]at hs;exact HG m s hs
   .by_cases q:m=n
    .simp[dR,q]
    .simp only[dR,q,if_false];exact HM m hm
   .exact(((Fr.of KB).trans Bp).low<|K2|>.mono (by have:=KB.size;omega)).trans ⟨o.os,o.tape,o.output,LB,λk _ hk=>o.block k hk⟩
  .have E2:=ai e2;go_enter func363,ntmps363
   go_wp2
   go_ret;have h:=uh HH;have nw:∀x,B x->TA B w.heap.size wb x:=λx p=>⟨qi p,λe=>h.nw<|e▸p⟩;refine⟨_,D,rfl,?_,(h.d.af KB).wide nw,h.g,λm q=>q,λq=>absurd E2 q,Fr.of KB⟩;rw[hK.open_ n<|uh E2,G9];exact .var n
def PC{p:Prop}(h:p:=by
 have h3:=lT R m l (by simpa[aD]using hm);have h4:=congrArg size q;simp only[sub,size]at h4
 exact ihs (size<|R m) ae (rk m) m (br _)<|br _):p:=h
def Hc(hK:tS K R rk)(hF:yS K R):∀(s r n:Nat),size (R n)<=s->rk n<=r->W9 b wb K R n:=by
 intro s
 induction s using qm with
 |ind s ihs=>
  intro r
  induction r using qm with
  |ind r ihr=>
   intro n h1 h2;refine aci hK hF n λt e m hm=>?_;have q:=hK.shut n t e
   cases t with
   |var u=>
    simp only[aD]at hm;subst hm;have:=hK.WY n u e;refine ihr (rk u) ae u ?_<|br _;rw[q]at h1;simpa[sub]using h1
   |aJ c l=>
    exact PC
end
namespace Un
def tS.ind{K}{R}{rk}(hK:tS K R rk){J:Nat->Prop}(h0:∀n,K n=none->J n)(h1:∀n t,K n=some t->(∀m,aD m t->J m)->J n):∀(s r n:Nat),size (R n)<=s->rk n<=r->J n:=by
 intro s
 induction s using qm with
 |ind s ihs=>
  intro r
  induction r using qm with
  |ind r ihr=>
   intro n hs hr
   cases e:K n with
   |none=>exact h0 n e|some t=>
    refine h1 n t e λm hm=>?_;have q:=hK.shut n t e
    cases t with
    |var u=>
     simp only[aD]at hm;subst hm;have:=hK.WY n u e;refine ihr (rk u) ae u ?_<|br _;rw[q]at hs;simpa[sub]using hs
    |aJ c l=>
     exact PC
def tS.all{rk}(hK:tS K R rk){J:Nat->Prop}(h0:∀n,K n=none->J n)(h1:∀n t,K n=some t->(∀m,aD m t->J m)->J n)n:J n:=hK.ind h0 h1 _ _ n (br _)<|br _
end Un
section
variable {rk:Nat->Nat}
def Xa(hK:tS K R rk)(hI:Bs V K)n m:n∈V->aD m (R n)->m∈V:=by
 refine hK.all (J:=λn=>n∈V->aD m (R n)->m∈V) (λn e hn ho=>?_) (λn t e ih hn ho=>?_) n
 .rw[hK.open_ n e]at ho;simp only[aD]at ho;subst ho;exact hn
 .rw[hK.shut n t e]at ho;have⟨x,h1,h2⟩:=(lS t).1 ho;exact ih x h1 ((hI n t e).2.v x h1) h2
def Cf(hK:tS K R rk)(hI:Bs V K)n:Whole (R n):=by
 refine hK.all (J:=λn=>Whole<|R n) (λn e=>?_) (λn t e ih=>?_) n
 .rw[hK.open_ n e];trivial
 .rw[hK.shut n t e];exact bZ t (hI n t e).2.w ih
def Hg{p:Prop}(h:p:=by
 rw[List.length_erase_of_mem ha]at this;have:0<V.length:=List.length_pos_of_mem ha;simp only[pk]
 omega):p:=h
def DV{l V:List Nat}(h:l.Nodup)(hs:∀x,x∈l->x∈V):l.length<=V.length:=by
 induction l generalizing V with
 |nil=>simp|cons a l ih=>
  have ha:=hs a ag;have hn:=List.nodup_cons.1 h;have:=ih (V:=V.erase a) hn.2 λx hx=>(List.mem_erase_of_ne<|λe=>hn.1 (by rw[<-e];exact hx)).2 (hs x<|by simp[hx]);exact Hg
def Hh(hK:tS K R rk)(hI:Bs V K)(hV:V.length<=1000):yS K R where
 whole:=Cf hK hI
 small n t e:=(hI n t e).2.z
 len n:=by
  cases e:K n with
  |none=>rw[hK.open_ n e];simp[vars,vo]|some t=>
   have hn:=(hI n t e).1;exact qk (DV (cH (R n) qe) λx hx=>Xa hK hI n x hn<|by simpa using(bK (R n) [] x).1 hx) hV
def ClR(P:Nat->Prop)b K R L w gk wr:=
 ∃done D,IG pT wr (w.heap.size+1) b L done gk/\fe wr (λx=>(P x/\x<w.heap.size)\/w.heap.size+2<=x) w.heap.size D/\W8 K R D/\(∀n:Nat,(n:Int)∈done->D n≠none)/\Bq w wr
def KW w P b(κ:Nat->Ty):=∃D,fe w P b D/\∀n,(D n=none->κ n=.var n)/\(D n≠none->D n=some (bG<|κ n))
def Mr(P:Nat->Prop)R w(e:Ending)w':=∃wb,e=.returned (Mv wb)/\w.heap.size<=wb/\KW w' (λx=>P x\/w.heap.size<=x) wb R/\Bq w w'
variable {w:World} {b:Nat}
def TD(h:fe w P b K)(hb:P b)(hK:tS K R rk)(hF:yS K R):Cq 355 #[Mv b] w (Mr P R w):=by
 have HH:=ai h;have bl:=h.lt;have iN:= @run_makeMap Tryz.prog;obtain⟨L,m1,q1,q2,q3⟩:=h;have k1:Bq w (w.alloc<|.map #[] 0):=bw _;have⟨o,cnt,hrg,lR⟩:=(m1.af k1).range n9;rw[aZ]at hrg lR;have k2:Bq w ((w.alloc<|.map #[] 0).alloc o):=k1.alloc ag _;have HI:=ai lR;have K2:=ai k2;have S0:Hid (fe ((w.alloc<|.map #[] 0).alloc o) (λx=>(P x/\x<w.heap.size)\/w.heap.size+2<=x) w.heap.size<|λ_=>none):=ai<|(fe.new w _).af<|bw _;have Q:=And.intro q1<|And.intro q2 q3;go_enter func355,ntmps355
 go_wp2
 go_loopg[] cnt (λgk wr=>ClR P b K R L w gk wr)
 case atStart=>exact⟨[],λ_=>none,HI,uh S0,(λn t e=>by cases e),(λn hn=>by simp at hn),uh K2⟩
 case round=>
  obtain⟨done,D,HI,HS,HG,HD,HB⟩:=hrel;have WW:=HI.lt;have zr:=HB.size;rcases HI.next (P:=qu) GP with⟨ha,DT⟩|⟨x,u,w2,aB,hxd,Ps,DT,HI1,bq,xL,dU,hen⟩
  .go_wp2
   go_ret;refine⟨w.heap.size,rfl,br _,⟨D,HS.wide λx p=>by obtain p|p:=p;exact qi p.1;exact qh ae,λn=>⟨λe=>?_,λe=>?_⟩⟩,HB⟩
   .apply hK.open_ n
    cases hg:aX (n:Int) L with
    |none=>exact Q.1 n hg|some v=>exact absurd e<|HD n<|ha _ v hg
   .cases hd:D n with
    |none=>exact absurd hd e|some t=>rw[(HG n t hd).1]
  .obtain⟨n,rfl⟩:=Q.2.2 x u Ps;have F1:=xL;have kb:∀i,i<w.heap.size->w2.heap[i]? =w.heap[i]? :=λi hi=>(F1.block i ae ae).trans<|HB.block i hi;have cS:Bq w w2:=⟨F1.os.trans HB.os,F1.tape.trans HB.tape,F1.output.trans HB.output,ae,kb⟩;have akP:DU b w.heap.size K R (λx=>(P x/\x<w.heap.size)\/(w.heap.size+2<=x/\x<w2.heap.size)) D w2:=by
    refine⟨?_,?_,ae,qi ⟨hb,bl⟩,?_,?_,HG⟩
    .rintro x(p|p)<;>omega
    .rintro(p|p)<;>omega
    .exact HH.move cS.size (kb b bl) (λx _ hx=>kb x hx) (λx p hx=>qi ⟨p,hx⟩)
    .exact(HS.fr F1 ae (λx p _=>by obtain p|p:=p<;>omega)).low.wide λx p=>by
      obtain q|q:=p.1
      .exact qi q
      .exact qh ⟨q,p.2⟩
   have HC:=Hc (b:=b) (wb:=w.heap.size) hK hF (size<|R n) (rk n) n (br _) (br _) w2 _ D akP;have hKn:Hid (K n≠none):=by
    have⟨t,e,_⟩:=Q.2.1 n u Ps;rw[e];exact ai ag
   go_wp2_with fail;refine HC.mono ?_;rintro e w3⟨u3,D',rfl,hu3,hd3,G3,M3,hn3,F3⟩;obtain⟨tu,xu,rfl⟩:=hu3.iface;have z3:=F3.size;have N3:=hn3 hKn
   have S3:=ai (hd3.wide (Q:=λx=>(P x/\x<w.heap.size)\/w.heap.size+2<=x) λx p=>by
    obtain  (q|q)|q:=p.1
    .exact qi q
    .exact qh q.1
    .exact qh ae)
   have I3:=HI1.same (F3.block b ae ae)<|F3.block _ ae ae;have K3:=show Bq w w3 from⟨F3.os.trans cS.os,F3.tape.trans cS.tape,F3.output.trans cS.output,by have:=cS.size;omega,λi hi=>(F3.block i ae ae).trans<|cS.block i hi⟩
   go_wp2
   go_roundg aB
   case measure=>exact bq
   case rel=>
    refine⟨(n:Int)::done,D',I3,S3,G3,λm hm=>?_,K3⟩;obtain q|q:=List.mem_cons.1 hm
    .have:m=n:=ae;subst this;exact N3
    .exact M3 m (HD m q)
def Xb(P:Nat->Prop)x y w(e:Ending)w':=Bq w w'/\
 ((∃wb θ,e=.returned (.tuple #[Mv wb,.bool true])/\w.heap.size<=wb/\In.Bt θ x y/\(∀n,Whole<|θ n)/\(∀n,(vars []<|θ n).length<=1000)/\KW w' (λi=>P i\/w.heap.size<=i) wb θ)\/(e=.returned (.tuple #[.map none,.bool false])/\∀σ,sub σ x≠sub σ y))
def Xc{v}(hx:cW w P x v)(hy:cW w P y u)(hxs:size x<=48)(hys:size y<=48)(hxw:Whole x)(hyw:Whole y):Cq 344 #[v,u] w (Xb P x y w):=by
 have iN:= @run_makeMap qu;have k1:Bq w (w.alloc<|.map #[] 0):=bw _;have hVx:∀m,aD m x->m∈vars (vars [] x) y:=λm hm=>(bK y _ m).2<|qi<|(bK x [] m).2<|qh hm;have hVy:∀m,aD m y->m∈vars (vars [] x) y:=λm hm=>(bK y _ m).2<|qh hm;have hV1:∀m,m∈vars (vars [] x) y->aD m x\/aD m y:=λm hm=>by
  obtain q|q:=(bK y _ m).1 hm
  .obtain r|r:=(bK x [] m).1 q
   .simp at r
   .exact qi r
  .exact qh q
 have hVl:(vars (vars [] x) y).length<=1000:=by
  have h1:=cX (occs x) [];have h2:=cX (occs y)<|vars [] x;have h3:=cY x;have h4:=cY y;rw[<-cr]at h1 h2;simp at h1;omega
 have HC:=W5 (P:=λi=>P i/\i<w.heap.size) (b:=w.heap.size) (V:=vars (vars [] x) y) ae _ _ (λ_=>none) Ty.var (λ_=>0) x y (br _) (br _) _ v u (fe.new w _) tS.start (λn t e=>by cases e) ⟨hVx,hxs,hxw⟩ ⟨hVy,hys,hyw⟩ (hx.low.af k1) (hy.low.af k1);obtain⟨ta,xa,rfl⟩:=hx.iface;obtain⟨tb,xb,rfl⟩:=hy.iface;have K1:=ai k1;go_enter func344,ntmps344;go_wp2_with fail;refine HC.mono ?_;rintro e w1⟨ok,rfl,F1,h1,h2⟩;have kb:Bq w w1:=by
  have k:=uh K1;exact⟨F1.os.trans k.os,F1.tape.trans k.tape,F1.output.trans k.output,qk k.size F1.size,λi hi=>(F1.block i (by have:=k.size;omega) ae).trans<|k.block i hi⟩
 cases ok with
 |false=>
  have H2:=h2 rfl;have KB:=ai kb
  go_wp2
  go_ret2;refine⟨KB,qh ⟨rfl,λσ=>?_⟩⟩;have:=H2 σ
  rwa[cC,cC]at this
 |true=>
  have⟨K',R',Px,s1,s2,s3,s4,s5⟩:=h1 rfl;have HC:=TD (P:=λi=>P i\/w.heap.size<=i) (s1.wide λi p=>qi p.1) (qh<|br _) s2<|Hh s2 s3 hVl;have KB:=ai kb;have H3:=ku s2<|ku s3 s4;go_wp2_with fail;refine HC.mono ?_;rintro e w2⟨wb,rfl,hwb,HK,K2⟩
  go_wp2
  go_ret2;obtain⟨s2,s3,s4⟩:=H3;have kb:=uh KB;refine⟨kb.trans<|K2.mono kb.size,qi ⟨wb,R',rfl,qk kb.size hwb,⟨s4.same,λσ e n=>?_,λn h1 h2=>?_,λn m h1 h2=>?_⟩,Cf s2 s3,(Hh s2 s3 hVl).len,?_⟩⟩
  .have:=s4.least σ (by rw[cC,cC];exact e) n;simpa[sub]using this
  .cases e:K' n with
   |none=>exact s2.open_ n e|some t=>obtain q|q:=hV1 n (s3 n t e).1;exact absurd q h1;exact absurd q h2
  .exact hV1 m (Xa s2 s3 n m (by obtain q|q:=h1;exact hVx n q;exact hVy n q) h2)
  .obtain⟨D,d1,d2⟩:=HK;exact⟨D,d1.wide λi p=>by obtain  (p|p)|p:=p;exact qi p;exact qh p;exact qh<|qk kb.size p,d2⟩
end
section
variable {w:World} {b:Nat} {κ:Nat->Ty}
theorem KW.move(h:KW w P b κ)(hs:w.heap.size<=w'.heap.size)(hb:w'.heap[b]? =w.heap[b]?)(hp:∀x,P x->x<w.heap.size->w'.heap[x]? =w.heap[x]?)(hq:∀x,P x->x<w.heap.size->Q x):KW w' Q b κ:=by
 obtain⟨D,h1,h2⟩:=h;exact⟨D,h1.move hs hb hp hq,h2⟩
def KW.af(h:KW w P b κ)(hb:Bq w w'):KW w' P b κ:=by obtain⟨D,h1,h2⟩:=h;exact⟨D,h1.af hb,h2⟩
def KW.wide(h:KW w P b κ)(hq:∀x,P x->Q x):KW w Q b κ:=by obtain⟨D,h1,h2⟩:=h;exact⟨D,h1.wide hq,h2⟩
def KW.fr{S}(h:KW w P b κ)(hf:Fr S w w')(hb:¬S b)(hS:∀x,P x->x<w.heap.size->¬S x):KW w' P b κ:=by obtain⟨D,h1,h2⟩:=h;exact⟨D,h1.fr hf hb hS,h2⟩
def KW.lt(h:KW w P b κ):b<w.heap.size:=by obtain⟨D,h1,h2⟩:=h;exact h1.lt
def xN(h:∀n,(D n=none->κ n=.var n)/\(D n≠none->D n=some (bG<|κ n)))n:DQ D n=bG (κ n):=by
 rw[DQ]
 cases e:D n with
 |none=>rw[(h n).1 e,G9];rfl|some t=>grind
structure vN(κ:Nat->Ty):Prop where
 wh:∀n,Whole<|κ n
 len:∀n,(vars []<|κ n).length<=1000000
theorem vN.sz(h:vN κ)n:size (bG<|κ n)<=1000001:=by have:=fh (h.wh n) (h.len n) aK;omega
structure TW w P S x v:Prop where
 ex:∃x',cW w P x' v/\cZ x' x/\size x'<=S
 wh:Whole x
theorem TW.move{S}{x}{v}(h:TW w P S x v)(hs:w.heap.size<=w'.heap.size)(hb:∀b,P b->b<w.heap.size->w'.heap[b]? =w.heap[b]?)(hq:∀b,P b->b<w.heap.size->Q b):TW w' Q S x v:=by
 obtain⟨⟨x',h1,h2,h3⟩,h4⟩:=h;exact⟨⟨x',h1.move hs hb hq,h2,h3⟩,h4⟩
def TW.af{v:Value}(h:TW w P S x v)(hb:Bq w w'):TW w' P S x v:=h.move hb.size (λb _ hz=>hb.block b hz)<|λ_ p _=>p
def TW.wide{v:Value}(h:TW w P S x v)(hq:∀x,P x->Q x):TW w Q S x v:=h.move (br _) (λ_ _ _=>rfl)<|λb p _=>hq b p
def TW.fr{v:Value}(h:TW w P S x v)(hf:Fr F w w')(hS:∀b,P b->b<w.heap.size->¬F b):TW w' P S x v:=h.move hf.size (λb p z=>hf.block b z<|hS b p z)<|λ_ p _=>p
def TW.iface{S}{x}{v}(h:TW w P S x v):∃a y,v=.iface a y:=by obtain⟨⟨x',h1,_⟩,_⟩:=h;exact h1.iface
def TW.le{S'}{v:Value}(h:TW w P S x v)(hs:S<=S'):TW w P S' x v:=by obtain⟨⟨x',h1,h2,h3⟩,h4⟩:=h;exact⟨⟨x',h1,h2,qk h3 hs⟩,h4⟩
def TW.of{v:Value}(h:cW w P x v)(hw:Whole x)(hs:size x<=S):TW w P S x v:=⟨⟨x,h,cZ.refl x,hs⟩,hw⟩
def t_(h:KW w P b κ)(hb:P b)(hf:vN κ)(hS:S<=900000){v:Value}(hx:TW w Q S x v):Cq 314 #[Mv b,v] w (Pr (bG<|sub κ x) P w):=by
 obtain⟨D,h1,h2⟩:=h;obtain⟨⟨x',t1,t2,t3⟩,t4⟩:=hx;have e:bG (sub (DQ D) x')=bG (sub κ x):=by
  refine cZ.xM (t2.sub λn _=>?_)<|bZ x t4 λn _=>hf.wh n;rw[xN h2 n];exact cZ.Ce _<|hf.wh n
 rw[<-e];refine GQ h1 hb t1 ae ?_;have q:=im (DQ D) 1000001 x' (λn _=>by rw[xN h2 n];exact hf.sz n) aK;have:1000001*size x'<=1000001*900000:=qp _ ae;omega
def TW.Xd{v:Value}(hx:TW w P S x v)(hf:vN κ)(hS:S<=900000):size (bG<|sub κ x)<=1000000000000:=by
 obtain⟨⟨x',t1,t2,t3⟩,t4⟩:=hx;have hw:=bZ x t4 λn _=>hf.wh n;have e:=cZ.xM (t2.sub λn _=>cZ.Ce _<|hf.wh n) hw;have q:=im (λn=>bG<|κ n) 1000001 x' (λn _=>hf.sz n) aK;have q2:1000001*size x'<=1000001*900000:=qp _ ae;have hl:(vars []<|sub κ x).length<=1000001*900000:=by
  have h1:=gW<|sub κ x;rw[<-e,gW]at h1;rw[<-h1,cr];have h2:=cX (occs<|sub (λn=>bG<|κ n) x') [];have h3:=cY<|sub (λn=>bG<|κ n) x';simp only[ua]at h2;omega
 have:=fh hw hl aK;omega
end
abbrev guW(f:Fl)(vl vr:Value):Value:=.iface 454<|.agg #[Nv f.kind,Nv f.al,Nv f.to,vl,vr]
structure qO w P(x:In.Ft)(vl vr:Value):Prop where
 rK:x.f.kind=7->vl=.nilIface/\vr=.nilIface
 apart:x.f.kind=6->dB w P x.l vl/\dB w P x.r vr
 k:x.f.kind=6\/x.f.kind=7
def acj(P:Nat->Prop)κ u x y f t w(e:Ending)w':=Bq w w'/\∃o,In.ub x y f t ⟨κ,u⟩ o/\match o with
 |.ok (_,s)=>∃b,e=.returned (Mv b)/\w.heap.size<=b/\KW w' (λi=>P i\/w.heap.size<=i) b s.k/\∀n,Whole (s.k n)|.error z=>∃vl vr,e=.panicked [{v:=guW z.f vl vr,recovered:=false}]/\qO w' (λi=>P i\/w.heap.size<=i) z vl vr
section
variable {w:World}
def mM f t:Cq 316 #[.agg #[Iv f,Iv t]] w λe w'=>e=.returned (.agg #[Iv 7,Iv f,Iv t,.nilIface,.nilIface])/\Bq w w':=by
 go_enter func316,ntmps316
 go_wp2
 exact bodyPost_ret (v:=Av #[Iv 7,Iv f,Iv t,Zv,Zv]) (by simp[results,Tryz.results316,go_sem]) rfl ⟨rfl,(bw _).alloc ag _⟩
def DW f t ta tb xa xb:Cq 345 #[.agg #[Iv f,Iv t],.iface ta xa,.iface tb xb] w λe w'=>e=.returned (.agg #[Iv 6,Iv f,Iv t,.iface ta xa,.iface tb xb])/\Bq w w':=by
 go_enter func345,ntmps345
 go_wp2
 exact bodyPost_ret (v:=Av #[Iv 6,Iv f,Iv t,Fv ta xa,Fv tb xb]) (by simp[results,Tryz.results345,go_sem]) rfl ⟨rfl,(bw _).alloc ag _⟩
variable {b:Nat} {κ:Nat->Ty}
def DX t(hw:Whole t):(48<sz (bG t)↔48<size t)/\(size t<=48->bG t=t):=by
 refine⟨(cZ.Ce t hw).aeE hw,λh=>yR h hw⟩
def Hi(h:KW w P b κ)(hb:P b)(hf:vN κ)(hS:S<=900000){v:Value}(hx:TW w P S x v)(hy:TW w P S y u)f t us:
 Cq 324 #[Mv b,v,u,.agg #[Nv f,Nv t]] w (acj P κ us x y f t w):=by
 have⟨k0,B0⟩:=nK w #[Nv f,Nv t] 131;have hxw:=bZ x hx.wh λn _=>hf.wh n;have hyw:=bZ y hy.wh λn _=>hf.wh n;have H1:=t_ (h.af k0) hb hf hS<|hx.af k0;have HH:=ai h;have K0:=ai k0;obtain⟨ta,xa,rfl⟩:=hx.iface;obtain⟨tb,xb,rfl⟩:=hy.iface;clear h k0;go_enter func324,ntmps324;go_wp2_with fail;refine H1.mono ?_;rintro e w1⟨u1,rfl,vD,k1⟩;have KK1:=K0.trans<|k1.mono K0.size;have H2:=t_ (HH.af KK1) hb hf hS<|hy.af KK1;have U1:=vD.wide (Q:=λi=>P i\/w.heap.size<=i) λi p=>by obtain p|p:=p;exact Or.inl p;exact Or.inr<|Nat.le_trans K0.size p
 have B1:=B0.below k1;obtain⟨yO,yP,rfl⟩:=vD.iface;clear vD k1 H1 B0;go_wp2_with fail;refine H2.mono ?_;rintro e w2⟨u2,rfl,vE,k2⟩;have Xe:=KK1.trans<|k2.mono KK1.size;have U1':=U1.af k2;have U2':=vE.wide (Q:=λi=>P i\/w.heap.size<=i) λi p=>by obtain p|p:=p;exact qi p;exact qh<|qk KK1.size p
 have B2:=B1.below k2;obtain⟨tb1,xb1,rfl⟩:=vE.iface;have S1:=po _ w2 _ _ U1'<|hx.Xd hf hS;have S2:=λ(W:World)(hk:Bq w2 W)=>po _ W _ _ (U2'.af hk)<|hy.Xd hf hS;obtain⟨n1,N1⟩:∃n,n=sz (bG<|sub κ x):=⟨_,rfl⟩;obtain⟨n2,N2⟩:∃n,n=sz (bG<|sub κ y):=⟨_,rfl⟩;rw[<-N1]at S1;rw[<-N2]at S2;clear vE k2 H2 B1 U1 KK1;go_wp2_with fail;refine S1.mono ?_;rintro e w3⟨rfl,K3⟩;have S2:=S2 w3 K3;have B3:=B2.below K3;clear S1 B2;go_wp2_with fail;refine S2.mono ?_;rintro e w4⟨rfl,k4⟩;have B4:=ai<|B3.below k4;have k34:=K3.trans<|k4.mono K3.size;have KK4:=Xe.trans<|k34.mono Xe.size;have U3:=U1'.af k34;have U4:=U2'.af k34;clear k4 S2 B3 k34 K3 U1' U2' Xe;have⟨c4,f4,z4⟩:=uh B4;have e1:=DX (sub κ x) hxw;have e2:=DX (sub κ y) hyw;rw[<-N1]at e1;rw[<-N2]at e2;have E1:=ai e1;have E2:=ai e2;clear e1 e2;have KX:=hf.wh;by_cases bq:n1<n2
 all_goals(
  by_cases TE:48<n1\/48<n2
  .first|(have hm:(48:Int)<(n1:Int):=by omega)|(have hm:(48:Int)<(n2:Int):=by omega)
   have HT:=mM (w:=w4) (f:Int) (t:Int);go_wp2_with fail;refine HT.mono ?_;rintro e w5⟨rfl,k5⟩;have K5:=ai k5;clear k5 HT;go_wp2_with fail;have Xf:=KK4.trans<|K5.mono KK4.size;refine⟨rfl,Xf,.error<|In.rK f t,qi ⟨?_,rfl⟩,Zv,Zv,rfl,⟨λ_=>⟨rfl,rfl⟩,(λh=>Mn),qh rfl⟩⟩;obtain q|q:=TE
   .exact qi (E1.1.1 q)
   .exact qh (E2.1.1 q)
  .have hm1:¬(48:Int)<(n1:Int):=ae;have hm2:¬(48:Int)<(n2:Int):=ae;have s1:size (sub κ x)<=48:=by have:=E1.1;omega
   have s2:size (sub κ y)<=48:=by have:=E2.1;omega
   have V1:=U3;have V2:=U4;rw[(uh E1).2 s1]at V1;rw[(uh E2).2 s2]at V2;have HU:=Xc V1 V2 s1 s2 hxw hyw;go_wp2_with fail;refine HU.mono ?_;rintro e w5⟨k5,hp⟩;have B5:=ai<|B4.below k5;have⟨c5,f5,z5⟩:=uh B5;have K5:=ai k5;have KK5:=ai<|KK4.trans<|k5.mono KK4.size;have ack:=ku s1 s2;have z45:=k5.size;have z04:=KK4.size;clear c4 f4 z4 HU s1 s2 k5;obtain⟨wb,θ,rfl,hwb,hM,hWh,hLn,hKW⟩|⟨rfl,HN⟩:=hp
   .have hko:KW w5 (λi=>P i\/w.heap.size<=i) b κ:=(HH.af KK5).wide λi p=>qi p;have hkn:=hKW.wide λi p=>by
     obtain p|p:=p
     .exact p
     .exact qh ae
    obtain⟨D1,d1,d2⟩:=hko;obtain⟨D2,e1,e2⟩:=hkn;have dU:∀n t,D1 n=some t->size t<=1000000000000/\size (sub (DQ D2) t)<=1000000000000:=λn t ht=>by
     have h1:=(d2 n).2 (by rw[ht];simp);rw[ht]at h1;injection h1 with h1;subst h1;have h2:=hf.sz n;have h3:=im (DQ D2) 1001 (bG<|κ n) (λm _=>by rw[xN e2 m];have:=fh (hWh m) (hLn m) aK;omega) aK;have h4:1001*size (bG<|κ n)<=1001*1000001:=qp _ h2;exact⟨ae,ae⟩
    have HT:=acd d1 e1 (qh ae) dU;have HD:=ku d2 e2;have HMW:=ku hM hWh;clear d1 e1 d2 e2 dU hKW hLn hM hWh;go_wp2_with fail;refine HT.mono ?_;rintro e w6⟨b3,rfl,mI,S3,K6⟩;clear HT
    go_wp2
    go_ret;have Xf:=KK5.trans<|K6.mono KK5.size;obtain⟨d2,e2⟩:=HD;obtain⟨hM,hWh⟩:=HMW;have hwt:∀n,Whole<|sub θ<|κ n:=λn=>bZ _ (KX n) λm _=>hWh m;refine⟨Xf,.ok ((),⟨λn=>sub θ<|κ n,us⟩),qh ⟨ack.1,ack.2,qi ⟨θ,hM,rfl⟩⟩,b3,rfl,ae,⟨yL D1 D2,S3.wide λi p=>?_,λn=>⟨λq=>?_,λq=>?_⟩⟩,hwt⟩
    .obtain p|p:=p
     .exact p
     .exact qh ae
    .rw[yL]at q
     cases hd:D1 n with
     |none=>
      rw[hd]at q;show sub θ (κ n)=_;rw[(d2 n).1 hd,sub,(e2 n).1 q]
     |some t=>rw[hd]at q;cases q
    .rw[yL]
     cases hd:D1 n with
     |none=>
      show D2 n=some (bG<|sub θ<|κ n);rw[(d2 n).1 hd,sub];refine(e2 n).2 λr=>q ?_;rw[yL];rw[hd];exact r
     |some t=>
      have h1:=(d2 n).2 (by rw[hd];simp);rw[hd]at h1;injection h1 with h1;subst h1;show some (bG<|sub (DQ D2)<|bG<|κ n)=some (bG<|sub θ<|κ n);congr 1;refine cZ.xM ((cZ.Ce _<|KX n).sub λm _=>?_)<|hwt n;rw[xN e2 m];exact cZ.Ce _<|hWh m
   .have HA:=DW (w:=w5) (f:Int) (t:Int) yO tb1 yP xb1;go_wp2_with fail;refine HA.mono ?_;rintro e w6⟨rfl,K6⟩;clear HA;go_wp2_with fail;have k46:=K5.trans<|K6.mono K5.size;have Xf:=KK5.trans<|K6.mono KK5.size;refine⟨rfl,Xf,.error ⟨⟨6,f,t⟩,sub κ x,sub κ y⟩,qh ⟨ack.1,ack.2,qh ⟨HN,rfl⟩⟩,Fv yO yP,Fv tb1 xb1,rfl,⟨(λh=>Mn),λ_=>⟨?_,?_⟩,qi rfl⟩⟩
    .exact(V1.af k46).v hxw
    .exact(V2.af k46).v hyw)
end
section
variable [DecidableEq κ] {enc:κ->Value}
def ud(x:κ):List (κ×Value)->List (κ×Value)
 |[]=>[]|p::l=>if p.1=x then l else p::ud x l
def Hj(x:κ):∀(L:List (κ×Value)),List.Sublist (ud x L) L
 |[]=>List.Sublist.slnil|p::l=>by
  rw[ud];split
  .exact List.sublist_cons_self _ _
  .exact(Hj x l).cons_cons p
def yT(x y:κ):∀{L:List (κ×Value)},(L.map (·.1)).Nodup->aX y (ud x L)=if x=y then none else aX y L
 |[],_=>by simp[ud,aX]|p::l,h=>by
  simp only[jd,jl]at h;unfold ud;by_cases e:p.1=x
  .rw[if_pos e];by_cases q:x=y
   .rw[if_pos q]
    cases hg:aX y l with
    |none=>rfl|some v=>exact absurd (r9.1 (by rw[hg];rfl)) (by rw[<-q,<-e];exact h.1)
   .rw[if_neg q]
    conv=>rhs;unfold aX
    rw[if_neg<|λr=>q<|e.symm.trans r]
  .rw[if_neg e];unfold aX;rw[yT x y h.2];by_cases q:p.1=y
   .rw[if_pos q,if_pos q,if_neg<|λr=>e<|q.trans r.symm]
   .rw[if_neg q,if_neg q]
def PH(x:κ):∀(L:List (κ×Value))(es:List MapEntry)(i j:Nat)(u:Value),es.map (λe=>(e.key,e.val))=L.map (λp=>(enc p.1,p.2))->xI x L i=some (j,u)->i<=j/\(es.eraseIdx<|j-i).map (λe=>(e.key,e.val))=(ud x L).map (λp=>(enc p.1,p.2))
 |[],es,i,j,u,_,h=>by simp[xI]at h|p::l,[],i,j,u,h,_=>tW|p::l,e0::es,i,j,u,mL,h=>by
  simp only[jd,List.cons.injEq,Prod.mk.injEq]at mL;rw[xI]at h;split at h
  .rename_i hp;simp only[Option.some.injEq,Prod.mk.injEq]at h;obtain⟨rfl,rfl⟩:=h;refine⟨br _,?_⟩;simp[ud,hp,mL]
  .rename_i hp;have⟨h1,h4⟩:=PH x l es (i+1) j u mL.2 h;refine⟨ae,?_⟩;rw[show j-i=(j-(i+1))+1 by omega];simp[ud,hp,h4,mL]
def ue(x:κ):∀(L:List (κ×Value)),aX x L=none->ud x L=L
 |[],_=>rfl|p::l,h=>by
  rw[aX]at h;rw[ud];split
  .rename_i e;rw[if_pos e]at h;cases h
  .rename_i e;rw[if_neg e]at h;rw[ue x l h]
variable {w:World} {b:Nat} {L:List (κ×Value)} {P:Program} {t:TypeId}
def PK{p:Prop}(h:p:=by
 simp[Builtin.delete_,run_underlying ht,vh hb,K.chk,hf,vg _ hb,ki,setBlock]):p:=h
def MG.del(K:KL P k enc (λ_ _=>True))(h:MG enc w b L)(ht:P.underlying t=some (.map k e))x ty:∃o,(Builtin.delete_ #[t,k] ty #[Mv b,enc x]).run P w=.ok (.tuple #[]) (setBlock w b o)/\MG enc (setBlock w b o) b (ud x L):=by
 obtain⟨es,clock,hb,mL,hn,hk,hd⟩:=h;have hf:=K.fin x L es.toList w trivial (λ_ _=>trivial) mL
 cases xH:xI x L 0 with
 |none=>
  rw[xH]at hf;refine⟨.map es clock,?_,es,clock,heap_setBlock_same hb _,?_,hn,hk,?_⟩
  .exact PK
  .rw[ue x L<|n8 x L 0 xH];exact mL
  .rw[ue x L<|n8 x L 0 xH];exact hd
 |some p=>
  obtain⟨j,u⟩:=p;rw[xH]at hf;have⟨_,h4⟩:=PH (enc:=enc) x L es.toList 0 j u mL xH;have⟨_,e0,h2,_,_⟩:=DP (enc:=enc) x u L es.toList 0 j u mL xH;have hjs:j<es.size:=by
   have:=(List.getElem?_eq_some_iff.1 h2).1;simpa using this
  have amh:(es.eraseIdxIfInBounds j).toList=es.toList.eraseIdx j:=by
   rw[Array.eraseIdxIfInBounds];rw[dif_pos hjs];simp
  refine⟨.map (es.eraseIdxIfInBounds j) clock,?_,_,clock,heap_setBlock_same hb _,?_,?_,?_,?_⟩
  .exact PK
  .grind
  .grind
  .grind
  .exact hd.sublist ((Hj x L).map _)
def Hk(K:KL P k enc (λ_ _=>True))(ht:P.underlying t=some (.map k e)){a}{Q}(hg:o.guard=none)m x(rJ:o.op=Op.call {callee:=Callee.builtin Builtin.delete,args:=#[m,x],argTypes:=#[t,k]})(hm:a.eval m=Mv b)(hM:MG enc w b L)key(hx:a.eval x=enc key)(hK:∀w',MG enc w' b (ud key L)->One b w w'->wpList P ops Q rest (a.put o.dst<|.tuple #[]) w'):
 wpList P ops Q (o::rest) a w:=by
 refine wpList_plain hg λK' hK'=>?_;have⟨ob,ls,r1⟩:=hM.del K ht key o.type;rw[Oper.wp,execOp];simp only[rJ,resolve,invoke,builtin,Sem.run_bind,Sem.run_pure,Result.andThen_ok,List.map_toArray,jd,jz,hm,hx,ls];exact hK' _ _<|hK _ r1<|One.set w b ob
end
abbrev PL:KL qu 9 xq (λ_ _=>True):=KL.str qx
def str_inj:∀x y,xq x=xq y->x=y:=yG
def qP(w:World)(P:Nat->Prop)(sa:Option Addr)l:=l=[]\/∃g,sa=some ⟨g,0,none⟩/\P g/\g<w.heap.size/\∀i(h:i<l.length),w.cell? ⟨g,i,none⟩=some (Nv<|l[i])
def nL w P(c:zv)(v:Value):=∃ta xa sa sc,v=.agg #[.iface ta xa,.slice sa c.any.length sc]/\TW w P 900000 c.of (.iface ta xa)/\qP w P sa c.any
def bP w P b(Γ:zo):=∃L,MG xq w b L/\(∀x,aX x L=none->Γ x=none)/\∀x v,aX x L=some v->∃c,Γ x=some c/\nL w P c v
section
variable {w:World} {b:Nat}
theorem qP.move{l}(h:qP w P sa l)(hs:w.heap.size<=w'.heap.size)(hb:∀b,P b->b<w.heap.size->w'.heap[b]? =w.heap[b]?)(hq:∀b,P b->b<w.heap.size->Q b):qP w' Q sa l:=by
 obtain h|⟨g,h1,h2,h3,h4⟩:=h
 .exact qi h
 .exact qh ⟨g,h1,hq g h2 h3,ql h3 hs,λi hi=>(qz (a:=⟨g,i,none⟩)<|hb g h2 h3).trans<|h4 i hi⟩
theorem nL.move{c}{v}(h:nL w P c v)(hs:w.heap.size<=w'.heap.size)(hb:∀b,P b->b<w.heap.size->w'.heap[b]? =w.heap[b]?)(hq:∀b,P b->b<w.heap.size->Q b):nL w' Q c v:=by
 obtain⟨ta,xa,sa,sc,h1,h2,h3⟩:=h;exact⟨ta,xa,sa,sc,h1,h2.move hs hb hq,h3.move hs hb hq⟩
def nL.af{c:zv}{v:Value}(h:nL w P c v)(hb:Bq w w'):nL w' P c v:=h.move hb.size (λb _ hz=>hb.block b hz)<|λ_ p _=>p
def bP.lt(h:bP w P b Γ):b<w.heap.size:=qAr
theorem bP.move(h:bP w P b Γ)(hs:w.heap.size<=w'.heap.size)(bN:w'.heap[b]? =w.heap[b]?)(hb:∀b,P b->b<w.heap.size->w'.heap[b]? =w.heap[b]?)(hq:∀b,P b->b<w.heap.size->Q b):bP w' Q b Γ:=by
 obtain⟨L,h1,h2,h3⟩:=h;exact⟨L,h1.same bN,h2,λx v hx=>by have⟨c,e,hc⟩:=h3 x v hx;exact⟨c,e,hc.move hs hb hq⟩⟩
def bP.af(h:bP w P b Γ)(hb:Bq w w'):bP w' P b Γ:=h.move hb.size (hb.block b h.lt) (λb _ hz=>hb.block b hz)<|λ_ p _=>p
def bP.wide(h:bP w P b Γ)(hq:∀x,P x->Q x):bP w Q b Γ:=h.move (br _) rfl (λ_ _ _=>rfl) (λb p _=>hq b p)
def bP.fr{S}(h:bP w P b Γ)(hf:Fr S w w')(hb:¬S b)(hS:∀x,P x->x<w.heap.size->¬S x):bP w' P b Γ:=h.move hf.size (hf.block b h.lt hb) (λx p z=>hf.block x z<|hS x p z)<|λ_ p _=>p
def bP.new(w:World)P:bP (w.alloc<|.map #[] 0) P w.heap.size (λ_=>none):=⟨[],MG.new _ w,λ_ _=>rfl,λx v h=>qBg⟩
def oe{a}{F}(hg:o.guard=none)m x v(rJ:o.op=k9 216 m x v\/o.op=kx 216 m x v)(hm:a.eval m=Mv b)(h:bP w P b Γ)(hP:¬P b){c:zv}(hc:nL w P c u)n(hx:a.eval x=.string n)(hv:a.eval v=u)(hK:∀w',bP w' P b (zh Γ n c)->One b w w'->wpList qu ops F rest (a.put o.dst undef) w'):
 wpList qu ops F (o::rest) a w:=by
 obtain⟨L,h1,h2,h3⟩:=h;refine cd PL dV hg m x v rJ hm h1 n u hx hv λw' hM o=>hK w' ⟨_,hM,λy hy=>?_,λy z hy=>?_⟩ o
 .rw[aO]at hy;by_cases e:n=y
  .grind
  .rw[if_neg e]at hy;simp only[zh,if_neg<|kw e];exact h2 y hy
 .have mv:∀{c v},nL w P c v->nL w' P c v:=λh=>h.move LB (λx p _=>o.block x<|λe=>hP<|e▸p)<|λ_ p _=>p;rw[aO]at hy;by_cases e:n=y
  .rw[if_pos e]at hy;injection hy with hy;subst hy e;exact⟨c,by simp[zh],mv hc⟩
  .rw[if_neg e]at hy;have⟨c',q1,q2⟩:=h3 y z hy;exact⟨c',by simp only[zh,if_neg<|kw e];exact q1,mv q2⟩
open Classical in
noncomputable def ovD (wQ Lz:zo) (done:List BA) (x:BA):Option zv:=if x∈done then zu wQ Lz x else Lz x
def aiP P b1 b2(Lz wQ:zo)L w gk wr:=
 ∃done,IG xq wr w.heap.size b2 L done gk/\bP wr P b1 (ovD wQ Lz done)/\Fr (λi=>i=b1) w wr
def acm(h1:bP w P b1 Lz)(h2:bP w P b2 wQ)(hP:¬P b1)(bq:∀x,P x->x<w.heap.size)(hn:b1≠b2):
 Cq 348 #[Mv b1,Mv b2] w λe w'=>e=.returned (.tuple #[])/\bP w' P b1 (zu wQ Lz)/\Fr (λi=>i=b1) w w':=by
 have l1:=h1.lt;have l2:=h2.lt;obtain⟨L,m2,q1,q2⟩:=h2;obtain⟨o,cnt,hrg,lR⟩:=m2.range dV;have k1:Bq w (w.alloc o):=bw _;have HI:=ai lR;have H1:=h1.af k1;have K1:=ai k1;have Q:=And.intro q1 q2;go_enter func348,ntmps348
 go_wp2
 go_loopg[] cnt (λgk wr=>aiP P b1 b2 Lz wQ L w gk wr)
 case atStart=>
  refine⟨[],HI,?_,Fr.of K1⟩;have e:ovD wQ Lz []=Lz:=by funext x;simp[ovD]
  rw[e];exact H1
 case round=>
  obtain⟨done,HI,HE,hF⟩:=hrel;have HF:=ai hF;have WW:=HI.lt;have zr:=hF.size;rcases HI.next (P:=qu) str_inj with⟨ha,DT⟩|⟨x,u,w2,aB,hxd,Ps,DT,Hl,Hn,xL,dU,hen⟩
  .go_wp2
   go_end0;refine⟨rfl,?_,HF⟩;have e:ovD wQ Lz done=zu wQ Lz:=by
    funext y;unfold ovD;by_cases q:y∈done
    .rw[if_pos q]
    .rw[if_neg q];have:wQ y=none:=by
      cases hg:aX y L with
      |none=>exact Q.1 y hg|some v=>exact absurd (ha _ v hg) q
     simp only[zu,this]
   rw[<-e];exact HE
  .obtain⟨c,EC,hc⟩:=Q.2 x u Ps;have Bp:=xL;have nP:∀i,P i->¬i=w.heap.size:=λi hi e=>by have:=bq i hi;omega
   have E2:=HE.fr Bp ae<|λi p _=>nP i p;have c2:=(hc.move (w':=wr) zr (λi p z=>HF.block i z<|λe=>hP<|e▸p)<|λ_ p _=>p).move (w':=w2) (Q:=P) ae (λi p z=>Bp.block i z<|nP i p)<|λ_ p _=>p;obtain⟨ta,xa,sa,sc,rfl,t1,t2⟩:=c2;have tT:Bq w2 (w2.alloc<|.cells #[.iface ta xa,.slice sa c.any.length sc] 467):=bw _;have E3:=E2.af tT;have C3:=(nL.af ⟨ta,xa,sa,sc,rfl,t1,t2⟩ tT);have I3:=Hl.same (tT.block b2 ae)<|tT.block w.heap.size ae;have K3:=ai tT;go_wp2_with(refine oe rfl _ _ _ (qh rfl) rfl E3 hP C3 x rfl rfl ?_;intro w4 H' O';have S4:=ai H';have O4:=ai O';clear H' O');go_roundg aB
   case measure=>exact Hn
   case rel=>
    have o:=uh O4;have k3:=uh K3;have f1:=Bp;refine⟨x::done,I3.same (o.block b2<|kw hn)<|o.block _ ae,?_,?_⟩
    .have e:ovD wQ Lz (x::done)=zh (ovD wQ Lz done) x c:=by
      funext y;by_cases q:y=x
      .subst q;simp[ovD,zh,zu,EC]
      .simp only[ovD,zh,if_neg q];by_cases r:y∈done
       .rw[if_pos<|jh _ r,if_pos r]
       .rw[if_neg<|λh=>(List.mem_cons.1 h).elim q r,if_neg r]
     rw[e];exact S4
    .have hF:=uh HF;refine⟨o.os.trans<|k3.os.trans<|f1.os.trans hF.os,o.tape.trans<|k3.tape.trans<|f1.tape.trans hF.tape,o.output.trans<|k3.output.trans<|f1.output.trans hF.output,by rw[o.size];have:=k3.size;omega,λi hi hni=>?_⟩;rw[o.block i hni,k3.block i ae,f1.block i ae ae,hF.block i hi hni]
def Ho(h:bP w P b Γ):Cq 347 #[Mv b] w λe w'=>e=.returned (Mv w.heap.size)/\bP w' P w.heap.size Γ/\Bq w w'/\w'.heap.size=w.heap.size+1:=by
 obtain⟨L,h1,h2,h3⟩:=h;refine(WS h1).mono ?_;rintro e w'⟨rfl,m,k,z⟩;exact⟨rfl,⟨L,m,h2,λx v hx=>by have⟨c,q1,q2⟩:=h3 x v hx;exact⟨c,q1,q2.af k⟩⟩,k,z⟩
def pu P(Γ:zo)w(e:Ending)w':=∃b,e=.returned (Mv b)/\w.heap.size<=b/\bP w' P b Γ/\Bq w w'
def bP.low(h:bP w P b Γ):bP w (λx=>P x/\x<w.heap.size) b Γ:=h.move (br _) rfl (λ_ _ _=>rfl) (λb p z=>⟨p,z⟩)
def Cg(h1:bP w P b1 Lz)(h2:bP w P b2 wQ):Cq 331 #[Mv b1,Mv b2] w (pu P (zu wQ Lz) w):=by
 have HC:=Ho h1.low;have l2:=h2.lt;have H2:=ai h2.low;go_enter func331,ntmps331;go_wp2_with fail;refine HC.mono ?_;rintro e w1⟨rfl,h3,K1,Z1⟩;have HD:=acm h3 (H2.af K1) ae (λx p=>ae) ae;go_wp2_with fail;refine HD.mono ?_;rintro e w2⟨rfl,H4,Tl⟩
 go_wp2
 go_ret;have k:=K1;have f:=Tl;refine⟨w.heap.size,rfl,br _,H4.wide λx p=>p.1,⟨f.os.trans k.os,f.tape.trans k.tape,f.output.trans k.output,qk k.size f.size,λi hi=>(f.block i (by have:=Z1;omega) ae).trans<|k.block i hi⟩⟩
def jM(Γ:zo)x(c:zv):zu (zh (λ_=>none) x c) Γ=zh Γ x c:=by
 funext y;unfold zu zh;by_cases e:y=x
 .simp[e]
 .simp[e]
def xP(h:bP w P b Γ)x{c:zv}{v:Value}(hc:nL w P c v):Cq 319 #[Mv b,.string x,v] w (pu P (zh Γ x c) w):=by
 have iN:= @run_makeMap Tryz.prog;have hc0:=hc;obtain⟨ta,xa,sa,sc,rfl,t1,t2⟩:=hc;have k1:Bq w ((w.alloc<|Cv #[Fv ta xa,Lv sa c.any.length sc] 467).alloc<|.map #[] 0):=(bw _).alloc ag _;have E1:=bP.new (w.alloc<|Cv #[Fv ta xa,Lv sa c.any.length sc] 467)<|λi=>P i/\i<w.heap.size;have C1:=(hc0.move (Q:=λi=>P i/\i<w.heap.size) (br _) (λ_ _ _=>rfl)<|λi p z=>⟨p,z⟩).af k1;have K1:=ai k1;rw[aZ]at E1;go_enter func319,ntmps319;go_wp2_with(refine oe rfl _ _ _ (Or.inl rfl) rfl E1 ae C1 x rfl rfl ?_;intro w4 H' O';have S4:=ai H';have O4:=ai O';clear H' O');have o:=uh O4;have k:=uh K1;have kk:Bq w w4:=⟨o.os.trans k.os,o.tape.trans k.tape,o.output.trans k.output,by rw[o.size];exact k.size,λi hi=>(o.block i ae).trans<|k.block i hi⟩;have HW:=Cg (h.af kk)<|S4.wide λi p=>p.1;rw[jM]at HW;refine HW.mono ?_;rintro e w5⟨b5,rfl,hb5,H5,K5⟩;have KK:=ai kk
 go_wp2
 go_ret;have kk:=uh KK;exact⟨b5,rfl,qk kk.size hb5,H5,kk.trans<|K5.mono kk.size⟩
def TF(h:bP w P b Γ)x:Cq 358 #[Mv b,.string x] w (pu P (vd Γ x) w):=by
 have HC:=Ho h.low;go_enter func358,ntmps358;go_wp2_with fail;refine HC.mono ?_;rintro e w1⟨rfl,⟨L,M1,h2,h3⟩,K1,z1⟩;have Q:=And.intro h2 h3;go_wp2_with(refine Hk PL dV rfl _ _ rfl rfl M1 x rfl ?_;intro w4 H' O';have S4:=ai H';have O4:=ai O';clear H' O');go_ret;have o:=uh O4;have k:=K1;obtain⟨h2,h3⟩:=Q;have hn:=M1.nodup;refine⟨w.heap.size,rfl,br _,⟨_,S4,λy hy=>?_,λy v hy=>?_⟩,⟨o.os.trans k.os,o.tape.trans k.tape,o.output.trans k.output,by rw[o.size];exact k.size,λi hi=>(o.block i ae).trans<|k.block i hi⟩⟩
 .rw[yT x y hn]at hy;rw[vd];by_cases e:y=x
  .rw[if_pos e]
  .rw[if_neg e];rw[if_neg<|kw e]at hy;exact h2 y hy
 .rw[yT x y hn]at hy;by_cases e:x=y
  .rw[if_pos e]at hy;cases hy
  .rw[if_neg e]at hy;have⟨c,q1,q2⟩:=h3 y v hy;refine⟨c,?_,q2.move LB (λi p _=>o.block i ae)<|λi p _=>p.1⟩;rw[vd];rw[if_neg<|kw e];exact q1
end
def aiQ(l:List Nat)v w gk c(wr:World):=
 ∃j:Nat,Hid (gk=l.length-j)/\j<=l.length/\c=Nv j/\wr=w/\Hid (∀i(hi:i<l.length),i<j->l[i]≠v)
section
variable {w:World} {sc:Nat} {l:List Nat}
def Xg(h:qP w P sa l)(hl:l.length<=1000000000000)v:Cq 373 #[.slice sa l.length sc,Nv v] w λe w'=>∃k,e=.returned (Iv k)/\decide (0<=k)=decide (v∈l)/\w'=w:=by
 go_enter func373,ntmps373
 go_wp2
 go_loopg[8] l.length (λgk c wr=>aiQ l v w gk c wr)
 case atStart=>exact⟨0,ai ag,qn _,rfl,rfl,ai<|λi _ hi=>absurd hi ae⟩
 case round=>
  obtain⟨j,cR,hj,rfl,rfl,mE⟩:=hrel;by_cases aY:j<l.length
  .have hd:(j:Int)<(l.length:Int):=ae;obtain⟨g,rfl,_,iP,bM⟩:=h.resolve_left<|λe=>qBs;have cg:=bM j aY;by_cases HV:v=l[j]
   .generalize hx:l[j]=x at*;subst HV
    go_wp2
    go_ret;refine⟨j,rfl,?_,rfl⟩;have:v∈l:=by rw[<-hx];exact jq aY
    simp[this]
   .have cO:((v:Int)==(l[j]:Int))=false:=bB;generalize hx:l[j]=x at*
    go_wp2
    go_roundg(l.length-(j+1))
    case measure=>rw[uh cR];omega
    case rel=>
     refine⟨j+1,ai rfl,ae,iK,rfl,ai<|λi hi hij=>?_⟩;by_cases e:i=j
     .subst e;rw[hx];exact kw HV
     .exact mE i hi ae
  .have hd:decide ((j:Int)<(l.length:Int))=false:=bB;have ej:j=l.length:=ae;subst ej
   go_wp2
   go_ret;refine⟨-1,rfl,?_,rfl⟩;have:v∉l:=λq=>by
    have⟨i,hi,e⟩:=jt q;exact mE i hi hi e
   simp[this]
def Hu(h:qP w P sa l)(hl:l.length<=1000000000000)v:Cq 369 #[.slice sa l.length sc,Nv v] w λe w'=>e=.returned (.bool<|decide (v∈l))/\w'=w:=by
 have HC:=Xg (sc:=sc) h hl v;go_enter func369,ntmps369;go_wp2_with fail;refine HC.mono ?_;rintro e w1⟨k,rfl,HK,rfl⟩
 go_wp2
 go_ret;refine⟨?_,rfl⟩;rw[<-HK];rfl
end
def Xh{l V:List BA}(h:l.Nodup)(hs:∀x,x∈l->x∈V):l.length<=V.length:=by
 have key:∀(l V:List (List UInt8)),l.Nodup->(∀x,x∈l->x∈V)->l.length<=V.length:=by
  intro l
  induction l with
  |nil=>intro V _ _;simp|cons a l ih=>
   intro V h hs;have ha:=hs a ag;have hn:=List.nodup_cons.1 h;have:=ih (V.erase a) hn.2 λx hx=>(List.mem_erase_of_ne<|λe=>hn.1 (by rw[<-e];exact hx)).2 (hs x<|by simp[hx]);exact Hg
 have:=key (l.map kq) (V.map kq) (by
  rw[qg,j5];exact h.imp λnM q=>nM<|toList_inj q) (λx hx=>by
  obtain⟨y,hy,rfl⟩:=List.mem_map.1 hx
  exact jm<|hs y hy)
 simpa using this
def CM w b(F:Nat->Prop)r:=∃L,MG pT w b L/\(∀n:Nat,aX (n:Int) L=none->¬F n)/\∀(n:Nat)u,aX (n:Int) L=some u->F n/\∃k:Nat,u=Nv k/\1<=k/\k<=r
def yU:Tryz.prog.underlying 171=some (.map 98 3):=qkr
section
variable {w:World} {b:Nat}
def CM.same(h:CM w b F r)(hb:w'.heap[b]? =w.heap[b]?):CM w' b F r:=qAs
def CM.lt(h:CM w b F r):b<w.heap.size:=qAr
def CM.new(w:World):CM (w.alloc<|.map #[] 0) w.heap.size (λ_=>False) 0:=⟨[],MG.new _ w,λ_ _ q=>q,λn u h=>qBg⟩
def CM.look(h:CM w b F r)n:∃k:Nat,(v8 171 (Mv b) (Nv n) false).run qu w=.ok (Nv k) w/\k<=r/\(0<k↔F n):=by
 obtain⟨L,h1,h2,h3⟩:=h;have hl:=h1.ms.look KLV yU (yH w) (n:Int) trivial (λ_ _=>trivial) false
 cases hg:aX (n:Int) L with
 |none=>grind|some u=>
  rw[hg]at hl;obtain⟨q1,k,rfl,q2,q3⟩:=h3 n u hg;exact⟨k,by simpa using hl,q3,⟨λ_=>q1,λ_=>ae⟩⟩
def Hv{a}{Q}(hg:o.guard=none)m x v(rJ:o.op=k9 171 m x v\/o.op=kx 171 m x v)(hm:a.eval m=Mv b)(h:CM w b F r)n k(hk:k<=r)(hx:a.eval x=Nv n)(hv:a.eval v=Iv ((k:Int)+1))(hK:∀w',CM w' b (λi=>F i\/i=n) (r+1)->One b w w'->wpList qu ops Q rest (a.put o.dst undef) w'):
 wpList qu ops Q (o::rest) a w:=by
 obtain⟨L,h1,h2,h3⟩:=h;refine cd KLV yU hg m x v rJ hm h1 (n:Int) _ hx hv λw' hM o=>hK w' ⟨_,hM,λi hi=>?_,λi u hi=>?_⟩ o
 .rw[aO]at hi;by_cases e:(n:Int)=(i:Int)
  .grind
  .grind
 .rw[aO]at hi;by_cases e:(n:Int)=(i:Int)
  .rw[if_pos e]at hi;injection hi with hi;subst hi;exact⟨qh ae,k+1,ag,ae,ae⟩
  .grind
end
def FxD(Γ:zo)κ(done:List BA)v:=∃y c,y∈done/\Γ y=some c/\aD v (sub κ c.of)/\v∉c.any
def FxR b(Γ:zo)κ L w gk wr:=
 ∃done r,IG xq wr (w.heap.size+1) b L done gk/\CM wr w.heap.size (FxD Γ κ done) r/\done.Nodup/\(∀x,x∈done->Γ x≠none)/\r<=done.length*1000000000000/\Bq w wr
def FyR cm(F:Nat->Prop)r(l any:List Nat)w3 gk v wr:=
 ∃j:Nat,Hid (gk=l.length-j)/\j<=l.length/\v=Nv j/\CM wr cm (λi=>F i\/(i∈l.take j/\i∉any)) (r+j)/\Fr (λi=>i=cm) w3 wr
def CM.le{w:World}{b:Nat}{G}{r'}(h:CM w b F r)(hf:∀n,F n↔G n)(hr:r<=r'):CM w b G r':=by grind[CM]
def TH(Γ:zo)κ w(e:Ending)w':=∃cm r,e=.returned (Mv cm)/\w.heap.size<=cm/\r<=1000000000000000000/\CM w' cm (zx Γ κ) r/\Bq w w'
section
variable {w:World} {b:Nat} {κ:Nat->Ty}
def acn(h:bP w P b Γ)(hk:KW w P kb κ)(hkb:P kb)(hf:vN κ){NL:List BA}(hNL:∀x,Γ x≠none->x∈NL)(hNl:NL.length<=1000000)(afP:∀x c,Γ x=some c->c.any.length<=1000000000000):
 Cq 364 #[Mv b,Mv kb] w (TH Γ κ w):=by
 have iN:= @run_makeMap Tryz.prog;have l1:=h.lt;have lk:=hk.lt;obtain⟨L,m1,q1,q2⟩:=h;have k1:Bq w (w.alloc<|.map #[] 0):=bw _;have⟨o,cnt,hrg,lR⟩:=(m1.af k1).range dV;rw[aZ]at hrg lR;have k2:Bq w ((w.alloc<|.map #[] 0).alloc o):=k1.alloc ag _;have HI:=ai lR;have K2:=ai k2;have C0:=(CM.new w).same (w':=(w.alloc<|.map #[] 0).alloc o)<|(MapKept.heap_alloc _ _).2 _ ag;have Q:=And.intro q1 q2;have HK:=ai hk;clear lR k1 k2 m1 q1 q2 hk;go_enter func364,ntmps364
 go_wp2
 go_loopg[] cnt (λgk wr=>FxR b Γ κ L w gk wr)
 case atStart=>exact⟨[],0,HI,C0.le (λn=>⟨λq=>q.elim,λ⟨y,c,q,_⟩=>by simp at q⟩) (br _),qe,(λx hx=>by simp at hx),ag,K2⟩
 case round=>
  clear C0 HI hrg;obtain⟨done,r,HI,hC,HN,HD,hr,HB⟩:=hrel;have HC:=ai hC;have WW:=HI.lt;have zr:=HB.size;have hdl:=qk (Xh HN λx hx=>hNL x<|HD x hx) hNl;have HR:=ai hr;have HDL:=ai hdl;clear hC hr hdl;rcases HI.next (P:=qu) str_inj with⟨ha,DT⟩|⟨x,u,w2,aB,hxd,Ps,DT,Hl,bq,xL,dU,hen⟩
  .go_wp2
   go_ret;refine⟨w.heap.size,done.length*1000000000000,rfl,br _,by have:=uh HDL;omega,HC.le (λn=>⟨λ⟨y,c,_,p1,p2,p3⟩=>⟨y,c,p1,p2,p3⟩,λ⟨y,c,p1,p2,p3⟩=>⟨y,c,?_,p1,p2,p3⟩⟩) HR,HB⟩
   cases hg:aX y L with
   |none=>rw[Q.1 y hg]at p1;cases p1|some v=>exact ha y v hg
  .have⟨c,EC,hc⟩:=Q.2 x u Ps;have ami:wr.heap.size<=w2.heap.size:=ae;have aco:w2.heap.size<=wr.heap.size:=ae;clear dU;have F1:=xL;have kb2:∀i,i<w.heap.size->w2.heap[i]? =w.heap[i]? :=λi hi=>(F1.block i ae ae).trans<|HB.block i hi;have hB2:Bq w w2:=⟨F1.os.trans HB.os,F1.tape.trans HB.tape,F1.output.trans HB.output,ae,kb2⟩;obtain⟨ta,xa,sa,sc,rfl,t1,t2⟩:=hc;have⟨k3,B3⟩:=sf w2 #[Fv ta xa,Lv sa c.any.length sc] 467;have PB:Bq w (w2.alloc<|Cv #[Fv ta xa,Lv sa c.any.length sc] 467):=hB2.alloc ae _;have T2:=t2.move (w':=w2.alloc<|Cv #[Fv ta xa,Lv sa c.any.length sc] 467) PB.size (λi _ hi=>PB.block i hi)<|λi p z=>(⟨p,z⟩:P i/\i<w.heap.size);have CC3:=(HC.same<|F1.block _ ae ae).same (w':=w2.alloc<|Cv #[Fv ta xa,Lv sa c.any.length sc] 467)<|k3.block _ ae;have I3:=Hl.same (k3.block b ae)<|k3.block (w.heap.size+1) ae;have HO:=t_ (HK.af PB) hkb hf (br _)<|t1.af PB;have hal:=afP x c EC;have hzz:=t1.Xd hf<|br _;have Gc:=bZ _ t1.wh λn _=>hf.wh n;have K3:=ai PB;have⟨c3,f3,z3⟩:=uh B3;clear Hl k3 hB2 PB kb2 F1 xL t1 t2 HC HI HB;go_wp2_with fail;refine HO.mono ?_;rintro e w4⟨u4,rfl,hu4,K4⟩;have HV:=fE hu4 hzz;obtain⟨tu,xu,rfl⟩:=hu4.iface;have z4:=K4.size;simp only[aZ]at z4;clear hu4 HO c3 f3 z3;go_wp2_with fail;refine HV.mono ?_;rintro e w5⟨V,rfl,HO5,k5⟩;rw[gW]at HO5
   have yJ:(vars []<|sub κ c.of).length<=1000000000000:=by
    have h1:=gW<|sub κ c.of;rw[<-h1,cr];have h2:=cX (occs<|bG<|sub κ c.of) [];have h3:=cY<|bG<|sub κ c.of;simp only[ua]at h2;omega
   generalize Cb:vars [] (sub κ c.of)=l at*;obtain⟨va,vc,rfl⟩:=dK HO5 (n:=l.length)<|eU l;have Ms:=K4.trans<|k5.mono K4.size;have z45:=Ms.size;simp only[aZ]at z45;have T5:=T2.move (Q:=λi=>P i/\i<w.heap.size) Ms.size (λi p z=>Ms.block i z)<|λ_ p _=>p;have B5:=ai<|B3.below Ms;have CC5:=CC3.same<|Ms.block _ bB;have I5:=I3.same (Ms.block b bB)<|Ms.block (w.heap.size+1) bB;have K5:=K3.trans (Ms.mono (by have:=K3.size;omega));clear k5 Ms HV K4 T2 B3 CC3 I3 K3
   go_wp2
   go_loopg[23] l.length (λgk v wq=>FyR w.heap.size (FxD Γ κ done) r l c.any w5 gk v wq)
   case atStart=>exact⟨0,ai ag,qn _,rfl,CC5.le (λn=>ag) ae,Fr.refl _ _⟩
   case round=>
    obtain⟨j,cR,hj,rfl,HC6,HF6⟩:=hrel;have zq:=HF6.size;have B6:=B5.fr HF6 ae;by_cases aY:j<l.length
    .have hd:(j:Int)<(l.length:Int):=ae;have hjv:j<(nZ l).length:=by rw[eU];exact aY
     have⟨gv,cpv,mv,hv,hgv,iP,_⟩:=ik HO5 ae;injection hv with Mh Th hv3;subst Mh;have cg0:=lQ HO5 j hjv;rw[show(nZ l)[j]=Nv (l[j]) by simp[nZ]]at cg0;have cg:=(qz (a:=⟨gv,j,none⟩)<|HF6.block gv iP ae).trans cg0;have V6:=T5.move (w':=wr) (Q:=λi=>P i/\i<w.heap.size) zq (λi p z=>HF6.block i z ae)<|λ_ p _=>p;have HCo:=Hu (sc:=sc) V6 hal l[j];have HM6:∀i,i∈l.take (j+1)↔i∈l.take j\/i=l[j]:=λi=>by rw[jf aY,List.mem_append,j3]
     have⟨kk,xQ,Xf,_⟩:=HC6.look l[j];generalize hx:l[j]=xx at*;have HRR:Hid (r<=1000000000000000000):=ai (by have h1:=uh HR;have h2:=uh HDL;have h3:done.length*1000000000000<=1000000*1000000000000:=qs _ h2;exact qk h1<|qk h3 aK);have hkb:(kk:Int)+1<=9000000000000000000:=by have:=uh HRR;omega
     obtain⟨c6,f6,z6⟩:=B6;clear V6 hx cg0 Th hv3 DT hen Ps iN;by_cases r_:xx∈c.any
     .rw[decide_eq_true r_]at HCo;go_wp2_with fail;refine HCo.mono ?_;rintro e w7⟨rfl,rfl⟩;clear HCo
      go_wp2
      go_roundg(l.length-(j+1))
      case measure=>rw[uh cR];omega
      case rel=>
       refine⟨j+1,ai rfl,ae,iK,HC6.le (λn=>?_) ae,HF6⟩;rw[HM6 n];constructor
       .rintro(q|⟨q1,q2⟩)
        .exact qi q
        .exact qh ⟨qi q1,q2⟩
       .rintro(q|⟨q1|q1,q2⟩)
        .exact qi q
        .exact qh ⟨q1,q2⟩
        .exact absurd (q1▸r_) q2
     .rw[decide_eq_false r_]at HCo;go_wp2_with fail;refine HCo.mono ?_;rintro e w7⟨rfl,rfl⟩;clear HCo;go_wp2_with(refine Hv rfl _ _ _ (qh rfl) rfl HC6 xx kk Xf rfl rfl ?_;intro w8 H' O';have S8:=ai H';have O8:=ai O';clear H' O');go_roundg(l.length-(j+1))
      case measure=>rw[uh cR];omega
      case rel=>
       have o:=uh O8;refine⟨j+1,ai rfl,ae,iK,S8.le (λn=>?_) ae,HF6.trans ⟨o.os,o.tape,o.output,LB,λi _ hi=>o.block i hi⟩⟩;rw[HM6 n];constructor
       .rintro((q|⟨q1,q2⟩)|q)
        .exact qi q
        .exact qh ⟨qi q1,q2⟩
        .exact qh ⟨qh q,by rw[q];exact r_⟩
       .rintro(q|⟨q1|q1,q2⟩)
        .exact qi (qi q)
        .exact qi (qh ⟨q1,q2⟩)
        .exact qh q1
    .have hd:decide ((j:Int)<(l.length:Int))=false:=bB;have ej:j=l.length:=ae;subst ej;clear B6
     go_wp2
     go_roundg aB
     case measure=>exact bq
     case rel=>
      have f:=HF6;have k5:=K5;refine⟨x::done,r+l.length,I5.same (f.block b ae ae)<|f.block _ ae ae,HC6.le (λn=>?_)<|br _,List.nodup_cons.2 ⟨hxd,HN⟩,?_,by have:=uh HR;simp only[pk];omega,⟨f.os.trans k5.os,f.tape.trans k5.tape,f.output.trans k5.output,by have:=k5.size;omega,λi hi=>(f.block i (by have:=k5.size;omega) ae).trans<|k5.block i hi⟩⟩
      .rw[jc];have hm:n∈l↔aD n (sub κ c.of):=by rw[<-Cb];simpa using bK (sub κ c.of) [] n
       constructor
       .rintro(⟨y,c',p1,p2,p3,p4⟩|⟨p1,p2⟩)
        .exact⟨y,c',jh _ p1,p2,p3,p4⟩
        .exact⟨x,c,ag,EC,hm.1 p1,p2⟩
       .rintro⟨y,c',p1,p2,p3,p4⟩;obtain q|q:=List.mem_cons.1 p1
        .subst q;rw[EC]at p2;injection p2 with p2;subst p2;exact qh ⟨hm.2 p3,p4⟩
        .exact qi ⟨y,c',q,p2,p3,p4⟩
      .intro y hy;obtain q|q:=List.mem_cons.1 hy
       .rw[q,EC];simp
       .exact HD y q
end
abbrev kept(p:Nat->Bool)(l:List Nat):List Nat:=l.filter λn=> !p n
def Ch p(l:List Nat)j(h:j<l.length):kept p (l.take<|j+1)=kept p (l.take j)++(if p l[j]then[]else[l[j]]):=by
 rw[kept];rw[jf h,List.filter_append];congr 1
 cases hp:p l[j]<;>simp[hp]
def afQ g(l:List Nat)p w gk vi vj wr:=
 ∃(i j:Nat)(C:Array Value),Hid (gk=l.length-j)/\i<j/\j<=l.length/\vi=Nv i/\vj=Nv j/\Hid (i=(kept p<|l.take j).length)/\Bx wr g C/\Hid (l.length<=C.size)/\Hid (∀k(h:k<(kept p<|l.take j).length),C[k]? =some (Nv<|(kept p<|l.take j)[k]))/\Hid (∀k(h:k<l.length),j<=k->C[k]? =some (Nv<|l[k]))/\Fr (λb=>b=g) w wr
section
variable {w:World} {l:List Nat}
def afR f cs(l:List Nat)(p:Nat->Bool)g w:=∀(W:World)(n:Nat),n∈l->Fr (λb=>b=g) w W->Cq f (#[Nv n]++cs) W λe w'=>e=.returned (.bool<|p n)/\w'=W
def afS{w}{base}{g c:Nat}(h:gE w e base (.slice (some ⟨g,0,none⟩) n c) xs):∃C:Array Value,Bx w g C/\xs.length<=C.size/\(∀k(hk:k<xs.length),C[k]? =some xs[k])/\n=xs.length/\n<=c/\c<=maxLen:=by
 have h':=h;obtain⟨h1,h2⟩:=h;obtain⟨q,_⟩|⟨g',cap,lO,q,hg,hh,r1,r2,r3,r4⟩:=h2
 .cases q
 .injection q with q1 q2 q3;injection q1 with q1;injection q1 with q1;subst q1 q2 q3;have hz:=(Array.getElem?_eq_some_iff.1 hh).1;refine⟨lO,⟨λo=>by simp[xc,hh],λo=>by simp[xd,hh],hz⟩,ae,λk hk=>?_,rfl,r1,r2⟩;have e1:(List.take (xs.length*1) lO.toList)[k]? =xs[k]? :=by rw[r4]
  rw[jy ae]at e1;rw[<-Array.getElem?_toList,e1,ja hk]
def vO(g:Nat):∀(vs:List Value)(o:Nat)(w:World),Fr (λb=>b=g) w<|w.setCells g o vs
 |[],o,w=>Fr.refl _ _|v::vs,o,w=>((Fr.refl (λb=>b=g) w).set (b:=g) (qi rfl) o v).trans<|vO g vs (o+1) _
def Xi w:(zeroValue 98).run qu w=.ok (Iv 0) w:=qkr
def DY l p g w(e:Ending)w':=∃sa sc,e=.returned (.slice sa (kept p l).length sc)/\qP w' (λb=>b=g) sa (kept p l)/\Fr (λb=>b=g) w w'
def DZ(eg:∀args w,(callFunc f args).run qu w=.ok (.enter f args) w){c:Nat}(ho:gE w 98 base (.slice (some ⟨g,0,none⟩) n c) (nZ l))(hl:l.length<=1000000000000)(hp:afR f cs l p g w):
 Cq 365 #[.slice (some ⟨g,0,none⟩) n c,.func (.func f) #[] cs] w (DY l p g w):=by
 have HI:=n_ (p:=p) eg ho hl<|λW n hn hb=>(hp W n hn<|Fr.of hb).mono λe w'⟨h1,h2⟩=>⟨h1,h2▸xo _ _⟩;have⟨C,hx,Be,hcv,hn,hnc,Ga⟩:=afS ho;rw[eU]at Be hn;subst hn;have akQ:∀k(h:k<l.length),C[k]? =some (Nv<|l[k]):=λk h=>by rw[hcv k (by rw[eU];exact h)];simp[nZ]
 have HX:=ai hx;have HV:=ai akQ;have amj:c<=9223372036854775807:=by rw[maxLen]at Ga;omega
 go_enter func365,ntmps365;go_wp2_with fail;refine HI.mono ?_;rintro e w1⟨k,rfl,hk,K1⟩;have X1:=HX.below K1;obtain⟨rfl,afT⟩|⟨k0,hk0,rfl,hpk,mE⟩:=hk
 .have HA:=ai afT
  go_wp2
  go_ret;have e:kept p l=l:=List.filter_eq_self.2 λx hx=>by simp[uh HA x hx]
  rw[DY];rw[e];exact⟨_,_,rfl,qh ⟨g,rfl,rfl,X1.z,λi hi=>by rw[X1.c i];exact HV i hi⟩,Fr.of K1⟩
 .have cO:((k0:Int)== -1)=false:=beq_eq_false_iff_ne.2 ae;have hkl:kept p (l.take k0)=l.take k0:=List.filter_eq_self.2 λx hx=>by
   have⟨i,hi,e⟩:=jt hx;rw[List.getElem_take]at e;rw[<-e,mE i Gd Gd];rfl
  have HK:kept p (l.take<|k0+1)=l.take k0:=by rw[Ch p l k0 hk0,hkl,hpk];simp
  go_wp2
  go_loopg[5,6] (l.length-(k0+1)) (λgk vi vj wr=>afQ g l p w gk vi vj wr)
  case atStart=>
   refine⟨k0,k0+1,C,ai rfl,ae,ae,rfl,iK,ai (by rw[HK];simp;omega),X1,Be,ai<|λk h=>?_,ai<|λk h _=>HV k h,Fr.of K1⟩;simp only[HK]at h⊢;rw[List.length_take]at h;rw[uh HV k ae,List.getElem_take]
  case round=>
   obtain⟨i,j,C1,cR,hij,aY,rfl,rfl,hi,X2,hC1,qQ,hhi,F2⟩:=hrel;by_cases bq:j<l.length
   .have hd:(j:Int)<(l.length:Int):=ae;have hdi:(i:Int)<(l.length:Int):=ae;have cj:wr.cell? ⟨g,j,none⟩=some (Nv<|l[j]):=by rw[X2.c j];exact hhi j bq<|br _
    have hiC:i<C1.size:=by have:=uh hC1;omega
    have ci:wr.cell? ⟨g,i,none⟩=some C1[i]:=by rw[X2.c i];exact xi hiC
    have fi:=X2.f i;have HC:=hp wr l[j] (jq bq) F2;have HKS:=Ch p l j bq
    cases hq:p l[j]with
    |true=>
     rw[hq]at HC;generalize hxx:l[j]=xx at*;go_wp2_with(go_at_fn f;refine HC.mono ?_;rintro e w2⟨rfl,rfl⟩);go_roundg(l.length-(j+1))
     case measure=>rw[uh cR];omega
     case rel=>
      have ek:kept p (l.take<|j+1)=kept p (l.take j):=by rw[HKS,hq];simp
      refine⟨i,j+1,C1,ai rfl,ae,ae,rfl,iK,ai (by rw[ek];exact hi),X2,hC1,ai<|λk h=>?_,ai<|λk h hk=>hhi k h ae,F2⟩;simp only[ek]at h⊢;exact qQ k h
    |false=>
     rw[hq]at HC;have X3:=X2.aP i (Nv<|l[j]) (C1.setIfInBounds i<|Nv<|l[j]) rfl hiC;generalize hxx:l[j]=xx at*;go_wp2_with(go_at_fn f;refine HC.mono ?_;rintro e w2⟨rfl,rfl⟩);go_roundg(l.length-(j+1))
     case measure=>rw[uh cR];omega
     case rel=>
      have ek:kept p (l.take<|j+1)=kept p (l.take j)++[xx]:=by rw[HKS,hq];simp
      have ei:=uh hi;refine⟨i+1,j+1,C1.setIfInBounds i<|Nv xx,ai rfl,ae,ae,iK,iK,ai (by rw[ek];simp[ei]),X3,ai (by simp;exact hC1),ai<|λk h=>?_,ai<|λk h hk=>?_,F2.set (qi rfl) i _⟩
      .simp only[ek]at h⊢;rw[tQ,List.length_singleton]at h;by_cases e:k=i
       .subst e;rw[List.getElem_append_right ae];simp[hiC]
       .rw[xg<|kw e,jx ae];exact qQ k ae
      .rw[xg ae];exact hhi k h ae
   .have ej:j=l.length:=ae;subst ej;have hd:¬(l.length:Int)<(l.length:Int):=ae;have hic:¬c=i:=ae;have hcl:∀ty,(Builtin.clear_ #[464] ty #[Lv (some ⟨g,i,none⟩) (l.length-i)<|c-i]).run qu wr=.ok (.tuple #[]) (wr.setCells g i<|List.replicate (l.length-i)<|Iv 0):=λty=>
     Lib.run_clear_slice wr _ _ ty _ Cc Xi rfl rfl g i _ _ ae (λt ht=>by rw[X2.c<|i+t,xi (by have:=uh hC1;omega)];rfl) (λt _=>X2.f<|i+t)
    go_wp2
    go_ret;have ei:=uh hi;have F3:=vO g (List.replicate (l.length-i)<|Iv 0) i wr;rw[jc]at ei;have akR:∀k(h:k<(kept p l).length),C1[k]? =some (Nv<|(kept p l)[k]):=by
     have:=uh qQ;simp only[jc]at this;exact this
    rw[DY];refine⟨some ⟨g,0,none⟩,c,by rw[<-ei];rfl,qh ⟨g,rfl,rfl,ql X2.z F3.size,λk hk=>?_⟩,F2.trans F3⟩;rw[World.cell?_setCells_out g _ i wr ⟨g,k,none⟩<|λ_ _=>qi (by show k<i;omega),X2.c k];exact akR k hk
end
def yV{w:World}{v:Value}(eg:∀args w,(callFunc f args).run qu w=.ok (.enter f args) w)(ho:gE w 98 base v (nZ [])):
 Cq 365 #[v,.func (.func f) #[] cs] w λe w'=>∃sa sc,e=.returned (.slice sa 0 sc)/\Bq w w':=by
 have HI:=n_ (p:=λ_=>false) (cs:=cs) eg ho ag (λW n hn _=>by simp at hn);obtain⟨va,vc,rfl⟩:=dK ho (n:=0) (by simp[nZ]);go_enter func365,ntmps365;go_wp2_with fail;refine HI.mono ?_;rintro e w1⟨k,rfl,hk,K1⟩;have ek:k= -1:=by
  obtain⟨q,_⟩|⟨i,hi,_⟩:=hk
  .exact q
  .simp at hi
 subst ek
 go_wp2
 go_ret;exact⟨va,vc,rfl,K1⟩
section
variable {w:World} {b:Nat} {κ:Nat->Ty}
open Classical in
noncomputable def fxB (Γ:zo) (κ:Nat->Ty) (v:Nat):Bool:=decide (zx Γ κ v)
def Mt{cm}(h1:Bx W cb #[Mv cm])(h2:CM W cm (zx Γ κ) r)n:Cq 366 #[Nv n,Pv cb] W λe w'=>e=.returned (.bool<|fxB Γ κ n)/\w'=W:=by
 obtain⟨c1,f1,z1⟩:=h1;have⟨k,hl,_,hk⟩:=h2.look n;have HK:=ai hk;clear hk h2;go_enter func366,ntmps366
 go_wp2
 go_ret;refine⟨?_,rfl⟩;have:decide (0<k)=fxB Γ κ n:=by
  rw[fxB];rw[decide_eq_decide];exact HK
 rw[<-this];rfl
def Mu T:zy Γ κ T=kept (fxB Γ κ) (vars [] T):=by
 rw[zy,kept];congr 1;funext v;by_cases h:zx Γ κ v
 .simp[fxB,h]
 .simp[fxB,h]
def pw P l w(e:Ending)w':=∃sa sc,e=.returned (.slice sa l.length sc)/\qP w' P sa l/\Bq w w'
def acp(h:bP w P b Γ)(hk:KW w P kb κ)(hkb:P kb)(hf:vN κ){NL:List BA}(hNL:∀x,Γ x≠none->x∈NL)(hNl:NL.length<=1000000)(afP:∀x c,Γ x=some c->c.any.length<=1000000000000){T}{v:Value}(ht:cW w Q (bG T) v)(hz:size (bG T)<=1000000000000):
 Cq 359 #[Mv b,Mv kb,v] w (pw (λi=>w.heap.size<=i) (zy Γ κ T) w):=by
 have HF:=acn h hk hkb hf hNL hNl afP;obtain⟨ta,xa,rfl⟩:=ht.iface;go_enter func359,ntmps359;go_wp2_with fail;refine HF.mono ?_;rintro e w1⟨cm,r,rfl,Ga,hr,hC,k1⟩;have⟨k2,B2⟩:=nK w1 #[Mv cm] 171;have K2:=k1.trans<|k2.mono k1.size;have C2:=hC.same<|k2.block cm hC.lt;have zc:=hC.lt;have z1:=k1.size;have HV:=fE (ht.af K2) hz;go_wp2_with fail;refine HV.mono ?_;rintro e w3⟨V,rfl,ho,k3⟩;rw[gW]at ho;have yJ:(vars [] T).length<=1000000000000:=by
  have h1:=gW T;rw[<-h1,cr];have h2:=cX (occs<|bG T) [];have h3:=cY<|bG T;simp only[ua]at h2;omega
 have e0:=Mu (Γ:=Γ) (κ:=κ) T;have K3:=K2.trans<|k3.mono K2.size;have z3:=k3.size;rw[aZ]at z3;have B3:=B2.below k3;have C3:=C2.same (k3.block cm (by rw[aZ];omega));have fP:=iF ho;rw[aZ]at fP;by_cases hl:vars [] T=[]
 .rw[hl]at ho e0;have HD:=yV (cs:=#[Pv w1.heap.size]) (enters_of qy qkr rfl) ho;obtain⟨va,vc,rfl⟩:=dK ho (n:=0) (by simp[nZ]);go_wp2_with fail;refine HD.mono ?_;rintro e w4⟨sa,sc,rfl,K4⟩
  go_wp2
  go_ret;have k:=K3;rw[pw];rw[e0];exact⟨sa,sc,rfl,qi rfl,k.trans<|K4.mono k.size⟩
 .have ab9:0<(nZ<|vars [] T).length:=by rw[eU];exact qt<|λe=>hl<|jj e
  obtain⟨g,cp,m,rfl,hg,iP,_⟩:=ik ho ab9;rw[aZ]at hg;have HD:=DZ (p:=fxB Γ κ) (enters_of qy qkr rfl) ho yJ (cs:=#[Pv w1.heap.size])<|λW n hn hF=>Mt (B3.fr hF ae) (C3.same<|hF.block cm ae ae) n;go_wp2_with fail;refine HD.mono ?_;rintro e w4⟨sa,sc,rfl,HV4,F4'⟩
  go_wp2
  go_ret;have f:=F4';have k:=K3;rw[pw];rw[e0];refine⟨sa,sc,rfl,?_,⟨f.os.trans k.os,f.tape.trans k.tape,f.output.trans k.output,qk k.size f.size,λi hi=>(f.block i (by have:=k.size;omega) ae).trans<|k.block i hi⟩⟩;exact HV4.move (br _) (λ_ _ _=>rfl) (λi p _=>by show w.heap.size<=i;omega)
end
abbrev TeN I D A z:=∀(x:Array Value)(w:World),(v7 (.iface D<|.agg x) I A true).run qu w=.ok (.tuple #[.agg z,.bool false]) w
def xR.te{A}{z}(h:xR A z){I D}(hd:D≠A):TeN I D A z:=λx w=>h I D (.agg x) w hd
end
section
open Go.ChangeMaps Un
def byS:Option (BA×List Nat)->BA
 |none=>⟨#[]⟩|some (c,_)=>pn c
abbrev nA n:=Pv n
def nP:Option Nat->Value
 |none=>.pointer none|some m=>nA m
def slN:Option (BA×List Nat)->Nat
 |none=>0|some (_,l)=>l.length
def eW(w:World)(ds:List Nat)(sa:Option Addr):Option (BA×List Nat)->Prop
 |none=>True|some (c,l)=>CN c/\l.length<=1001/\(∀m∈l,m∈ds)/\(l=[]\/∃g,sa=some ⟨g,0,none⟩/\¬g∈ds/\g<w.heap.size/\∀i(h:i<l.length),w.cell? ⟨g,i,none⟩=some (nA l[i]))
def yW(w:World)(ds:List Nat)(str:rF)(nx:Nx)(vr:Nat->Nat)(ly:Nat->Option Addr×Nat)(n:Nat):Prop:=
 w.heap[n]? =some (.cells #[nP<|nx n,Iv 0,Nv<|vr n,.string<|byS<|str n,.slice (ly n).1 (slN<|str n) (ly n).2] 187 (0,0))/\eW w ds (ly n).1 (str n)/\∀m,nx n=some m->m∈ds
structure GN(w:World)(ds:List Nat)(str:rF)(nx:Nx)(vr:Nat->Nat)(ly:Nat->Option Addr×Nat):Prop where
 nd:∀n,n∈ds->yW w ds str nx vr ly n
 out:∀n,¬n∈ds->nx n=none/\str n=none
 hd:∀n,n∈ds->∃h,Hd nx n h
inductive Hw(nx:Nx):Nat->Nat->Nat->Prop where
 |here{n:Nat}:nx n=none->Hw nx n n 0
 |step{n m h k:Nat}:nx n=some m->Hw nx m h k->Hw nx n h (k+1)
def Hd.len{nx}(k:Hd nx n h):∃j,Hw nx n h j:=by
 induction k with
 |here e=>exact⟨0,.here e⟩|step e _ ih=>obtain⟨j,hj⟩:=ih;exact⟨j+1,.step e hj⟩
def Hw.one{nx}{j h' j'}(k:Hw nx n h j)(k':Hw nx n h' j'):j=j':=by
 induction k generalizing j' with
 |here e=>cases k' with
  |here=>rfl|step e' _=>grind
 |step e _ ih=>cases k' with
  |here e'=>grind|step e' k'=>grind
def Hw.dR{nx}{x h j}(k:Hw nx x h j){n hn jn}(kn:Hw nx n hn jn)(bq:j<jn)v:Hw (dR nx n v) x h j:=by
 induction k with
 | @here x e=>
   have:x≠n:=λq=>by subst q;have:=(Hw.here e).one kn;omega
   exact .here (by simpa[vw,this]using e)
 | @step x m h k e kk ih=>
   have:x≠n:=λq=>by subst q;have:=(Hw.step e kk).one kn;omega
   exact .step (m:=m) (by simpa[vw,this]using e)<|ih ae
structure iD str nx bi:Prop where
 kL:∀V,kK str bi V↔kK str nx V
 mF:∀P,rL str nx P->rL str bi P
 eqs:∀P E,Un.Eq bi P E->Un.Eq nx P E
 jN:∀x h,Hd nx x h->Hd bi x h
 Bf:∀n,bi n=none↔nx n=none
def iD.refl str nx:iD str nx nx:=⟨λ_=>Iff.rfl,λ_ h=>h,λ_ _ h=>h,λ_ _ h=>h,λ_=>Iff.rfl⟩
def iD.trans{str}{a b c}(h:iD str a b)(k:iD str b c):iD str a c:=
 ⟨λV=>(k.kL V).trans<|h.kL V,λP q=>k.mF P<|h.mF P q,λP E q=>h.eqs P E<|k.eqs P E q,λx y q=>k.jN x y<|h.jN x y q,λn=>(k.Bf n).trans<|h.Bf n⟩
def iD.short str{nx}{n m k}(h1:nx n=some m)(h2:nx m=some k)(cO:n≠m):iD str nx (vw nx n<|some k):=
 ⟨λV=>kK.short h1 h2 cO,λP h=>h.short h1 h2 cO,λP E q=>q.H8 h1 h2 cO,λx h j=>j.short h1 h2,λx=>by
  by_cases e:x=n
  .subst e;simp[vw,h1]
  .simp[vw,e]⟩
def yW.cells{w:World}{nx}(h:yW w ds str nx vr ly n):w.cell? ⟨n,0,none⟩=some (nP<|nx n)/\w.frozen? ⟨n,0,none⟩=false/\w.cell? ⟨n,3,none⟩=some (.string<|byS<|str n)/\w.cell? ⟨n,2,none⟩=some (Nv<|vr n)/\w.cell? ⟨n,4,none⟩=some (.slice (ly n).1 (slN<|str n) (ly n).2):=by
 obtain⟨h1,_⟩:=h;exact⟨qBu,by simp[xd,h1],qBu,qBu,qBu⟩
end
end Go.Proofs.YtfnkchdeheeiiaaGreatDoor
